/-
  The set package's Of, InFile, InRank: loops that put squares into a set.
-/
import Derived.Test.YtfemicpfkgecbaaDoorSet5
import Derived.LoopTactic
namespace Go.Proofs.YtfemicpfkgecbaaDoor
open Go.RowKit
set_option linter.unusedVariables false

/-- The set of a list of numbers. -/
def ofN (l : List Int) : Nat := l.foldl (fun n q => n ||| oneN q) 0
theorem ofN_snoc (l : List Int) (q : Int) : ofN (l ++ [q]) = ofN l ||| oneN q := by
  unfold ofN
  rw [List.foldl_append]
  rfl
theorem foldl_sq : ∀ (l : List Int) (n : Nat), Sq n → Sq (l.foldl (fun n q => n ||| oneN q) n)
  | [], _, h => h
  | q :: l, n, h => foldl_sq l (n ||| oneN q) (h.or (oneN_sq q))
theorem ofN_sq (l : List Int) : Sq (ofN l) := foldl_sq l 0 Sq.zero

/-- A set's variable in the call's own memory. -/
structure Var (w : World) (k : Nat) (x y : Int) : Prop where
  lt : k < w.heap.size
  lo : w.cell? ⟨k, 0, none⟩ = some (.int .u64 x)
  hi : w.cell? ⟨k, 1, none⟩ = some (.int .u64 y)
  f0 : w.frozen? ⟨k, 0, none⟩ = false
  f1 : w.frozen? ⟨k, 1, none⟩ = false
theorem Var.grow {w w' : World} {k : Nat} {x y : Int} (h : Var w k x y) (hb : Below w.heap.size w w') : Var w' k x y :=
  ⟨Nat.lt_of_lt_of_le h.lt hb.size, (hb.cell (p := ⟨k, 0, none⟩) h.lt).trans h.lo, (hb.cell (p := ⟨k, 1, none⟩) h.lt).trans h.hi, (hb.frozen (p := ⟨k, 0, none⟩) h.lt).trans h.f0, (hb.frozen (p := ⟨k, 1, none⟩) h.lt).trans h.f1⟩
theorem Var.put {w : World} {k : Nat} {x y : Int} (h : Var w k x y) (x' y' : Int) : Var ((w.setCell ⟨k, 0, none⟩ (.int .u64 x')).setCell ⟨k, 1, none⟩ (.int .u64 y')) k x' y' := by
  obtain ⟨h1, h2, h3, h4, h5⟩ := h
  refine ⟨by simpa using h1, ?_, ?_, ?_, ?_⟩
  · go_simp
  · go_simp
  · go_simp
  · go_simp
theorem Var.other {w : World} {k j : Nat} {x y : Int} (h : Var w k x y) (hj : j ≠ k) (x' y' : Value) : Var ((w.setCell ⟨j, 0, none⟩ x').setCell ⟨j, 1, none⟩ y') k x y := by
  obtain ⟨h1, h2, h3, h4, h5⟩ := h
  refine ⟨by simpa using h1, ?_, ?_, ?_, ?_⟩
  · go_simp
  · go_simp
  · go_simp
  · go_simp

theorem take_step (l : List Int) (k : Nat) (h : k < l.length) : ofN (l.take (k + 1)) = ofN (l.take k) ||| oneN l[k] := by
  rw [List.take_succ_eq_append_getElem h, ofN_snoc]

/-- The squares of a file, and of a rank. -/
def fileL (f : Int) (k : Nat) : List Int := (List.range k).map (fun (r : Nat) => squareF f r)
def rankL (r : Int) (k : Nat) : List Int := (List.range k).map (fun (f : Nat) => squareF f r)
theorem fileL_step (f : Int) (k : Nat) : ofN (fileL f (k + 1)) = ofN (fileL f k) ||| oneN (squareF f k) := by
  unfold fileL
  rw [List.range_succ, List.map_append, List.map_singleton, ofN_snoc]
theorem rankL_step (r : Int) (k : Nat) : ofN (rankL r (k + 1)) = ofN (rankL r k) ||| oneN (squareF k r) := by
  unfold rankL
  rw [List.range_succ, List.map_append, List.map_singleton, ofN_snoc]

theorem inFile_any (f : Int) (w : World) :
    Calls Tryd.prog 94 #[.int .i64 f] w fun e w' => e = .returned (.agg #[.int .u64 (loW (ofN (fileL f 9))), .int .u64 (hiW (ofN (fileL f 9)))]) ∧ Below w.heap.size w w' := by
  go_enter Tryd.func94, Tryd.ntmps94
  go_wp2
  go_loopw [4, 5] (fun _ i wr => ∃ k : Nat, k ≤ 9 ∧ i = .int .i64 k ∧ Below w.heap.size w wr ∧ Var wr w.heap.size 0 0 ∧ Var wr (w.heap.size + 1) (loW (ofN (fileL f k))) (hiW (ofN (fileL f k)))) (fun _ i _ => 9 - (intOf i).toNat)
  case atStart =>
    refine ⟨0, Nat.zero_le _, rfl, ball (ball (bref _) _) _, ⟨?_, ?_, ?_, ?_, ?_⟩, ⟨?_, ?_, ?_, ?_, ?_⟩⟩
    case refine_7 => rw [show ofN (fileL f 0) = 0 from rfl, lo_zero]; go_simp
    case refine_8 => rw [show ofN (fileL f 0) = 0 from rfl, hi_zero]; go_simp
    all_goals first | (go_simp; done) | (simp; done)
  case round =>
    obtain ⟨k, hk, rfl, hB, hR, hV⟩ := hrel
    have HB := Lib.hid hB
    have HR := Lib.hid hR
    have HV := Lib.hid hV
    have hz := hV.lt
    by_cases hlt : k < 9
    · have C := Lib.hid (fun W => with_any (ofN (fileL f k)) (squareF f k) (ofN_sq _) W)
      have Q := Lib.hid (fun W => square_any f k W)
      rw [← fileL_step f k] at C
      have l0 := hV.lo
      have l1 := hV.hi
      have l2 := hV.f0
      have l3 := hV.f1
      clear hB hR hV
      generalize squareF f k = q at C Q
      generalize loW (ofN (fileL f k)) = x at C l0 HV
      generalize hiW (ofN (fileL f k)) = y at C l1 HV
      generalize hx : loW (ofN (fileL f (k + 1))) = x2 at C
      generalize hy : hiW (ofN (fileL f (k + 1))) = y2 at C
      have HX := Lib.hid hx
      have HY := Lib.hid hy
      clear hx hy
      go_wp2
      go_region_with (first
        | (go_at_call 73; refine (Q.out _).mono ?_; rintro e w1 ⟨rfl, rfl⟩)
        | (go_at_call 15; refine (C.out _).mono ?_; rintro e w2 ⟨rfl, hb2⟩; have c0 : w2.cell? ⟨w.heap.size + 1, 0, none⟩ = some (.int .u64 x) := (hb2.cell (p := ⟨w.heap.size + 1, 0, none⟩) hz).trans l0; have c1 : w2.cell? ⟨w.heap.size + 1, 1, none⟩ = some (.int .u64 y) := (hb2.cell (p := ⟨w.heap.size + 1, 1, none⟩) hz).trans l1; have g0 : w2.frozen? ⟨w.heap.size + 1, 0, none⟩ = false := (hb2.frozen (p := ⟨w.heap.size + 1, 0, none⟩) hz).trans l2; have g1 : w2.frozen? ⟨w.heap.size + 1, 1, none⟩ = false := (hb2.frozen (p := ⟨w.heap.size + 1, 1, none⟩) hz).trans l3))
      all_goals
        go_wp2
        go_roundw
        case rel =>
          have hd : Below wr.heap.size wr w2 := (bref wr).drew.trans hb2
          refine ⟨k + 1, by omega, by go_num, ?_, ?_, ?_⟩
          · exact ((HB.out.trans (hd.mono HB.out.size)).setCell (by simp) _).setCell (by simp) _
          · exact (HR.out.grow hd).other (by omega) _ _
          · rw [HX.out, HY.out]
            exact (HV.out.grow hd).put _ _
        case measure => simp [intOf]; omega
    · obtain rfl : k = 9 := by omega
      have l0 := hV.lo
      have l1 := hV.hi
      have r0 := hR.lo
      have r1 := hR.hi
      have r2 := hR.f0
      have r3 := hR.f1
      clear hB hR hV
      generalize hx : loW (ofN (fileL f 9)) = x at l0 HV
      generalize hy : hiW (ofN (fileL f 9)) = y at l1 HV
      have HX := Lib.hid hx
      have HY := Lib.hid hy
      clear hx hy
      go_wp2
      rw [HX.out, HY.out]
      exact bodyPost_ret (v := .agg #[.int .u64 x, .int .u64 y]) (by simp [results, Tryd.results94, go_sem, r0, r1]) rfl
        ⟨rfl, (HB.out.setCell (Nat.le_refl _) _).setCell (Nat.le_refl _) _⟩

end Go.Proofs.YtfemicpfkgecbaaDoor
