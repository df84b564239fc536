/-
  The set package's Of, InFile, InRank: loops that put squares into a set.
-/
import Derived.Test.YtbopbekehccdmaaDoorSet5
import Derived.LoopTactic
namespace Go.Proofs.YtbopbekehccdmaaDoor
open Go.RowKit
set_option linter.unusedVariables false

/-- The set of a list of numbers. -/
def ofN (l : List Int) : Nat := l.foldl (fun n q => n ||| oneN q) 0
theorem ofN_snoc (l : List Int) (q : Int) : ofN (l ++ [q]) = ofN l ||| oneN q := by
  unfold ofN
  rw [List.foldl_append]
  rfl
theorem foldl_sq : ∀ (l : List Int) (n : Nat), Sq n → Sq (l.foldl (fun n q => n ||| oneN q) n)
  | [], _, h => h
  | q :: l, n, h => foldl_sq l (n ||| oneN q) (h.or (oneN_sq q))
theorem ofN_sq (l : List Int) : Sq (ofN l) := foldl_sq l 0 Sq.zero

/-- A set's variable in the call's own memory. -/
structure Var (w : World) (k : Nat) (x y : Int) : Prop where
  lt : k < w.heap.size
  lo : w.cell? ⟨k, 0, none⟩ = some (.int .u64 x)
  hi : w.cell? ⟨k, 1, none⟩ = some (.int .u64 y)
  f0 : w.frozen? ⟨k, 0, none⟩ = false
  f1 : w.frozen? ⟨k, 1, none⟩ = false
theorem Var.grow {w w' : World} {k : Nat} {x y : Int} (h : Var w k x y) (hb : Below w.heap.size w w') : Var w' k x y :=
  ⟨Nat.lt_of_lt_of_le h.lt hb.size, (hb.cell (p := ⟨k, 0, none⟩) h.lt).trans h.lo, (hb.cell (p := ⟨k, 1, none⟩) h.lt).trans h.hi, (hb.frozen (p := ⟨k, 0, none⟩) h.lt).trans h.f0, (hb.frozen (p := ⟨k, 1, none⟩) h.lt).trans h.f1⟩
theorem Var.put {w : World} {k : Nat} {x y : Int} (h : Var w k x y) (x' y' : Int) : Var ((w.setCell ⟨k, 0, none⟩ (.int .u64 x')).setCell ⟨k, 1, none⟩ (.int .u64 y')) k x' y' := by
  obtain ⟨h1, h2, h3, h4, h5⟩ := h
  refine ⟨by simpa using h1, ?_, ?_, ?_, ?_⟩
  · go_simp
  · go_simp
  · go_simp
  · go_simp
theorem Var.other {w : World} {k j : Nat} {x y : Int} (h : Var w k x y) (hj : j ≠ k) (x' y' : Value) : Var ((w.setCell ⟨j, 0, none⟩ x').setCell ⟨j, 1, none⟩ y') k x y := by
  obtain ⟨h1, h2, h3, h4, h5⟩ := h
  refine ⟨by simpa using h1, ?_, ?_, ?_, ?_⟩
  · go_simp
  · go_simp
  · go_simp
  · go_simp

theorem take_step (l : List Int) (k : Nat) (h : k < l.length) : ofN (l.take (k + 1)) = ofN (l.take k) ||| oneN l[k] := by
  rw [List.take_succ_eq_append_getElem h, ofN_snoc]

theorem of_any (b off cap : Nat) (l : List Int) (w : World) (hlen : l.length ≤ 140737488351232) (hb : b < w.heap.size)
    (hc : ∀ (j : Nat) (hj : j < l.length), w.cell? ⟨b, off + j, none⟩ = some (.int .i64 l[j])) :
    Calls Tryd.prog 47 #[.slice (some ⟨b, off, none⟩) l.length cap] w fun e w' => e = .returned (.agg #[.int .u64 (loW (ofN l)), .int .u64 (hiW (ofN l))]) ∧ Below w.heap.size w w' := by
  have HC := Lib.hid hc
  clear hc
  go_enter Tryd.func47, Tryd.ntmps47
  go_wp2
  go_loopw [5, 8] (fun _ i wr => ∃ k : Nat, k ≤ l.length ∧ i = .int .i64 k ∧ Below w.heap.size w wr ∧ Var wr w.heap.size 0 0 ∧ Var wr (w.heap.size + 1) (loW (ofN (l.take k))) (hiW (ofN (l.take k)))) (fun _ i _ => l.length - (intOf i).toNat)
  case atStart =>
    refine ⟨0, Nat.zero_le _, rfl, ball (ball (bref _) _) _, ⟨?_, ?_, ?_, ?_, ?_⟩, ⟨?_, ?_, ?_, ?_, ?_⟩⟩
    case refine_7 => rw [List.take_zero, show ofN [] = 0 from rfl, lo_zero]; go_simp
    case refine_8 => rw [List.take_zero, show ofN [] = 0 from rfl, hi_zero]; go_simp
    all_goals first | (go_simp; done) | (simp; done)
  case round =>
    obtain ⟨k, hk, rfl, hB, hR, hV⟩ := hrel
    have HB := Lib.hid hB
    have HR := Lib.hid hR
    have HV := Lib.hid hV
    have hz := hV.lt
    by_cases hlt : k < l.length
    · have hcell : wr.cell? ⟨b, off + k, none⟩ = some (.int .i64 l[k]) := (hB.cell (p := ⟨b, off + k, none⟩) hb).trans (HC.out k hlt)
      have C := Lib.hid (fun W => with_any (ofN (l.take k)) l[k] (ofN_sq _) W)
      rw [← take_step l k hlt] at C
      have l0 := hV.lo
      have l1 := hV.hi
      have l2 := hV.f0
      have l3 := hV.f1
      clear hB hR hV HC
      generalize l[k] = q at C hcell
      generalize loW (ofN (l.take k)) = x at C l0 HV
      generalize hiW (ofN (l.take k)) = y at C l1 HV
      generalize hx : loW (ofN (l.take (k + 1))) = x2 at C
      generalize hy : hiW (ofN (l.take (k + 1))) = y2 at C
      have HX := Lib.hid hx
      have HY := Lib.hid hy
      clear hx hy
      go_wp2_with (go_at_call 20; refine (C.out _).mono ?_; rintro e w2 ⟨rfl, hb2⟩; obtain ⟨hc2, hf2⟩ := bcells hb2; have hz2 : wr.heap.size ≤ w2.heap.size := hb2.size)
      go_roundw
      case rel =>
        refine ⟨k + 1, by omega, by go_num, ?_, ?_, ?_⟩
        · exact ((HB.out.trans (hb2.mono HB.out.size)).setCell (by simp) _).setCell (by simp) _
        · exact (HR.out.grow hb2).other (by omega) _ _
        · rw [HX.out, HY.out]
          exact (HV.out.grow hb2).put _ _
      case measure => simp [intOf]; omega
    · obtain rfl : k = l.length := by omega
      rw [List.take_length] at HV hV
      have l0 := hV.lo
      have l1 := hV.hi
      have r0 := hR.lo
      have r1 := hR.hi
      have r2 := hR.f0
      have r3 := hR.f1
      clear hB hR hV HC
      generalize hx : loW (ofN l) = x at l0 HV
      generalize hy : hiW (ofN l) = y at l1 HV
      have HX := Lib.hid hx
      have HY := Lib.hid hy
      clear hx hy
      go_wp2
      rw [HX.out, HY.out]
      exact bodyPost_ret (v := .agg #[.int .u64 x, .int .u64 y]) (by simp [results, Tryd.results47, go_sem, r0, r1]) rfl
        ⟨rfl, (HB.out.setCell (Nat.le_refl _) _).setCell (Nat.le_refl _) _⟩

theorem of_empty (a : Option Addr) (cap : Nat) (w : World) :
    Calls Tryd.prog 47 #[.slice a 0 cap] w fun e w' => e = .returned (.agg #[.int .u64 (loW 0), .int .u64 (hiW 0)]) ∧ Below w.heap.size w w' := by
  rw [lo_zero, hi_zero]
  go_enter Tryd.func47, Tryd.ntmps47
  go_wp2
  go_loop [8] (fun i => i = .int .i64 0) (fun _ => 0)
  case atStart => rfl
  case round =>
    subst hrel
    go_wp2
    exact bodyPost_ret (v := .agg #[.int .u64 0, .int .u64 0]) (by simp [results, Tryd.results47, go_sem]) rfl
      ⟨rfl, ball (ball (bref _) _) _⟩

/-- The squares of a file, and of a rank. -/
def fileL (f : Int) (k : Nat) : List Int := (List.range k).map (fun (r : Nat) => squareF f r)
def rankL (r : Int) (k : Nat) : List Int := (List.range k).map (fun (f : Nat) => squareF f r)
theorem fileL_step (f : Int) (k : Nat) : ofN (fileL f (k + 1)) = ofN (fileL f k) ||| oneN (squareF f k) := by
  unfold fileL
  rw [List.range_succ, List.map_append, List.map_singleton, ofN_snoc]
theorem rankL_step (r : Int) (k : Nat) : ofN (rankL r (k + 1)) = ofN (rankL r k) ||| oneN (squareF k r) := by
  unfold rankL
  rw [List.range_succ, List.map_append, List.map_singleton, ofN_snoc]

theorem inFile_any (f : Int) (w : World) :
    Calls Tryd.prog 126 #[.int .i64 f] w fun e w' => e = .returned (.agg #[.int .u64 (loW (ofN (fileL f 9))), .int .u64 (hiW (ofN (fileL f 9)))]) ∧ Below w.heap.size w w' := by
  go_enter Tryd.func126, Tryd.ntmps126
  go_wp2
  go_loopw [4, 5] (fun _ i wr => ∃ k : Nat, k ≤ 9 ∧ i = .int .i64 k ∧ Below w.heap.size w wr ∧ Var wr w.heap.size 0 0 ∧ Var wr (w.heap.size + 1) (loW (ofN (fileL f k))) (hiW (ofN (fileL f k)))) (fun _ i _ => 9 - (intOf i).toNat)
  case atStart =>
    refine ⟨0, Nat.zero_le _, rfl, ball (ball (bref _) _) _, ⟨?_, ?_, ?_, ?_, ?_⟩, ⟨?_, ?_, ?_, ?_, ?_⟩⟩
    case refine_7 => rw [show ofN (fileL f 0) = 0 from rfl, lo_zero]; go_simp
    case refine_8 => rw [show ofN (fileL f 0) = 0 from rfl, hi_zero]; go_simp
    all_goals first | (go_simp; done) | (simp; done)
  case round =>
    obtain ⟨k, hk, rfl, hB, hR, hV⟩ := hrel
    have HB := Lib.hid hB
    have HR := Lib.hid hR
    have HV := Lib.hid hV
    have hz := hV.lt
    by_cases hlt : k < 9
    · have C := Lib.hid (fun W => with_any (ofN (fileL f k)) (squareF f k) (ofN_sq _) W)
      have Q := Lib.hid (fun W => square_any f k W)
      rw [← fileL_step f k] at C
      have l0 := hV.lo
      have l1 := hV.hi
      have l2 := hV.f0
      have l3 := hV.f1
      clear hB hR hV
      generalize squareF f k = q at C Q
      generalize loW (ofN (fileL f k)) = x at C l0 HV
      generalize hiW (ofN (fileL f k)) = y at C l1 HV
      generalize hx : loW (ofN (fileL f (k + 1))) = x2 at C
      generalize hy : hiW (ofN (fileL f (k + 1))) = y2 at C
      have HX := Lib.hid hx
      have HY := Lib.hid hy
      clear hx hy
      go_wp2
      go_region_with (first
        | (go_at_call 98; refine (Q.out _).mono ?_; rintro e w1 ⟨rfl, rfl⟩)
        | (go_at_call 20; refine (C.out _).mono ?_; rintro e w2 ⟨rfl, hb2⟩; have c0 : w2.cell? ⟨w.heap.size + 1, 0, none⟩ = some (.int .u64 x) := (hb2.cell (p := ⟨w.heap.size + 1, 0, none⟩) hz).trans l0; have c1 : w2.cell? ⟨w.heap.size + 1, 1, none⟩ = some (.int .u64 y) := (hb2.cell (p := ⟨w.heap.size + 1, 1, none⟩) hz).trans l1; have g0 : w2.frozen? ⟨w.heap.size + 1, 0, none⟩ = false := (hb2.frozen (p := ⟨w.heap.size + 1, 0, none⟩) hz).trans l2; have g1 : w2.frozen? ⟨w.heap.size + 1, 1, none⟩ = false := (hb2.frozen (p := ⟨w.heap.size + 1, 1, none⟩) hz).trans l3))
      all_goals
        go_wp2
        go_roundw
        case rel =>
          have hd : Below wr.heap.size wr w2 := (bref wr).drew.trans hb2
          refine ⟨k + 1, by omega, by go_num, ?_, ?_, ?_⟩
          · exact ((HB.out.trans (hd.mono HB.out.size)).setCell (by simp) _).setCell (by simp) _
          · exact (HR.out.grow hd).other (by omega) _ _
          · rw [HX.out, HY.out]
            exact (HV.out.grow hd).put _ _
        case measure => simp [intOf]; omega
    · obtain rfl : k = 9 := by omega
      have l0 := hV.lo
      have l1 := hV.hi
      have r0 := hR.lo
      have r1 := hR.hi
      have r2 := hR.f0
      have r3 := hR.f1
      clear hB hR hV
      generalize hx : loW (ofN (fileL f 9)) = x at l0 HV
      generalize hy : hiW (ofN (fileL f 9)) = y at l1 HV
      have HX := Lib.hid hx
      have HY := Lib.hid hy
      clear hx hy
      go_wp2
      rw [HX.out, HY.out]
      exact bodyPost_ret (v := .agg #[.int .u64 x, .int .u64 y]) (by simp [results, Tryd.results126, go_sem, r0, r1]) rfl
        ⟨rfl, (HB.out.setCell (Nat.le_refl _) _).setCell (Nat.le_refl _) _⟩

end Go.Proofs.YtbopbekehccdmaaDoor
