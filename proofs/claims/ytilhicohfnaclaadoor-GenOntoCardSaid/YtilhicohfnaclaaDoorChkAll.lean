/-
  board.Check's parts: isKnown.
-/
import Derived.Test.YtilhicohfnaclaaDoorBrdAll
import Derived.Deep.WholeRow
import Derived.Laws.Rows
import Derived.Test.YtilhicohfnaclaaDoorFar
namespace Go.Proofs.YtilhicohfnaclaaDoor
set_option maxRecDepth 100000
open Go.RowKit
set_option linter.unusedVariables false
set_option linter.unusedSimpArgs false

def allB (f : Nat → Bool) : Nat → Bool
  | 0 => true
  | k + 1 => allB f k && f k
theorem allB_iff (f : Nat → Bool) : ∀ k, allB f k = true ↔ ∀ i, i < k → f i = true
  | 0 => by simp [allB]
  | k + 1 => by
    unfold allB
    rw [Bool.and_eq_true, allB_iff f k]
    constructor
    · intro h i hi
      by_cases e : i = k
      · rw [e]; exact h.2
      · exact h.1 i (by omega)
    · intro h
      exact ⟨fun i hi => h i (by omega), h k (by omega)⟩
theorem allB_no {f : Nat → Bool} {j k : Nat} (h : f j = false) (hj : j < k) : allB f k = false := by
  cases e : allB f k with
  | false => rfl
  | true => rw [(allB_iff f k).1 e j hj] at h; cases h
theorem allB_step {f : Nat → Bool} {j : Nat} (h : allB f j = true) (hf : f j = true) : allB f (j + 1) = true := by
  unfold allB
  rw [h, hf]
  rfl

def knownQ (z : List Int) (q : Nat) : Bool := decide (at8 z q = 0) || !decide (kindF (at8 z q) = 0)
def knownH (z : List Int) (j : Nat) : Bool := !(decide (at8 z (81 + j) < 0) || (decide (j % 8 = 0) && !decide (at8 z (81 + j) = 0)))
def knownB (z : List Int) : Bool := allB (knownQ z) 81 && allB (knownH z) 16

/-- What a walk over a raw position's argument begins with: its cells, the board's, the hands'. -/
structure PosRows (w : World) (z : List Int) (bs hs : List Value) : Prop where
  b : (w.alloc (.cells (posC z).toArray 28)).rangeAt w.heap.size 0 bs
  h : (w.alloc (.cells (posC z).toArray 28)).rangeAt w.heap.size 81 hs
  bl : bs.length = 81
  hl : hs.length = 16
  bg : ∀ j, j < 81 → bs[j]? = some (.int .i8 (at8 z j))
  hg : ∀ j, j < 16 → hs[j]? = some (.int .i8 (at8 z (81 + j)))
theorem posRows (z : List Int) (hz : z.length = 98) (w : World) : ∃ bs hs, PosRows w z bs hs := by
  have hl : (posC z).length = 98 := by rw [posC_len, hz]
  have hC : ∀ j, j < 98 → (posC z)[j]? = some (.int .i8 (at8 z j)) := fun j hj => posC_get z j (by omega)
  refine ⟨((posC z).drop 0).take 81, ((posC z).drop 81).take 16, ⟨part_range (box_range w (posC z) _) 0 81, part_range (box_range w (posC z) _) 81 16, ?_, ?_, ?_, ?_⟩⟩
  · rw [List.length_take, List.length_drop, hl]; rfl
  · rw [List.length_take, List.length_drop, hl]; rfl
  · exact fun j hj => drop_get (by rw [Nat.zero_add]; exact hC j (by omega)) hj
  · exact fun j hj => drop_get (hC (81 + j) (by omega)) hj

/-- One hand's row, cut out of both. -/
structure HandRow (z : List Int) (s : Nat) (hs row : List Value) : Prop where
  e : row = (hs.drop (s * 8)).take 8
  l : row.length = 8
  g : ∀ j, j < 8 → row[j]? = some (.int .i8 (at8 z (81 + (8 * s + j))))
  one : row.toArray.all (·.oneCell') = true
theorem handRow (z : List Int) (hs : List Value) (hl : hs.length = 16) (hg : ∀ j, j < 16 → hs[j]? = some (.int .i8 (at8 z (81 + j)))) (s : Nat) (hs2 : s < 2) : HandRow z s hs ((hs.drop (s * 8)).take 8) := by
  have hrow : ∀ j, j < 8 → ((hs.drop (s * 8)).take 8)[j]? = some (.int .i8 (at8 z (81 + (8 * s + j)))) := fun j hj => drop_get (by rw [Nat.mul_comm 8 s]; exact hg (s * 8 + j) (by omega)) hj
  have hrl : ((hs.drop (s * 8)).take 8).length = 8 := by rw [List.length_take, List.length_drop, hl]; omega
  refine ⟨rfl, hrl, hrow, all_oneCell_toArray (fun v hv => ?_)⟩
  obtain ⟨j, hj, rfl⟩ := List.mem_iff_getElem.1 hv
  have := hrow j (by omega)
  rw [List.getElem?_eq_getElem hj] at this
  rw [Option.some.inj this]
  rfl

set_option maxHeartbeats 2000000 in
theorem isKnown_any (z : List Int) (hz : z.length = 98) (h8 : I8s z) (w : World) :
    Calls Tryd.prog 105 #[.agg (posC z).toArray] w fun e w' => e = .returned (.bool (knownB z)) ∧ Below w.heap.size w w' := by
  have K := Lib.hid (fun (x : Int) (h : -128 ≤ x ∧ x ≤ 127) W => kind_any x W h.1 h.2)
  have H8 := Lib.hid h8
  obtain ⟨bs, hs, hR⟩ := posRows z hz w
  have HR := Lib.hid hR
  have hw1 : w.heap.size < (w.alloc (.cells (posC z).toArray 28)).heap.size := by simp
  have hb0 := Lib.hid (ball (bref w) (.cells (posC z).toArray 28))
  clear hR hz h8
  go_enter Tryd.func105, Tryd.ntmps105
  go_wp2_with (refine wpList_load_mid rfl _ _ rfl w.heap.size 0 rfl bs _ HR.out.b Tryd.underlying24 rfl (by rw [HR.out.bl]; kernel_rfl) ?_)
  have HR1 := Lib.hid HR.out.h
  generalize w.alloc (.cells (posC z).toArray 28) = w1 at HR1 hb0 hw1 ⊢
  go_loopw [4, 11] (fun _ i wr => ∃ j : Nat, j ≤ 81 ∧ i = .int .i64 j ∧ allB (knownQ z) j = true ∧ Below w1.heap.size w1 wr) (fun _ i _ => 81 - (intOf i).toNat)
  case atStart => exact ⟨0, Nat.zero_le _, rfl, rfl, bref _⟩
  case round =>
    obtain ⟨j, hj, rfl, hall, hB⟩ := hrel
    have HW := Lib.hid hB
    have HALL := Lib.hid hall
    clear hB hall
    by_cases hlt : j < 81
    · have hx := fun W => run_index_cell (P := Tryd.prog) W 24 23 81 bs.toArray j (.int .i8 (at8 z j)) Tryd.underlying24 (by kernel_rfl) (by kernel_rfl) hlt (by simpa using HR.out.bg j hlt)
      have C := Lib.hid (fun W => K.out (at8 z j) (H8.out.at j) W)
      have hk : knownQ z j = (decide (at8 z j = 0) || !decide (kindF (at8 z j) = 0)) := rfl
      generalize at8 z j = x at hx C hk
      generalize kindF x = kx at C hk
      by_cases h0 : x = 0
      · subst h0
        have hk1 := Lib.hid (show knownQ z j = true by rw [hk]; rfl)
        clear hk
        go_wp2
        go_roundw
        case rel => exact ⟨j + 1, by omega, by go_num, allB_step HALL.out hk1.out, HW.out⟩
        case measure => simp [intOf]; omega
      · have n0 : (x == 0) = false := by simpa using h0
        by_cases h1 : kx = 0
        · subst h1
          have hk1 := Lib.hid (show knownQ z j = false by rw [hk, decide_eq_false h0]; rfl)
          clear hk
          go_wp2_with (go_at_call 88; refine (C.out _).mono ?_; rintro e w2 ⟨rfl, rfl⟩)
          go_ret
          refine ⟨?_, hb0.out.trans (HW.out.mono (Nat.le_of_lt hw1))⟩
          unfold knownB
          rw [allB_no hk1.out hlt]
          rfl
        · have n1 : (kx == 0) = false := by simpa using h1
          have hk1 := Lib.hid (show knownQ z j = true by rw [hk, decide_eq_false h0, decide_eq_false h1]; rfl)
          clear hk
          go_wp2_with (go_at_call 88; refine (C.out _).mono ?_; rintro e w2 ⟨rfl, rfl⟩)
          go_roundw
          case rel => exact ⟨j + 1, by omega, by go_num, allB_step HALL.out hk1.out, HW.out⟩
          case measure => simp [intOf]; omega
    · obtain rfl : j = 81 := by omega
      have HR2' := Lib.hid (range_grow HR1.out hw1 HW.out)
      go_wp2_with (refine wpList_load_mid rfl _ _ rfl w.heap.size 81 rfl hs _ HR2'.out Tryd.underlying26 rfl (by rw [HR.out.hl]; kernel_rfl) ?_)
      clear HR1 HR2'
      go_loopw [6, 7, 8, 24] (fun _ _ _ i wr => ∃ s : Nat, s ≤ 2 ∧ i = .int .i64 s ∧ allB (knownH z) (8 * s) = true ∧ Below w1.heap.size w1 wr) (fun _ _ _ i _ => 2 - (intOf i).toNat)
      case atStart => exact ⟨0, Nat.zero_le _, rfl, rfl, HW.out⟩
      case round =>
        obtain ⟨s, hs2, rfl, hall, hB⟩ := hrel
        have HW := Lib.hid hB
        have HALLH := Lib.hid hall
        clear hB hall
        by_cases hlt : s < 2
        · have hx0 := fun W => run_index_row (P := Tryd.prog) W 26 25 2 8 _ hs.toArray s Tryd.underlying26 Tryd.underlying25 rfl (by kernel_rfl) hlt
          rw [extract_row] at hx0
          have hrow := handRow z hs HR.out.hl HR.out.hg s hlt
          generalize (hs.drop (s * 8)).take 8 = row at hx0 hrow
          have HROW := Lib.hid hrow
          clear hrow
          have hst : (storeCells ⟨wr.heap.size, 0, none⟩ row 0).run Tryd.prog (wr.alloc (.cells #[.int .i8 0, .int .i8 0, .int .i8 0, .int .i8 0, .int .i8 0, .int .i8 0, .int .i8 0, .int .i8 0] 25)) = .ok () (wr.alloc (.cells row.toArray 25)) :=
            run_storeCells_new wr 25 _ row.toArray (by rw [List.size_toArray, HROW.out.l]; kernel_rfl) (show (8 : Nat) = row.toArray.size by rw [List.size_toArray, HROW.out.l]) HROW.out.one
          have hrl8 := HROW.out.l
          go_wp2_with (refine wpList_load_row rfl 25 _ rfl wr.heap.size rfl 25 _ _ _ (heap_alloc_new wr _) Tryd.underlying25 rfl (by rw [List.size_toArray, HROW.out.l]; kernel_rfl) ?_)
          clear hst hx0 hrl8
          have HW3 := Lib.hid (HW.out.trans ((ball (bref wr) (.cells row.toArray 25)).mono HW.out.size))
          clear HW
          generalize wr.alloc (.cells row.toArray 25) = w3 at HW3 ⊢
          go_loopw [7, 8, 28] (fun _ _ i wr => ∃ j : Nat, j ≤ 8 ∧ i = .int .i64 j ∧ allB (knownH z) (8 * s + j) = true ∧ Below w1.heap.size w1 wr) (fun _ _ i _ => 8 - (intOf i).toNat)
          case atStart => exact ⟨0, Nat.zero_le _, rfl, HALLH.out, HW3.out⟩
          case round =>
            obtain ⟨j, hj, rfl, hall, hB⟩ := hrel
            have HW := Lib.hid hB
            have HALLJ := Lib.hid hall
            clear hB hall HW3 HALLH
            by_cases hlt8 : j < 8
            · have hx := fun W => run_index_cell (P := Tryd.prog) W 25 22 8 row.toArray j (.int .i8 (at8 z (81 + (8 * s + j)))) Tryd.underlying25 (by kernel_rfl) (by kernel_rfl) hlt8 (by simpa using HROW.out.g j hlt8)
              have hk : knownH z (8 * s + j) = !(decide (at8 z (81 + (8 * s + j)) < 0) || (decide (j = 0) && !decide (at8 z (81 + (8 * s + j)) = 0))) := by
                unfold knownH
                rw [show (8 * s + j) % 8 = j by omega]
              generalize at8 z (81 + (8 * s + j)) = x at hx hk
              by_cases hbad : x < 0 ∨ (j = 0 ∧ x ≠ 0)
              · have hk1 := Lib.hid (show knownH z (8 * s + j) = false by
                  rw [hk]
                  rcases hbad with h | ⟨h, h'⟩
                  · rw [decide_eq_true h]; rfl
                  · rw [decide_eq_true h, decide_eq_false h']; cases decide (x < 0) <;> rfl)
                clear hk
                have fin : ∀ w', Below w1.heap.size w1 w' → Ending.returned (Value.bool false) = Ending.returned (Value.bool (knownB z)) ∧ Below w.heap.size w w' := by
                  intro w' h
                  refine ⟨?_, hb0.out.trans (h.mono (Nat.le_of_lt hw1))⟩
                  unfold knownB
                  rw [allB_no hk1.out (by omega : 8 * s + j < 16), Bool.and_false]
                have FIN := Lib.hid fin
                clear fin
                rcases hbad with h | ⟨h0, h'⟩
                · go_wp2
                  go_ret
                  exact FIN.out _ HW.out
                · have j0 : ((j : Int) == 0) = true := by simpa using h0
                  clear h0
                  by_cases h : x < 0
                  · go_wp2
                    go_ret
                    exact FIN.out _ HW.out
                  · have n0 : (x == 0) = false := by simpa using h'
                    go_wp2
                    go_ret
                    exact FIN.out _ HW.out
              · have hk1 := Lib.hid (show knownH z (8 * s + j) = true by
                  rw [hk, decide_eq_false (fun h => hbad (.inl h))]
                  by_cases h : j = 0
                  · rw [decide_eq_true h, decide_eq_true (show x = 0 by omega)]; rfl
                  · rw [decide_eq_false h]; rfl)
                clear hk
                have nb : ¬ x < 0 := fun h => hbad (.inl h)
                by_cases h : j = 0
                · obtain rfl : x = 0 := by omega
                  have j0 : ((j : Int) == 0) = true := by simpa using h
                  clear hbad h
                  go_wp2
                  go_roundw
                  case rel => exact ⟨j + 1, by omega, by go_num, allB_step HALLJ.out hk1.out, HW.out⟩
                  case measure => simp [intOf]; omega
                · have nj : ((j : Int) == 0) = false := by simpa using h
                  clear hbad
                  go_wp2
                  go_roundw
                  case rel => exact ⟨j + 1, by omega, by go_num, allB_step HALLJ.out hk1.out, HW.out⟩
                  case measure => simp [intOf]; omega
            · obtain rfl : j = 8 := by omega
              go_wp2
              go_roundw
              case rel => exact ⟨s + 1, by omega, by go_num, by rw [show 8 * (s + 1) = 8 * s + 8 by omega]; exact HALLJ.out, HW.out⟩
              case measure => simp [intOf]; omega
        · obtain rfl : s = 2 := by omega
          go_wp2
          go_ret
          refine ⟨?_, hb0.out.trans (HW.out.mono (Nat.le_of_lt hw1))⟩
          unfold knownB
          rw [HALL.out, show (16 : Nat) = 8 * 2 from rfl, HALLH.out]
          rfl
end Go.Proofs.YtilhicohfnaclaaDoor

/-
  board.Check's parts: the census.
-/
namespace Go.Proofs.YtilhicohfnaclaaDoor
set_option maxRecDepth 100000
open Go.RowKit
set_option linter.unusedVariables false
set_option linter.unusedSimpArgs false

/-- A census: how many kings of each side, then how many of each kind from 0 to 8. -/
def cenC (F : Nat → Int) : List Value := (List.range 11).map (fun t => .int .i64 (F t))
def CenAt (w : World) (b : Nat) (F : Nat → Int) : Prop := w.heap[b]? = some (.cells (cenC F).toArray 115)
def putF (F : Nat → Int) (i : Nat) (v : Int) : Nat → Int := fun t => if t = i then v else F t
theorem cenC_len (F : Nat → Int) : (cenC F).length = 11 := by simp [cenC]
theorem cenC_get (F : Nat → Int) (t : Nat) (ht : t < 11) : (cenC F)[t]? = some (.int .i64 (F t)) := by
  unfold cenC
  rw [List.getElem?_map, List.getElem?_range ht]
  rfl
theorem cenC_set (F : Nat → Int) (i : Nat) (v : Int) : (cenC F).set i (.int .i64 v) = cenC (putF F i v) := by
  apply List.ext_getElem?
  intro t
  rw [List.getElem?_set, cenC_len]
  by_cases ht : t < 11
  · rw [cenC_get F t ht, cenC_get _ t ht]
    unfold putF
    by_cases h : i = t
    · subst h; rw [if_pos rfl, if_pos ht, if_pos rfl]
    · rw [if_neg h, if_neg (fun e => h e.symm)]
  · rw [List.getElem?_eq_none (by rw [cenC_len]; omega), List.getElem?_eq_none (by rw [cenC_len]; omega)]
    by_cases h : i = t
    · subst h; rw [if_pos rfl, if_neg ht]
    · rw [if_neg h]
theorem cenC_congr (F G : Nat → Int) (h : ∀ t, t < 11 → F t = G t) : cenC F = cenC G := by
  unfold cenC
  apply List.map_congr_left
  intro t ht
  rw [h t (List.mem_range.1 ht)]
theorem cenC_one (F : Nat → Int) : (cenC F).toArray.all (·.oneCell') = true := all_oneCell_toArray (fun v hv => by
  obtain ⟨x, _, rfl⟩ := List.mem_map.1 hv
  rfl)
theorem CenAt.lt {w : World} {b : Nat} {F : Nat → Int} (h : CenAt w b F) : b < w.heap.size := (Array.getElem?_eq_some_iff.1 h).1
theorem CenAt.grow {w w' : World} {b : Nat} {F : Nat → Int} (h : CenAt w b F) (hb : Below w.heap.size w w') : CenAt w' b F := (hb.block b h.lt).trans h
theorem CenAt.cell {w : World} {b : Nat} {F : Nat → Int} (h : CenAt w b F) (t : Nat) (ht : t < 11) : w.cell? ⟨b, t, none⟩ = some (.int .i64 (F t)) := by
  rw [cell_of_row w b t _ _ _ h]
  simpa using cenC_get F t ht
theorem CenAt.frozen {w : World} {b : Nat} {F : Nat → Int} (h : CenAt w b F) (j : Nat) : w.frozen? ⟨b, j, none⟩ = false := frozen_of_row _ _ _ _ _ h
theorem CenAt.set {w : World} {b : Nat} {F : Nat → Int} (h : CenAt w b F) (i : Nat) (v : Int) : CenAt (w.setCell ⟨b, i, none⟩ (.int .i64 v)) b (putF F i v) := by
  unfold CenAt
  rw [heap_setCell_same _ _ _ _ _ _ h, List.setIfInBounds_toArray, cenC_set]
theorem CenAt.congr {w : World} {b : Nat} {F G : Nat → Int} (h : CenAt w b F) (hS : ∀ t, t < 11 → F t = G t) : CenAt w b G := by
  unfold CenAt at *
  rw [← cenC_congr F G hS]
  exact h
theorem CenAt.range {w : World} {b : Nat} {F : Nat → Int} (h : CenAt w b F) : w.rangeAt b 0 (cenC F) := fun j v hv => by
  rw [Nat.zero_add]
  have hj : j < 11 := by
    have := (List.getElem?_eq_some_iff.1 hv).1
    simpa [cenC] using this
  rw [h.cell j hj, ← cenC_get F j hj, hv]
theorem infoCen : (Tryd.prog.info? 115).map (·.size) = some 11 := by kernel_rfl

/-- The census when one thing more is counted. -/
def addF (F : Nat → Int) (x : Int) : Nat → Int :=
  if rawF (kindF x) = 8 then putF (putF F (sideF x).toNat (wrap64 (F (sideF x).toNat + 1))) 10 (wrap64 (F 10 + 1))
  else if rawF (kindF x) = 0 then F else putF F (2 + (rawF (kindF x)).toNat) (wrap64 (F (2 + (rawF (kindF x)).toNat) + 1))

set_option maxHeartbeats 1000000 in
theorem add_any (b : Nat) (F : Nat → Int) (x : Int) (hx : -128 ≤ x ∧ x ≤ 127) (w : World) (hb : CenAt w b F) :
    Calls Tryd.prog 124 #[.pointer (some ⟨b, 0, none⟩), .int .i8 x] w fun e w' => e = .returned (.tuple #[]) ∧ CenAt w' b (addF F x) ∧ But b w w' := by
  have K := Lib.hid (fun W => kind_any x W hx.1 hx.2)
  have S := Lib.hid (fun W => side_any x W hx.1 hx.2)
  have hk := kind_side x
  have R := Lib.hid (fun W => raw_any (kindF x) W (by omega) (by omega))
  have hr := rawF_cases (kindF x)
  unfold addF
  by_cases h8 : rawF (kindF x) = 8
  · rw [if_pos h8]
    obtain ⟨s, hs, hs2⟩ : ∃ s : Nat, sideF x = s ∧ s < 2 := ⟨(sideF x).toNat, by omega, by omega⟩
    rw [hs] at S ⊢
    rw [h8] at R
    rw [Int.toNat_natCast]
    have c0 := hb.cell s (by omega)
    have f0 := hb.frozen s
    have zb := hb.lt
    have HB := Lib.hid hb
    clear hk hr h8 hx hs hb
    generalize kindF x = kx at K R
    go_enter Tryd.func124, Tryd.ntmps124
    go_wp2_with (first
      | (go_at_call 88; refine (K.out _).mono ?_; rintro e w1 ⟨rfl, rfl⟩)
      | (go_at_call 101; refine (R.out _).mono ?_; rintro e w2 ⟨rfl, rfl⟩))
    go_region_with (go_at_call 82; refine (S.out _).mono ?_; rintro e w3 ⟨rfl, rfl⟩)
    have P1 := Lib.hid (HB.out.set s (wrap64 (F s + 1)))
    have B1 := Lib.hid ((But.refl b w).setCell ⟨b, s, none⟩ rfl (.int .i64 (wrap64 (F s + 1))))
    have e10 : putF F s (wrap64 (F s + 1)) 10 = F 10 := if_neg (by omega)
    rw [show IntKind.i64.wrap (F s + 1) = wrap64 (F s + 1) by unfold wrap64; exact IntKind.wrap_i64 _]
    clear c0 f0 HB zb
    generalize w.setCell ⟨b, s, none⟩ (.int .i64 (wrap64 (F s + 1))) = w1 at *
    have c1 := P1.out.cell 10 (by omega)
    rw [e10] at c1
    have f1 := P1.out.frozen 10
    have zb := P1.out.lt
    clear e10
    go_wp2
    go_region
    have P2 := P1.out.set 10 (wrap64 (F 10 + 1))
    go_wp2
    go_end0
    exact ⟨rfl, P2, (B1.out.drew.setCell ⟨b, 10, none⟩ rfl _).drew⟩
  · rw [if_neg h8]
    by_cases h0 : rawF (kindF x) = 0
    · rw [if_pos h0]
      rw [h0] at R
      clear hk hr h8 hx h0
      generalize kindF x = kx at K R
      go_enter Tryd.func124, Tryd.ntmps124
      go_wp2_with (first
        | (go_at_call 88; refine (K.out _).mono ?_; rintro e w1 ⟨rfl, rfl⟩)
        | (go_at_call 101; refine (R.out _).mono ?_; rintro e w2 ⟨rfl, rfl⟩))
      go_end0
      exact ⟨rfl, hb, But.refl _ _⟩
    · rw [if_neg h0]
      obtain ⟨m, hm, hm1, hm8⟩ : ∃ m : Nat, rawF (kindF x) = m ∧ 1 ≤ m ∧ m < 8 := ⟨(rawF (kindF x)).toNat, by omega, by omega, by omega⟩
      rw [hm] at R ⊢
      rw [Int.toNat_natCast]
      have c0 := hb.cell (2 + m) (by omega)
      have f0 := hb.frozen (2 + m)
      have zb := hb.lt
      have n8 : ((m : Int) == 8) = false := by simp; omega
      have n0 : ((m : Int) == 0) = false := by simp; omega
      have HB := Lib.hid hb
      clear hk hr h8 hx hm hb h0
      generalize kindF x = kx at K R
      go_enter Tryd.func124, Tryd.ntmps124
      go_wp2_with (first
        | (go_at_call 88; refine (K.out _).mono ?_; rintro e w1 ⟨rfl, rfl⟩)
        | (go_at_call 101; refine (R.out _).mono ?_; rintro e w2 ⟨rfl, rfl⟩))
      go_region
      have P1 := HB.out.set (2 + m) (wrap64 (F (2 + m) + 1))
      go_wp2
      go_end0
      exact ⟨rfl, P1, ((But.refl b w).setCell ⟨b, 2 + m, none⟩ rfl _).drew⟩
end Go.Proofs.YtilhicohfnaclaaDoor

/-
  board.Check's parts: count.
-/
namespace Go.Proofs.YtilhicohfnaclaaDoor
set_option maxRecDepth 100000
open Go.RowKit
set_option linter.unusedVariables false
set_option linter.unusedSimpArgs false

def cntN (z : List Int) (f : Int → Bool) : Nat → Nat
  | 0 => 0
  | k + 1 => cntN z f k + (if f (at8 z k) then 1 else 0)
theorem cntN_le (z : List Int) (f : Int → Bool) : ∀ k, cntN z f k ≤ k
  | 0 => Nat.le_refl _
  | k + 1 => by
    unfold cntN
    have := cntN_le z f k
    split <;> omega
def cenB (t : Nat) (x : Int) : Bool := if t = 0 then decide (x = 8) else if t = 1 then decide (x = 24) else decide (rawF (kindF x) = (t : Int) - 2) && !decide (t = 2)
def FB (z : List Int) (k : Nat) : Nat → Int := fun t => cntN z (cenB t) k
theorem FB_bd (z : List Int) (k t : Nat) : 0 ≤ FB z k t ∧ FB z k t ≤ k := by
  unfold FB
  have := cntN_le z (cenB t) k
  omega
theorem FB_step (z : List Int) (k t : Nat) : FB z (k + 1) t = FB z k t + (if cenB t (at8 z k) then 1 else 0) := by
  unfold FB
  rw [cntN]
  split <;> simp
theorem cenB_kind (t : Nat) (x : Int) (h2 : 2 < t) : cenB t x = decide (rawF (kindF x) = (t : Int) - 2) := by
  unfold cenB
  rw [if_neg (by omega), if_neg (by omega), decide_eq_false (show ¬ t = 2 by omega)]
  simp
theorem FB_add (z : List Int) (k : Nat) (hk : k < 81) : ∀ t, t < 11 → addF (FB z k) (at8 z k) t = FB z (k + 1) t := by
  intro t ht
  rw [FB_step]
  have hw : ∀ i, wrap64 (FB z k i + 1) = FB z k i + 1 := fun i => by
    have := FB_bd z k i
    unfold wrap64
    omega
  have hs := kind_side (at8 z k)
  have hr := rawF_cases (kindF (at8 z k))
  unfold addF
  rw [hw, hw, hw]
  generalize at8 z k = x at hs hr
  unfold putF
  by_cases h8 : rawF (kindF x) = 8
  · rw [if_pos h8]
    have hx : (x = 8 ∧ sideF x = 0) ∨ (x = 24 ∧ sideF x = 1) := by omega
    by_cases t10 : t = 10
    · subst t10
      rw [if_pos rfl, cenB_kind 10 x (by omega), decide_eq_true (show rawF (kindF x) = ((10 : Nat) : Int) - 2 by omega)]
      rfl
    · rw [if_neg t10]
      unfold cenB
      rcases hx with ⟨rfl, hs⟩ | ⟨rfl, hs⟩
      · rw [hs]
        by_cases t0 : t = 0
        · subst t0; rfl
        · rw [if_neg (by simpa using t0), if_neg t0]
          by_cases t1 : t = 1
          · subst t1; simp
          · rw [if_neg t1, decide_eq_false (by omega)]; simp
      · rw [hs]
        by_cases t1 : t = 1
        · subst t1; rfl
        · rw [if_neg (by simpa using t1)]
          by_cases t0 : t = 0
          · subst t0; simp
          · rw [if_neg t0, if_neg t1, decide_eq_false (by omega)]; simp
  · rw [if_neg h8]
    have n8 : ¬ x = 8 := by rintro rfl; exact h8 (by decide)
    have n24 : ¬ x = 24 := by rintro rfl; exact h8 (by decide)
    by_cases h0 : rawF (kindF x) = 0
    · rw [if_pos h0]
      unfold cenB
      by_cases t0 : t = 0
      · subst t0; rw [if_pos rfl, decide_eq_false n8]; simp
      · rw [if_neg t0]
        by_cases t1 : t = 1
        · subst t1; rw [if_pos rfl, decide_eq_false n24]; simp
        · rw [if_neg t1, h0]
          by_cases t2 : t = 2
          · subst t2; simp
          · rw [decide_eq_false (show ¬ (0 : Int) = (t : Int) - 2 by omega)]; simp
    · rw [if_neg h0]
      obtain ⟨m, hm, hm1⟩ : ∃ m : Nat, rawF (kindF x) = m ∧ 1 ≤ m := ⟨(rawF (kindF x)).toNat, by omega, by omega⟩
      rw [show (rawF (kindF x)).toNat = m by rw [hm, Int.toNat_natCast]]
      by_cases e : t = 2 + m
      · subst e
        rw [if_pos rfl, cenB_kind _ x (by omega), hm, decide_eq_true (show (m : Int) = ((2 + m : Nat) : Int) - 2 by omega)]
        rfl
      · rw [if_neg e]
        unfold cenB
        rw [hm]
        by_cases t0 : t = 0
        · subst t0; rw [if_pos rfl, decide_eq_false n8]; simp
        · rw [if_neg t0]
          by_cases t1 : t = 1
          · subst t1; rw [if_pos rfl, decide_eq_false n24]; simp
          · rw [if_neg t1, decide_eq_false (show ¬ (m : Int) = (t : Int) - 2 by omega)]; simp

def FH (z : List Int) : Nat → Nat → Int
  | 0 => FB z 81
  | j + 1 => putF (FH z j) (2 + j % 8) (wrap64 (FH z j (2 + j % 8) + at8 z (81 + j)))
def handsF (z : List Int) (j t : Nat) : Int := if 2 ≤ t ∧ t < 10 then (if t - 2 < j then at8 z (81 + (t - 2)) else 0) + (if 8 + (t - 2) < j then at8 z (81 + (8 + (t - 2))) else 0) else 0
theorem FH_at (z : List Int) (h8 : I8s z) (t : Nat) : ∀ j, j ≤ 16 → FH z j t = FB z 81 t + handsF z j t
  | 0, _ => by
    unfold FH handsF
    split
    · rw [if_neg (by omega), if_neg (by omega)]; omega
    · omega
  | j + 1, hj => by
    have ih := FH_at z h8 t j (by omega)
    have hb := FB_bd z 81 t
    unfold FH putF
    by_cases e : t = 2 + j % 8
    · rw [if_pos e, ← e, ih]
      have h1 := h8.at (81 + (t - 2))
      have h2 := h8.at (81 + (8 + (t - 2)))
      have ht : 2 ≤ t ∧ t < 10 := by omega
      unfold handsF
      rw [if_pos ht, if_pos ht]
      by_cases hlt : j < 8
      · have e1 : 81 + j = 81 + (t - 2) := by omega
        rw [if_neg (show ¬ t - 2 < j by omega), if_neg (show ¬ 8 + (t - 2) < j by omega), if_pos (show t - 2 < j + 1 by omega), if_neg (show ¬ 8 + (t - 2) < j + 1 by omega), e1]
        unfold wrap64
        omega
      · have e1 : 81 + j = 81 + (8 + (t - 2)) := by omega
        rw [if_pos (show t - 2 < j by omega), if_neg (show ¬ 8 + (t - 2) < j by omega), if_pos (show t - 2 < j + 1 by omega), if_pos (show 8 + (t - 2) < j + 1 by omega), e1]
        unfold wrap64
        omega
    · rw [if_neg e, ih]
      unfold handsF
      by_cases ht : 2 ≤ t ∧ t < 10
      · rw [if_pos ht, if_pos ht]
        have c1 : (t - 2 < j + 1) = (t - 2 < j) := by
          apply propext
          constructor <;> intro h <;> omega
        have c2 : (8 + (t - 2) < j + 1) = (8 + (t - 2) < j) := by
          apply propext
          constructor <;> intro h <;> omega
        simp only [c1, c2]
      · rw [if_neg ht, if_neg ht]

theorem range_but {w w' : World} {b o g : Nat} {cs : List Value} (h : w.rangeAt b o cs) (hb : b < w.heap.size) (hg : b ≠ g) (hB : But g w w') : w'.rangeAt b o cs :=
  fun j v hv => (hB.cell (p := ⟨b, o + j, none⟩) hb hg).trans (h j v hv)

theorem below_row {B : Nat} {a w : World} (h : Below B a w) {g : Nat} (hg : B ≤ g) (cs : Array Value) : Below B a (w.setRow g cs) := by
  refine h.trans ⟨rfl, rfl, rfl, by simp [World.setRow], fun k hk => ?_⟩
  simp only [World.setRow, Array.getElem?_modify]
  rw [if_neg (by omega)]
theorem run_storeCells_row {P : Program} (w : World) (g : Nat) (t : TypeId) (c c' : Array Value) (hg : w.heap[g]? = some (.cells c t)) (hi : (P.info? t).map (·.size) = some c'.size) (ho : c.size = c'.size) (h1 : c'.all (·.oneCell') = true) :
    (storeCells ⟨g, 0, none⟩ c'.toList 0).run P w = .ok () (w.setRow g c') := by
  have := run_storeVar_row (P := P) w g t t c c' hg hi ho h1
  cases hq : P.info? t with
  | none => simp [hq] at hi
  | some i =>
    have hs : c'.size = i.size := by simp [hq] at hi; omega
    simpa [storeVar, sizeOf, typeInfo, hq, Value.cells, hs] using this
def cen0 : Array Value := #[.int .i64 0, .int .i64 0, .int .i64 0, .int .i64 0, .int .i64 0, .int .i64 0, .int .i64 0, .int .i64 0, .int .i64 0, .int .i64 0, .int .i64 0]
set_option maxHeartbeats 2000000 in
theorem count_any' (z : List Int) (hz : z.length = 98) (h8 : I8s z) (w : World) :
    Calls Tryd.prog 106 #[.agg (posC z).toArray] w fun e w' => e = .returned (.agg (cenC (FH z 16)).toArray) ∧ Below w.heap.size w w' := by
  have H8 := Lib.hid h8
  obtain ⟨bs, hs, hR⟩ := posRows z hz w
  have HR := Lib.hid hR
  have hs1 : (w.alloc (.cells (posC z).toArray 28)).heap.size = w.heap.size + 1 := by simp
  have hb0 := Lib.hid (ball (bref w) (.cells (posC z).toArray 28))
  have HRB := Lib.hid HR.out.b
  have HRH := Lib.hid HR.out.h
  clear hR hz h8
  go_enter Tryd.func106, Tryd.ntmps106
  go_wp2_with (first
    | (refine wpList_load_mid rfl 24 _ rfl w.heap.size 0 rfl bs _ (range_grow (range_grow HRB.out (by omega) (ball (bref _) _)) (by simp; omega) (ball (bref _) _)) Tryd.underlying24 rfl (by rw [HR.out.bl]; kernel_rfl) ?_))
  rw [← show cen0 = #[.int .i64 0, .int .i64 0, .int .i64 0, .int .i64 0, .int .i64 0, .int .i64 0, .int .i64 0, .int .i64 0, .int .i64 0, .int .i64 0, .int .i64 0] from rfl]
  generalize w.alloc (.cells (posC z).toArray 28) = w1 at *
  have hC : CenAt ((w1.alloc (.cells cen0 115)).alloc (.cells cen0 115)) (w.heap.size + 1 + 1) (FB z 0) := by
    have := heap_alloc_new (w1.alloc (.cells cen0 115)) (.cells cen0 115)
    rw [World.size_alloc, hs1] at this
    exact this
  have hD : ((w1.alloc (.cells cen0 115)).alloc (.cells cen0 115)).heap[w.heap.size + 1]? = some (.cells cen0 115) := by
    have := heap_alloc_new w1 (.cells cen0 115)
    rw [hs1] at this
    exact (Below.heap_alloc _ _ _ (by rw [World.size_alloc]; omega)).trans this
  have hH := range_grow (range_grow HRH.out (by omega) (ball (bref w1) (.cells cen0 115))) (by rw [World.size_alloc]; omega) (ball (bref _) (.cells cen0 115))
  have hW := hb0.out.trans ((((ball (bref w1) (.cells cen0 115)).trans ((ball (bref _) (.cells cen0 115)).mono (by rw [World.size_alloc]; omega)))).mono (by omega))
  have hs3 : ((w1.alloc (.cells cen0 115)).alloc (.cells cen0 115)).heap.size = w.heap.size + 3 := by rw [World.size_alloc, World.size_alloc, hs1]
  have HC := Lib.hid hC
  have HD := Lib.hid hD
  have HH := Lib.hid hH
  have HW := Lib.hid hW
  clear hC hD hH hW hb0 HRB HRH hs1
  generalize (w1.alloc (.cells cen0 115)).alloc (.cells cen0 115) = w3 at *
  clear w1
  go_loopw [5, 12] (fun _ i wr => ∃ j : Nat, j ≤ 81 ∧ i = .int .i64 j ∧ CenAt wr (w.heap.size + 1 + 1) (FB z j) ∧ But (w.heap.size + 1 + 1) w3 wr) (fun _ i _ => 81 - (intOf i).toNat)
  case atStart => exact ⟨0, Nat.zero_le _, rfl, HC.out, But.refl _ _⟩
  case round =>
    obtain ⟨j, hj, rfl, hP, hB⟩ := hrel
    have HP := Lib.hid hP
    have HB := Lib.hid hB
    clear hB hP
    by_cases hlt : j < 81
    · have hx := fun W => run_index_cell (P := Tryd.prog) W 24 23 81 bs.toArray j (.int .i8 (at8 z j)) Tryd.underlying24 (by kernel_rfl) (by kernel_rfl) hlt (by simpa using HR.out.bg j hlt)
      have AD := Lib.hid (fun W (h : CenAt W (w.heap.size + 1 + 1) (FB z j)) => add_any (w.heap.size + 1 + 1) (FB z j) (at8 z j) (H8.out.at j) W h)
      have ST := Lib.hid (FB_add z j hlt)
      generalize at8 z j = x at hx AD ST
      go_wp2_with (go_at_call 124; refine (AD.out _ HP.out).mono ?_; rintro e w4 ⟨rfl, P4, B4⟩; have P4 := Lib.hid (P4.congr ST.out); have B4 := Lib.hid B4)
      go_roundw
      case rel => exact ⟨j + 1, by omega, by go_num, P4.out, HB.out.trans B4.out⟩
      case measure => simp [intOf]; omega
    · obtain rfl : j = 81 := by omega
      have HR2' := Lib.hid (range_but HH.out (by omega) (by omega) HB.out)
      go_wp2_with (refine wpList_load_mid rfl 26 _ rfl w.heap.size 81 rfl hs _ HR2'.out Tryd.underlying26 rfl (by rw [HR.out.hl]; kernel_rfl) ?_)
      clear HH HR2'
      go_loopw [7, 8, 9, 20] (fun _ _ _ i wr => ∃ s : Nat, s ≤ 2 ∧ i = .int .i64 s ∧ CenAt wr (w.heap.size + 1 + 1) (FH z (8 * s)) ∧ But (w.heap.size + 1 + 1) w3 wr) (fun _ _ _ i _ => 2 - (intOf i).toNat)
      case atStart => exact ⟨0, Nat.zero_le _, rfl, HP.out, HB.out⟩
      case round =>
        obtain ⟨s, hs2, rfl, hP, hB⟩ := hrel
        have HPH := Lib.hid hP
        have HBH := Lib.hid hB
        clear hB hP
        by_cases hlt : s < 2
        · have hx0 := fun W => run_index_row (P := Tryd.prog) W 26 25 2 8 _ hs.toArray s Tryd.underlying26 Tryd.underlying25 rfl (by kernel_rfl) hlt
          rw [extract_row] at hx0
          have hrow := handRow z hs HR.out.hl HR.out.hg s hlt
          generalize (hs.drop (s * 8)).take 8 = row at hx0 hrow
          have HROW := Lib.hid hrow
          clear hrow
          have hst : (storeCells ⟨wr.heap.size, 0, none⟩ row 0).run Tryd.prog (wr.alloc (.cells #[.int .i8 0, .int .i8 0, .int .i8 0, .int .i8 0, .int .i8 0, .int .i8 0, .int .i8 0, .int .i8 0] 25)) = .ok () (wr.alloc (.cells row.toArray 25)) :=
            run_storeCells_new wr 25 _ row.toArray (by rw [List.size_toArray, HROW.out.l]; kernel_rfl) (show (8 : Nat) = row.toArray.size by rw [List.size_toArray, HROW.out.l]) HROW.out.one
          have hrl8 := HROW.out.l
          go_wp2_with (refine wpList_load_row rfl 25 _ rfl wr.heap.size rfl 25 _ _ _ (heap_alloc_new wr _) Tryd.underlying25 rfl (by rw [List.size_toArray, HROW.out.l]; kernel_rfl) ?_)
          clear hst hx0 hrl8
          have HP3 := Lib.hid (HPH.out.grow (ball (bref wr) (.cells row.toArray 25)))
          have HB3 := Lib.hid (HBH.out.trans (But.of (ball (bref wr) (.cells row.toArray 25))))
          clear HPH HBH
          generalize wr.alloc (.cells row.toArray 25) = w4 at HP3 HB3 ⊢
          go_loopw [8, 9, 24] (fun _ _ i wr => ∃ j : Nat, j ≤ 8 ∧ i = .int .i64 j ∧ CenAt wr (w.heap.size + 1 + 1) (FH z (8 * s + j)) ∧ But (w.heap.size + 1 + 1) w3 wr) (fun _ _ i _ => 8 - (intOf i).toNat)
          case atStart => exact ⟨0, Nat.zero_le _, rfl, HP3.out, HB3.out⟩
          case round =>
            obtain ⟨j, hj, rfl, hP, hB⟩ := hrel
            have HPJ := Lib.hid hP
            have HBJ := Lib.hid hB
            clear hB hP HP3 HB3
            by_cases hlt8 : j < 8
            · have hx := fun W => run_index_cell (P := Tryd.prog) W 25 22 8 row.toArray j (.int .i8 (at8 z (81 + (8 * s + j)))) Tryd.underlying25 (by kernel_rfl) (by kernel_rfl) hlt8 (by simpa using HROW.out.g j hlt8)
              have hv := H8.out.at (81 + (8 * s + j))
              have wx : wrap64 (at8 z (81 + (8 * s + j))) = at8 z (81 + (8 * s + j)) := by unfold wrap64; omega
              have hst : FH z (8 * s + j + 1) = putF (FH z (8 * s + j)) (2 + j) (wrap64 (FH z (8 * s + j) (2 + j) + at8 z (81 + (8 * s + j)))) := by
                rw [FH, show (8 * s + j) % 8 = j by omega]
              have HST := Lib.hid hst
              have c0 := HPJ.out.cell (2 + j) (by omega)
              have f0 := HPJ.out.frozen (2 + j)
              have zb := HPJ.out.lt
              clear hv hst
              generalize at8 z (81 + (8 * s + j)) = x at hx wx HST
              generalize FH z (8 * s + j) (2 + j) = y at c0 HST
              go_wp2
              go_roundw
              case rel =>
                refine ⟨j + 1, by omega, by go_num, ?_, HBJ.out.setCell _ rfl _⟩
                have := HPJ.out.set (2 + j) (wrap64 (y + x))
                rw [← HST.out] at this
                exact this
              case measure => simp [intOf]; omega
            · obtain rfl : j = 8 := by omega
              go_wp2
              go_roundw
              case rel => exact ⟨s + 1, by omega, by go_num, by rw [show 8 * (s + 1) = 8 * s + 8 by omega]; exact HPJ.out, HBJ.out⟩
              case measure => simp [intOf]; omega
        · obtain rfl : s = 2 := by omega
          have hD2 := (HBH.out.block (w.heap.size + 1) (by omega) (by omega)).trans HD.out
          have HD2 := Lib.hid hD2
          have zD : w.heap.size + 1 < wr.heap.size := by have := HBH.out.size; omega
          clear hD2
          have hst : (storeCells ⟨w.heap.size + 1, 0, none⟩ (cenC (FH z 16)) 0).run Tryd.prog wr = .ok () (wr.setRow (w.heap.size + 1) (cenC (FH z 16)).toArray) :=
            run_storeCells_row wr (w.heap.size + 1) 115 cen0 (cenC (FH z 16)).toArray HD2.out (by rw [List.size_toArray, cenC_len]; exact infoCen) (show (11 : Nat) = (cenC (FH z 16)).toArray.size by rw [List.size_toArray, cenC_len]) (cenC_one _)
          have hlen := cenC_len (FH z 16)
          go_wp2_with (first
            | (refine wpList_load_mid rfl 115 _ rfl (w.heap.size + 1 + 1) 0 rfl (cenC (FH z (8 * 2))) _ HPH.out.range Tryd.underlying115 rfl (by rw [cenC_len]; exact infoCen) ?_))
          refine bodyPost_ret (results_cell_row rfl _ _ (w.heap.size + 1) 115 (cenC (FH z 16)).toArray (0, 0) _ rfl (setRow_heap _ _ _ _ _ _ HD2.out) Tryd.underlying115 rfl (by rw [List.size_toArray, cenC_len]; exact infoCen)) rfl ?_
          exact ⟨rfl, below_row (HW.out.trans (HBH.out.below (by omega) (by omega))) (by omega) _⟩
end Go.Proofs.YtilhicohfnaclaaDoor

/-
  board.Check's parts: tooMany, hasDead, hasNifu.
-/
namespace Go.Proofs.YtilhicohfnaclaaDoor
set_option maxRecDepth 100000
open Go.RowKit
set_option linter.unusedVariables false
set_option linter.unusedSimpArgs false

def fewB (F : Nat → Int) (k : Nat) : Bool := decide (F (2 + k) ≤ totalF k)
theorem cen_kinds (F : Nat → Int) (j : Nat) (hj : j < 9) : ((cenC F).drop 2 |>.take 9)[j]? = some (.int .i64 (F (2 + j))) := drop_get (cenC_get F (2 + j) (by omega)) hj
set_option maxHeartbeats 1000000 in
theorem tooMany_any (b : Nat) (F : Nat → Int) (w : World) (hb : CenAt w b F) :
    Calls Tryd.prog 107 #[.pointer (some ⟨b, 0, none⟩)] w fun e w' => e = .returned (.bool (!allB (fewB F) 9)) ∧ Below w.heap.size w w' := by
  have hr := part_range hb.range 2 9
  have hl : ((cenC F).drop 2 |>.take 9).length = 9 := by rw [List.length_take, List.length_drop, cenC_len]; rfl
  have hg := cen_kinds F
  generalize ((cenC F).drop 2 |>.take 9) = ks at hr hl hg
  have HR := Lib.hid hr
  have HG := Lib.hid hg
  have HKL := Lib.hid hl
  have zb := hb.lt
  have hcell : ∀ j, j < 9 → w.cell? ⟨b, 2 + j, none⟩ = some (.int .i64 (F (2 + j))) := fun j hj => hb.cell (2 + j) (by omega)
  clear hr hg hb hl
  go_enter Tryd.func107, Tryd.ntmps107
  go_wp2_with (refine wpList_load_mid rfl 113 _ rfl b 2 rfl ks _ HR.out Tryd.underlying113 rfl (by rw [HKL.out]; kernel_rfl) ?_)
  clear hcell
  go_loopw [3, 4, 9] (fun _ _ i wr => ∃ j : Nat, j ≤ 9 ∧ i = .int .i64 j ∧ allB (fewB F) j = true ∧ Below w.heap.size w wr) (fun _ _ i _ => 9 - (intOf i).toNat)
  case atStart => exact ⟨0, Nat.zero_le _, rfl, rfl, bref _⟩
  case round =>
    obtain ⟨j, hj, rfl, hall, hB⟩ := hrel
    have HW := Lib.hid hB
    have HALL := Lib.hid hall
    clear hB hall
    by_cases hlt : j < 9
    · have hx := fun W => run_index_cell (P := Tryd.prog) W 113 3 9 ks.toArray j (.int .i64 (F (2 + j))) Tryd.underlying113 (by kernel_rfl) (by kernel_rfl) hlt (by simpa using HG.out j hlt)
      have TT := Lib.hid (fun W => total_any j W)
      have hf : fewB F j = decide (F (2 + j) ≤ totalF j) := rfl
      generalize F (2 + j) = x at hx hf
      generalize totalF j = t at TT hf
      by_cases h : x ≤ t
      · have hk := Lib.hid (show fewB F j = true by rw [hf]; exact decide_eq_true h)
        clear hf
        have h' : ¬ t < x := by omega
        clear h
        go_wp2_with (go_at_call 125; refine (TT.out _).mono ?_; rintro e w2 ⟨rfl, rfl⟩)
        go_roundw
        case rel => exact ⟨j + 1, by omega, by go_num, allB_step HALL.out hk.out, HW.out⟩
        case measure => simp [intOf]; omega
      · have hk := Lib.hid (show fewB F j = false by rw [hf]; exact decide_eq_false h)
        clear hf
        have h' : t < x := by omega
        clear h
        go_wp2_with (go_at_call 125; refine (TT.out _).mono ?_; rintro e w2 ⟨rfl, rfl⟩)
        go_ret
        refine ⟨?_, HW.out⟩
        rw [allB_no hk.out hlt]
        rfl
    · obtain rfl : j = 9 := by omega
      go_wp2
      go_ret
      refine ⟨?_, HW.out⟩
      rw [HALL.out]
      rfl

def deadF (x q : Int) : Bool := (decide (kindF x = 1 ∨ kindF x = 2) && decide (farF (sideF x) q = 0)) || (decide (kindF x = 3) && decide (0 ≤ farF (sideF x) q ∧ farF (sideF x) q ≤ 1))
theorem farF_bd (s q : Int) : -1 ≤ farF s q ∧ farF s q ≤ 8 := by
  unfold farF
  split
  · split
    · omega
    · split <;> omega
  · omega
set_option maxHeartbeats 1000000 in
theorem dead_any (x q : Int) (hx : -128 ≤ x ∧ x ≤ 127) (w : World) :
    Calls Tryd.prog 90 #[.int .i8 x, .int .i64 q] w fun e w' => e = .returned (.bool (deadF x q)) ∧ Below w.heap.size w w' := by
  have K := Lib.hid (fun W => kind_any x W hx.1 hx.2)
  have S := Lib.hid (fun W => side_any x W hx.1 hx.2)
  have FA := Lib.hid (fun W => far_any (sideF x) q W)
  have hbd := farF_bd (sideF x) q
  unfold deadF
  generalize sideF x = s at S FA hbd ⊢
  generalize farF s q = n at FA hbd ⊢
  generalize hkk : kindF x = k at K ⊢
  clear hkk hx
  by_cases hn : n < 0
  · rw [decide_eq_false (show ¬ n = 0 by omega), decide_eq_false (show ¬ (0 ≤ n ∧ n ≤ 1) by omega), Bool.and_false, Bool.and_false]
    clear hbd
    go_enter Tryd.func90, Tryd.ntmps90
    go_wp2_with (first
      | (go_at_call 82; refine (S.out _).mono ?_; rintro e w1 ⟨rfl, rfl⟩)
      | (go_at_call 117; refine (FA.out _).mono ?_; rintro e w2 ⟨rfl, hb2⟩))
    go_ret
    exact ⟨rfl, hb2⟩
  · by_cases h12 : k = 1 ∨ k = 2
    · rw [decide_eq_true h12, decide_eq_false (show ¬ k = 3 by omega)]
      clear hbd
      rcases h12 with rfl | rfl
      all_goals
        go_enter Tryd.func90, Tryd.ntmps90
        go_wp2_with (first
          | (go_at_call 82; refine (S.out _).mono ?_; rintro e w1 ⟨rfl, rfl⟩)
          | (go_at_call 88; refine (K.out _).mono ?_; rintro e w3 ⟨rfl, rfl⟩)
          | (go_at_call 117; refine (FA.out _).mono ?_; rintro e w2 ⟨rfl, hb2⟩))
        go_ret
        refine ⟨?_, hb2⟩
        by_cases h0 : n = 0
        · subst h0; rfl
        · simp [h0]
    · have k1 : (k == 1) = false := by simp; omega
      have k2 : (k == 2) = false := by simp; omega
      rw [decide_eq_false h12]
      by_cases h3 : k = 3
      · subst h3
        clear hbd
        rw [show decide (0 ≤ n ∧ n ≤ 1) = decide (n ≤ 1) by congr 1; apply propext; constructor <;> intro h <;> omega]
        go_enter Tryd.func90, Tryd.ntmps90
        go_wp2_with (first
          | (go_at_call 82; refine (S.out _).mono ?_; rintro e w1 ⟨rfl, rfl⟩)
          | (go_at_call 88; refine (K.out _).mono ?_; rintro e w3 ⟨rfl, rfl⟩)
          | (go_at_call 117; refine (FA.out _).mono ?_; rintro e w2 ⟨rfl, hb2⟩))
        go_ret
        refine ⟨?_, hb2⟩
        simp
      · have k3 : (k == 3) = false := by simpa using h3
        rw [decide_eq_false h3]
        clear hbd
        go_enter Tryd.func90, Tryd.ntmps90
        go_wp2_with (first
          | (go_at_call 82; refine (S.out _).mono ?_; rintro e w1 ⟨rfl, rfl⟩)
          | (go_at_call 88; refine (K.out _).mono ?_; rintro e w3 ⟨rfl, rfl⟩)
          | (go_at_call 117; refine (FA.out _).mono ?_; rintro e w2 ⟨rfl, hb2⟩))
        go_ret
        exact ⟨rfl, hb2⟩

def aliveQ (z : List Int) (q : Nat) : Bool := !deadF (at8 z q) q
set_option maxHeartbeats 1000000 in
theorem hasDead_any (z : List Int) (hz : z.length = 98) (h8 : I8s z) (w : World) :
    Calls Tryd.prog 108 #[.agg (posC z).toArray] w fun e w' => e = .returned (.bool (!allB (aliveQ z) 81)) ∧ Below w.heap.size w w' := by
  have H8 := Lib.hid h8
  obtain ⟨bs, hs, hR⟩ := posRows z hz w
  have HR := Lib.hid hR
  have hw1 : w.heap.size < (w.alloc (.cells (posC z).toArray 28)).heap.size := by simp
  have hb0 := Lib.hid (ball (bref w) (.cells (posC z).toArray 28))
  clear hR hz h8
  go_enter Tryd.func108, Tryd.ntmps108
  go_wp2_with (refine wpList_load_mid rfl _ _ rfl w.heap.size 0 rfl bs _ HR.out.b Tryd.underlying24 rfl (by rw [HR.out.bl]; kernel_rfl) ?_)
  generalize w.alloc (.cells (posC z).toArray 28) = w1 at hb0 hw1 ⊢
  go_loopw [3, 4, 7] (fun _ _ i wr => ∃ j : Nat, j ≤ 81 ∧ i = .int .i64 j ∧ allB (aliveQ z) j = true ∧ Below w.heap.size w wr) (fun _ _ i _ => 81 - (intOf i).toNat)
  case atStart => exact ⟨0, Nat.zero_le _, rfl, rfl, hb0.out⟩
  case round =>
    obtain ⟨j, hj, rfl, hall, hB⟩ := hrel
    have HW := Lib.hid hB
    have HALL := Lib.hid hall
    clear hB hall
    by_cases hlt : j < 81
    · have hx := fun W => run_index_cell (P := Tryd.prog) W 24 23 81 bs.toArray j (.int .i8 (at8 z j)) Tryd.underlying24 (by kernel_rfl) (by kernel_rfl) hlt (by simpa using HR.out.bg j hlt)
      have C := Lib.hid (fun W => dead_any (at8 z j) j (H8.out.at j) W)
      have hk : aliveQ z j = !deadF (at8 z j) j := rfl
      generalize deadF (at8 z j) j = d at C hk
      generalize at8 z j = x at hx C
      cases d with
      | true =>
        have hk1 := Lib.hid hk
        clear hk
        go_wp2_with (go_at_call 90; refine (C.out _).mono ?_; rintro e w2 ⟨rfl, hb2⟩)
        go_ret
        refine ⟨?_, bthen HW.out hb2⟩
        rw [allB_no hk1.out hlt]
        rfl
      | false =>
        have hk1 := Lib.hid hk
        clear hk
        go_wp2_with (go_at_call 90; refine (C.out _).mono ?_; rintro e w2 ⟨rfl, hb2⟩)
        go_roundw
        case rel => exact ⟨j + 1, by omega, by go_num, allB_step HALL.out hk1.out, bthen HW.out hb2⟩
        case measure => simp [intOf]; omega
    · obtain rfl : j = 81 := by omega
      go_wp2
      go_ret
      refine ⟨?_, HW.out⟩
      rw [HALL.out]
      rfl

end Go.Proofs.YtilhicohfnaclaaDoor

/-
  board.Check's parts: hasNifu.
-/
namespace Go.Proofs.YtilhicohfnaclaaDoor
set_option maxRecDepth 100000
open Go.RowKit
set_option linter.unusedVariables false
set_option linter.unusedSimpArgs false

/-! Two pawns in a file. -/
def pawnsN (z : List Int) (s f : Nat) : Nat := pop 81 (pieceN z (ofF s 1) &&& ofN (fileL f 9))
def oneQ (z : List Int) (i : Nat) : Bool := decide (pawnsN z (i / 9) (i % 9) ≤ 1)
theorem heldV_fst {wc W : World} {s : Nat} {x y : Value} (h : Below wc.heap.size wc W ∧ s < W.heap.size ∧ W.cell? ⟨s, 0, none⟩ = some x ∧ W.cell? ⟨s, 1, none⟩ = some y) : Below wc.heap.size wc W := h.1
theorem heldV_step {wc W w' : World} {s : Nat} {x y : Value} (h : Below wc.heap.size wc W ∧ s < W.heap.size ∧ W.cell? ⟨s, 0, none⟩ = some x ∧ W.cell? ⟨s, 1, none⟩ = some y) (hb : Below W.heap.size W w') :
    Below wc.heap.size wc w' ∧ s < w'.heap.size ∧ w'.cell? ⟨s, 0, none⟩ = some x ∧ w'.cell? ⟨s, 1, none⟩ = some y := by
  obtain ⟨h0, h1, h3, h4⟩ := h
  have hs := hb.size
  exact ⟨bthen h0 hb, by omega, (hb.cell (p := ⟨s, 0, none⟩) h1).trans h3, (hb.cell (p := ⟨s, 1, none⟩) h1).trans h4⟩
set_option maxHeartbeats 4000000 in
theorem hasNifu_any (b : Nat) (z : List Int) (hz : z.length = 98) (w : World) (hb : Brd w b z) :
    Calls Tryd.prog 109 #[.pointer (some ⟨b, 0, none⟩)] w fun e w' => e = .returned (.bool (!allB (oneQ z) 18)) ∧ Below w.heap.size w w' := by
  have OF := Lib.hid (fun (s : Nat) W (h : Brd W b z) => of_brd b z s 1 (by omega) hz W h)
  have HB := Lib.hid hb
  clear hb hz
  go_enter Tryd.func109, Tryd.ntmps109
  go_wp2
  go_loopw [3, 4, 5, 6] (fun _ _ _ i wr => ∃ s : Nat, s ≤ 2 ∧ i = .int .i64 s ∧ allB (oneQ z) (9 * s) = true ∧ Below w.heap.size w wr) (fun _ _ _ i _ => 2 - (intOf i).toNat)
  case atStart => exact ⟨0, Nat.zero_le _, rfl, rfl, bref _⟩
  case round =>
    obtain ⟨s, hs2, rfl, hall, hB⟩ := hrel
    have HW := Lib.hid hB
    have HALL := Lib.hid hall
    clear hB hall
    by_cases hlt : s < 2
    · have O := Lib.hid (fun W (h : Brd W b z) => OF.out s W h)
      generalize hlw : loW (pieceN z (ofF s 1)) = l at O
      generalize hhw : hiW (pieceN z (ofF s 1)) = h at O
      have HL := Lib.hid hlw
      have HH := Lib.hid hhw
      clear hlw hhw
      go_wp2_with (go_at_call 60; refine (O.out _ (HB.out.grow HW.out)).mono ?_; rintro e w1 ⟨rfl, hb1⟩)
      have V0 : Var (w1.alloc (.cells #[.int .u64 l, .int .u64 h] 32)) w1.heap.size l h := ⟨by simp, by go_simp, by go_simp, by go_simp, by go_simp⟩
      have VV := Lib.hid V0
      clear V0
      have B0 := Lib.hid ((bthen HW.out hb1).alloc (bthen HW.out hb1).size (.cells #[.int .u64 l, .int .u64 h] 32))
      clear hb1 HW
      generalize w1.alloc (.cells #[.int .u64 l, .int .u64 h] 32) = w2 at *
      generalize w1.heap.size = g at *
      go_loopw [5, 12] (fun _ i wr => ∃ j : Nat, j ≤ 9 ∧ i = .int .i64 j ∧ allB (oneQ z) (9 * s + j) = true ∧ Below w.heap.size w wr ∧ Var wr g l h) (fun _ i _ => 9 - (intOf i).toNat)
      case atStart => exact ⟨0, Nat.zero_le _, rfl, HALL.out, B0.out, VV.out⟩
      case round =>
        obtain ⟨j, hj, rfl, hall, hB, hV⟩ := hrel
        have HWJ := Lib.hid hB
        have HALLJ := Lib.hid hall
        have HV := Lib.hid hV
        clear hB hall hV
        by_cases hlt9 : j < 9
        · have va := HV.out.lo
          have vb := HV.out.hi
          have zg := HV.out.lt
          have FI := Lib.hid (fun W => inFile_any j W)
          have AN := Lib.hid (fun W => and_any (pieceN z (ofF s 1)) (ofN (fileL j 9)) (pieceN_sq _ _) (ofN_sq _) W)
          rw [HL.out, HH.out] at AN
          have CN := Lib.hid (fun W => count_any (pieceN z (ofF s 1) &&& ofN (fileL j 9)) (pieceN_sq _ _).and W)
          have hq : oneQ z (9 * s + j) = decide (pawnsN z s j ≤ 1) := by
            unfold oneQ
            rw [show (9 * s + j) / 9 = s by omega, show (9 * s + j) % 9 = j by omega]
          have hpd : pawnsN z s j = pop 81 (pieceN z (ofF s 1) &&& ofN (fileL j 9)) := rfl
          rw [hpd] at hq
          clear hpd
          generalize loW (ofN (fileL j 9)) = fl at FI AN
          generalize hiW (ofN (fileL j 9)) = fh at FI AN
          generalize loW (pieceN z (ofF s 1) &&& ofN (fileL j 9)) = al at AN CN
          generalize hiW (pieceN z (ofF s 1) &&& ofN (fileL j 9)) = ah at AN CN
          generalize pop 81 (pieceN z (ofF s 1) &&& ofN (fileL j 9)) = n at CN hq
          by_cases hn : n ≤ 1
          · have HQ := Lib.hid (show True → oneQ z (9 * s + j) = true from fun _ => by rw [hq]; exact decide_eq_true hn)
            have c1 : ¬ (1 : Int) < (n : Int) := by omega
            clear hq hn
            go_wp2
            go_region_held3 (fun w' => Below wr.heap.size wr w' ∧ g < w'.heap.size ∧ w'.cell? ⟨g, 0, none⟩ = some (.int .u64 l) ∧ w'.cell? ⟨g, 1, none⟩ = some (.int .u64 h)) (first | exact ⟨(bref wr).drew, zg, va, vb⟩ | exact heldV_step (by assumption) hb)
              (first
                | (go_at_call 118; refine (FI.out _).mono ?_; rintro e wn ⟨rfl, hb⟩)
                | (go_at_call 38; refine (AN.out _).mono ?_; rintro e wn ⟨rfl, hb⟩)
                | (go_at_call 37; refine (CN.out _).mono ?_; rintro e wn ⟨rfl, hb⟩))
            have hall7 : Below wr.heap.size wr wn := heldV_fst (by assumption)
            have HB7 := Lib.hid (HWJ.out.trans (hall7.mono HWJ.out.size))
            have HV7 := Lib.hid (HV.out.grow hall7)
            clear hall7 va vb zg
            go_wp2
            go_roundw
            case rel => exact ⟨j + 1, by omega, by go_num, allB_step HALLJ.out (HQ.out trivial), HB7.out, HV7.out⟩
            case measure => simp [intOf]; omega
          · have HQ := Lib.hid (show True → oneQ z (9 * s + j) = false from fun _ => by rw [hq]; exact decide_eq_false hn)
            have c1 : (1 : Int) < (n : Int) := by omega
            clear hq hn
            go_wp2
            go_region_held3 (fun w' => Below wr.heap.size wr w' ∧ g < w'.heap.size ∧ w'.cell? ⟨g, 0, none⟩ = some (.int .u64 l) ∧ w'.cell? ⟨g, 1, none⟩ = some (.int .u64 h)) (first | exact ⟨(bref wr).drew, zg, va, vb⟩ | exact heldV_step (by assumption) hb)
              (first
                | (go_at_call 118; refine (FI.out _).mono ?_; rintro e wn ⟨rfl, hb⟩)
                | (go_at_call 38; refine (AN.out _).mono ?_; rintro e wn ⟨rfl, hb⟩)
                | (go_at_call 37; refine (CN.out _).mono ?_; rintro e wn ⟨rfl, hb⟩))
            have hall7 : Below wr.heap.size wr wn := heldV_fst (by assumption)
            have HB7 := Lib.hid (HWJ.out.trans (hall7.mono HWJ.out.size))
            clear hall7 va vb zg
            go_wp2
            go_ret
            refine ⟨?_, HB7.out⟩
            rw [allB_no (HQ.out trivial) (by omega : 9 * s + j < 18)]
            rfl
        · obtain rfl : j = 9 := by omega
          go_wp2
          go_roundw
          case rel => exact ⟨s + 1, by omega, by go_num, by rw [show 9 * (s + 1) = 9 * s + 9 by omega]; exact HALLJ.out, HWJ.out⟩
          case measure => simp [intOf]; omega
    · obtain rfl : s = 2 := by omega
      go_wp2
      go_ret
      refine ⟨?_, HW.out⟩
      rw [show (18 : Nat) = 9 * 2 from rfl, HALL.out]
      rfl
end Go.Proofs.YtilhicohfnaclaaDoor

/-
  board.Check.
-/
namespace Go.Proofs.YtilhicohfnaclaaDoor
set_option maxRecDepth 100000
open Go.RowKit
set_option linter.unusedVariables false
set_option linter.unusedSimpArgs false

def chkF (s : Int) (kb : Bool) (k0 k1 : Int) (fb ab ob : Bool) : Int :=
  if ¬ (s = 0 ∨ s = 1) then 1 else if kb = false then 55 else if ¬ (k0 = 1 ∧ k1 = 1) then 50 else if fb = false then 51 else if ab = false then 52 else if ob = false then 53 else 0
def checkF (z : List Int) : Int := chkF (at8 z 97) (knownB z) (FH z 16 0) (FH z 16 1) (allB (fewB (FH z 16)) 9) (allB (aliveQ z) 81) (allB (oneQ (newZ z)) 18)

theorem eq_two {P : Program} (t e : TypeId) (k : IntKind) (x y a b : Int) (W : World) (ht : P.underlying t = some (.array 2 e)) (he : P.underlying e = some (.int k)) (hpk : P.plainKey e = true) (hi : (P.info? e).map (·.size) = some 1) :
    (Op.equalIn 10000 t (.agg #[.int k x, .int k y]) (.agg #[.int k a, .int k b])).run P W = .ok (decide (x = a) && decide (y = b)) W := by
  cases hq : P.info? e with
  | none => simp [hq] at hi
  | some i =>
    have hs : P.cellsOf e = 1 := by
      have : i.size = 1 := by simpa [hq] using hi
      simp [Program.cellsOf, hq, this]
    rw [show (10000 : Nat) = 9999 + 1 from rfl, run_equalIn_array W 9999 _ _ ht hq, hs]
    have p : ∀ (u v : Int) (j : Nat) (n : Int), #[Value.int k u, Value.int k v][j * 1]? = some (Value.int k n) → (part e #[Value.int k u, Value.int k v] (j * 1)).run P W = .ok (.int k n) W := fun u v j n h => run_part_plain (P := P) W hpk h
    have q : ∀ u v : Int, (Op.equalIn 9999 e (.int k u) (.int k v)).run P W = .ok (decide (u = v)) W := fun u v => by
      rw [show (9999 : Nat) = 9998 + 1 from rfl, run_equalIn_int W 9998 e k k u v he]
      by_cases h : u = v <;> simp [h]
    show (Op.eqItems 9999 e 1 #[Value.int k x, Value.int k y] #[Value.int k a, Value.int k b] [0, 1]).run P W = _
    simp only [Op.eqItems, Sem.run_bind, p x y 0 x rfl, p a b 0 a rfl, q, Result.andThen_ok]
    by_cases h : x = a
    · simp only [h, decide_true, Bool.not_true, Bool.false_eq_true, if_false, Bool.true_and]
      simp only [Op.eqItems, Sem.run_bind, p x y 1 y rfl, p a b 1 b rfl, p a y 1 y rfl, q, Result.andThen_ok]
      by_cases h2 : y = b
      · simp [h2]
      · simp [h2]
    · simp [h]

set_option maxHeartbeats 4000000 in
set_option maxRecDepth 100000 in
theorem check_any (z : List Int) (hz : z.length = 98) (h8 : I8s z) (w : World) :
    Calls Tryd.prog 69 #[.agg (posC z).toArray] w fun e w' => e = .returned (.int .i64 (checkF z)) ∧ Below w.heap.size w w' := by
  have SI := Lib.hid (fun W => bSide_any (at8 z 97) W)
  have KN := Lib.hid (fun W => isKnown_any z hz h8 W)
  have CO := Lib.hid (fun W => count_any' z hz h8 W)
  have TM := Lib.hid (fun g W (h : CenAt W g (FH z 16)) => tooMany_any g (FH z 16) W h)
  have DE := Lib.hid (fun W => hasDead_any z hz h8 W)
  have NE := Lib.hid (fun W => new_brd z hz h8 W)
  have NI := Lib.hid (fun g W (h : Brd W g (newZ z)) => hasNifu_any g (newZ z) (newZ_len z hz) W h)
  have hv := h8.at 97
  have hwx : wrap64 (at8 z 97) = at8 z 97 := by unfold wrap64; omega
  have P0 := PosAt.new w z
  have c97 := P0.cell 97 (by omega)
  have HP := Lib.hid P0
  have HB := Lib.hid (ball (bref w) (.cells (posC z).toArray 28))
  have HINF := Lib.hid (show (Tryd.prog.info? 28).map (·.size) = some (posC z).length by rw [posC_len, hz]; exact infoPos)
  have hne : ∀ W, (Op.equalIn 10000 29 (.agg #[.int .i64 (FH z 16 0), .int .i64 (FH z 16 1)]) (.agg #[.int .i64 1, .int .i64 1])).run Tryd.prog W = .ok (decide (FH z 16 0 = 1) && decide (FH z 16 1 = 1)) W := fun W =>
    eq_two 29 3 .i64 _ _ _ _ W Tryd.underlying29 Tryd.underlying3 (by kernel_rfl) (by kernel_rfl)
  unfold checkF
  clear hz h8 hv P0
  generalize allB (fewB (FH z 16)) 9 = fb at TM ⊢
  generalize allB (aliveQ z) 81 = ab at DE ⊢
  generalize allB (oneQ (newZ z)) 18 = ob at NI ⊢
  generalize knownB z = kb at KN ⊢
  generalize FH z 16 = F at CO TM hne ⊢
  generalize newZ z = nzz at NE NI
  generalize at8 z 97 = s at SI hwx c97 ⊢
  have hset : ∀ W : World, (storeCells ⟨W.heap.size, 0, none⟩ (cenC F) 0).run Tryd.prog (W.alloc (.cells #[.int .i64 0, .int .i64 0, .int .i64 0, .int .i64 0, .int .i64 0, .int .i64 0, .int .i64 0, .int .i64 0, .int .i64 0, .int .i64 0, .int .i64 0] 115)) = .ok () (W.alloc (.cells (cenC F).toArray 115)) := fun W =>
    run_storeCells_new W 115 _ (cenC F).toArray (by rw [List.size_toArray, cenC_len]; exact infoCen) (show (11 : Nat) = (cenC F).toArray.size by rw [List.size_toArray, cenC_len]) (cenC_one _)
  have hlen := cenC_len F
  generalize hcf : chkF s kb (F 0) (F 1) fb ab ob = r
  have HCF := Lib.hid hcf
  clear hcf
  go_enter Tryd.func69, Tryd.ntmps69
  go_wp2_with (first
    | (go_at_call 78; rw [hwx]; refine (SI.out _).mono ?_; rintro e w2 ⟨rfl, rfl⟩)
    | (refine wpList_load_mid rfl 28 _ rfl w.heap.size 0 rfl (posC z) _ HP.out.range Tryd.underlying28 rfl HINF.out ?_)
    | (go_at_call 105; refine (KN.out _).mono ?_; rintro e w3 ⟨rfl, hb⟩; have HP := Lib.hid (HP.out.grow hb); have HB := Lib.hid (HB.out.trans (hb.mono HB.out.size)); clear hb)
    | (go_at_call 106; refine (CO.out _).mono ?_; rintro e w4 ⟨rfl, hb⟩; have HP := Lib.hid ((HP.out.grow hb).grow (ball (bref _) (.cells (cenC F).toArray 115))); have HB := Lib.hid ((HB.out.trans (hb.mono HB.out.size)).alloc ((HB.out.trans (hb.mono HB.out.size)).size) (.cells (cenC F).toArray 115)); have HC := Lib.hid (show CenAt (w4.alloc (.cells (cenC F).toArray 115)) w4.heap.size F from heap_alloc_new w4 _); have d0 := HC.out.cell 0 (by omega); have d1 := HC.out.cell 1 (by omega); clear hb)
    | (go_at_call 107; refine (TM.out _ _ HC.out).mono ?_; rintro e w5 ⟨rfl, hb⟩; have HP := Lib.hid (HP.out.grow hb); have HB := Lib.hid (HB.out.trans (hb.mono HB.out.size)); clear hb)
    | (go_at_call 108; refine (DE.out _).mono ?_; rintro e w6 ⟨rfl, hb⟩; have HP := Lib.hid (HP.out.grow hb); have HB := Lib.hid (HB.out.trans (hb.mono HB.out.size)); clear hb)
    | (go_at_call 19; refine (NE.out _).mono ?_; rintro e w7 ⟨g, rfl, hg, hbd, hb⟩; have HBD := Lib.hid hbd; have HB := Lib.hid (HB.out.trans (hb.mono HB.out.size)); clear hb hbd)
    | (go_at_call 109; refine (NI.out _ _ HBD.out).mono ?_; rintro e w8 ⟨rfl, hb⟩; have HB := Lib.hid (HB.out.trans (hb.mono HB.out.size)); clear hb))
  all_goals
    go_ret
    refine ⟨?_, HB.out⟩
    rw [← HCF.out]
    clear HCF HP HB HINF SI KN CO TM DE NE NI hne hset hlen hwx
    unfold chkF
    first
      | (simp_all; done)
      | (simp_all; intro a b; exfalso; omega)
end Go.Proofs.YtilhicohfnaclaaDoor
