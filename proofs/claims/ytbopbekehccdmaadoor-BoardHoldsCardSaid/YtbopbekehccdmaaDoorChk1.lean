/-
  board.Check's parts: isKnown.
-/
import Derived.Test.YtbopbekehccdmaaDoorBrd3
import Derived.Deep.WholeRow
namespace Go.Proofs.YtbopbekehccdmaaDoor
open Go.RowKit
set_option linter.unusedVariables false
set_option linter.unusedSimpArgs false

def allB (f : Nat → Bool) : Nat → Bool
  | 0 => true
  | k + 1 => allB f k && f k
theorem allB_iff (f : Nat → Bool) : ∀ k, allB f k = true ↔ ∀ i, i < k → f i = true
  | 0 => by simp [allB]
  | k + 1 => by
    unfold allB
    rw [Bool.and_eq_true, allB_iff f k]
    constructor
    · intro h i hi
      by_cases e : i = k
      · rw [e]; exact h.2
      · exact h.1 i (by omega)
    · intro h
      exact ⟨fun i hi => h i (by omega), h k (by omega)⟩
theorem allB_no {f : Nat → Bool} {j k : Nat} (h : f j = false) (hj : j < k) : allB f k = false := by
  cases e : allB f k with
  | false => rfl
  | true => rw [(allB_iff f k).1 e j hj] at h; cases h
theorem allB_step {f : Nat → Bool} {j : Nat} (h : allB f j = true) (hf : f j = true) : allB f (j + 1) = true := by
  unfold allB
  rw [h, hf]
  rfl

def knownQ (z : List Int) (q : Nat) : Bool := decide (at8 z q = 0) || !decide (kindF (at8 z q) = 0)
def knownH (z : List Int) (j : Nat) : Bool := !(decide (at8 z (81 + j) < 0) || (decide (j % 8 = 0) && !decide (at8 z (81 + j) = 0)))
def knownB (z : List Int) : Bool := allB (knownQ z) 81 && allB (knownH z) 16

/-- What a walk over a raw position's argument begins with: its cells, the board's, the hands'. -/
structure PosRows (w : World) (z : List Int) (bs hs : List Value) : Prop where
  b : (w.alloc (.cells (posC z).toArray 28)).rangeAt w.heap.size 0 bs
  h : (w.alloc (.cells (posC z).toArray 28)).rangeAt w.heap.size 81 hs
  bl : bs.length = 81
  hl : hs.length = 16
  bg : ∀ j, j < 81 → bs[j]? = some (.int .i8 (at8 z j))
  hg : ∀ j, j < 16 → hs[j]? = some (.int .i8 (at8 z (81 + j)))
theorem posRows (z : List Int) (hz : z.length = 98) (w : World) : ∃ bs hs, PosRows w z bs hs := by
  have hl : (posC z).length = 98 := by rw [posC_len, hz]
  have hC : ∀ j, j < 98 → (posC z)[j]? = some (.int .i8 (at8 z j)) := fun j hj => posC_get z j (by omega)
  refine ⟨((posC z).drop 0).take 81, ((posC z).drop 81).take 16, ⟨part_range (box_range w (posC z) _) 0 81, part_range (box_range w (posC z) _) 81 16, ?_, ?_, ?_, ?_⟩⟩
  · rw [List.length_take, List.length_drop, hl]; rfl
  · rw [List.length_take, List.length_drop, hl]; rfl
  · exact fun j hj => drop_get (by rw [Nat.zero_add]; exact hC j (by omega)) hj
  · exact fun j hj => drop_get (hC (81 + j) (by omega)) hj

/-- One hand's row, cut out of both. -/
structure HandRow (z : List Int) (s : Nat) (hs row : List Value) : Prop where
  e : row = (hs.drop (s * 8)).take 8
  l : row.length = 8
  g : ∀ j, j < 8 → row[j]? = some (.int .i8 (at8 z (81 + (8 * s + j))))
  one : row.toArray.all (·.oneCell') = true
theorem handRow (z : List Int) (hs : List Value) (hl : hs.length = 16) (hg : ∀ j, j < 16 → hs[j]? = some (.int .i8 (at8 z (81 + j)))) (s : Nat) (hs2 : s < 2) : HandRow z s hs ((hs.drop (s * 8)).take 8) := by
  have hrow : ∀ j, j < 8 → ((hs.drop (s * 8)).take 8)[j]? = some (.int .i8 (at8 z (81 + (8 * s + j)))) := fun j hj => drop_get (by rw [Nat.mul_comm 8 s]; exact hg (s * 8 + j) (by omega)) hj
  have hrl : ((hs.drop (s * 8)).take 8).length = 8 := by rw [List.length_take, List.length_drop, hl]; omega
  refine ⟨rfl, hrl, hrow, all_oneCell_toArray (fun v hv => ?_)⟩
  obtain ⟨j, hj, rfl⟩ := List.mem_iff_getElem.1 hv
  have := hrow j (by omega)
  rw [List.getElem?_eq_getElem hj] at this
  rw [Option.some.inj this]
  rfl

set_option maxHeartbeats 2000000 in
theorem isKnown_any (z : List Int) (hz : z.length = 98) (h8 : I8s z) (w : World) :
    Calls Tryd.prog 99 #[.agg (posC z).toArray] w fun e w' => e = .returned (.bool (knownB z)) ∧ Below w.heap.size w w' := by
  have K := Lib.hid (fun (x : Int) (h : -128 ≤ x ∧ x ≤ 127) W => kind_any x W h.1 h.2)
  have H8 := Lib.hid h8
  obtain ⟨bs, hs, hR⟩ := posRows z hz w
  have HR := Lib.hid hR
  have hw1 : w.heap.size < (w.alloc (.cells (posC z).toArray 28)).heap.size := by simp
  have hb0 := Lib.hid (ball (bref w) (.cells (posC z).toArray 28))
  clear hR hz h8
  go_enter Tryd.func99, Tryd.ntmps99
  go_wp2_with (refine wpList_load_mid rfl _ _ rfl w.heap.size 0 rfl bs _ HR.out.b Tryd.underlying24 rfl (by rw [HR.out.bl]; kernel_rfl) ?_)
  have HR1 := Lib.hid HR.out.h
  generalize w.alloc (.cells (posC z).toArray 28) = w1 at HR1 hb0 hw1 ⊢
  go_loopw [4, 11] (fun _ i wr => ∃ j : Nat, j ≤ 81 ∧ i = .int .i64 j ∧ allB (knownQ z) j = true ∧ Below w1.heap.size w1 wr) (fun _ i _ => 81 - (intOf i).toNat)
  case atStart => exact ⟨0, Nat.zero_le _, rfl, rfl, bref _⟩
  case round =>
    obtain ⟨j, hj, rfl, hall, hB⟩ := hrel
    have HW := Lib.hid hB
    have HALL := Lib.hid hall
    clear hB hall
    by_cases hlt : j < 81
    · have hx := fun W => run_index_cell (P := Tryd.prog) W 24 23 81 bs.toArray j (.int .i8 (at8 z j)) Tryd.underlying24 (by kernel_rfl) (by kernel_rfl) hlt (by simpa using HR.out.bg j hlt)
      have C := Lib.hid (fun W => K.out (at8 z j) (H8.out.at j) W)
      have hk : knownQ z j = (decide (at8 z j = 0) || !decide (kindF (at8 z j) = 0)) := rfl
      generalize at8 z j = x at hx C hk
      generalize kindF x = kx at C hk
      by_cases h0 : x = 0
      · subst h0
        have hk1 := Lib.hid (show knownQ z j = true by rw [hk]; rfl)
        clear hk
        go_wp2
        go_roundw
        case rel => exact ⟨j + 1, by omega, by go_num, allB_step HALL.out hk1.out, HW.out⟩
        case measure => simp [intOf]; omega
      · have n0 : (x == 0) = false := by simpa using h0
        by_cases h1 : kx = 0
        · subst h1
          have hk1 := Lib.hid (show knownQ z j = false by rw [hk, decide_eq_false h0]; rfl)
          clear hk
          go_wp2_with (go_at_call 108; refine (C.out _).mono ?_; rintro e w2 ⟨rfl, rfl⟩)
          go_ret
          refine ⟨?_, hb0.out.trans (HW.out.mono (Nat.le_of_lt hw1))⟩
          unfold knownB
          rw [allB_no hk1.out hlt]
          rfl
        · have n1 : (kx == 0) = false := by simpa using h1
          have hk1 := Lib.hid (show knownQ z j = true by rw [hk, decide_eq_false h0, decide_eq_false h1]; rfl)
          clear hk
          go_wp2_with (go_at_call 108; refine (C.out _).mono ?_; rintro e w2 ⟨rfl, rfl⟩)
          go_roundw
          case rel => exact ⟨j + 1, by omega, by go_num, allB_step HALL.out hk1.out, HW.out⟩
          case measure => simp [intOf]; omega
    · obtain rfl : j = 81 := by omega
      have HR2' := Lib.hid (range_grow HR1.out hw1 HW.out)
      go_wp2_with (refine wpList_load_mid rfl _ _ rfl w.heap.size 81 rfl hs _ HR2'.out Tryd.underlying26 rfl (by rw [HR.out.hl]; kernel_rfl) ?_)
      clear HR1 HR2'
      go_loopw [6, 7, 8, 24] (fun _ _ _ i wr => ∃ s : Nat, s ≤ 2 ∧ i = .int .i64 s ∧ allB (knownH z) (8 * s) = true ∧ Below w1.heap.size w1 wr) (fun _ _ _ i _ => 2 - (intOf i).toNat)
      case atStart => exact ⟨0, Nat.zero_le _, rfl, rfl, HW.out⟩
      case round =>
        obtain ⟨s, hs2, rfl, hall, hB⟩ := hrel
        have HW := Lib.hid hB
        have HALLH := Lib.hid hall
        clear hB hall
        by_cases hlt : s < 2
        · have hx0 := fun W => run_index_row (P := Tryd.prog) W 26 25 2 8 _ hs.toArray s Tryd.underlying26 Tryd.underlying25 rfl (by kernel_rfl) hlt
          rw [extract_row] at hx0
          have hrow := handRow z hs HR.out.hl HR.out.hg s hlt
          generalize (hs.drop (s * 8)).take 8 = row at hx0 hrow
          have HROW := Lib.hid hrow
          clear hrow
          have hst : (storeCells ⟨wr.heap.size, 0, none⟩ row 0).run Tryd.prog (wr.alloc (.cells #[.int .i8 0, .int .i8 0, .int .i8 0, .int .i8 0, .int .i8 0, .int .i8 0, .int .i8 0, .int .i8 0] 25)) = .ok () (wr.alloc (.cells row.toArray 25)) :=
            run_storeCells_new wr 25 _ row.toArray (by rw [List.size_toArray, HROW.out.l]; kernel_rfl) (show (8 : Nat) = row.toArray.size by rw [List.size_toArray, HROW.out.l]) HROW.out.one
          have hrl8 := HROW.out.l
          go_wp2_with (refine wpList_load_row rfl 25 _ rfl wr.heap.size rfl 25 _ _ _ (heap_alloc_new wr _) Tryd.underlying25 rfl (by rw [List.size_toArray, HROW.out.l]; kernel_rfl) ?_)
          clear hst hx0 hrl8
          have HW3 := Lib.hid (HW.out.trans ((ball (bref wr) (.cells row.toArray 25)).mono HW.out.size))
          clear HW
          generalize wr.alloc (.cells row.toArray 25) = w3 at HW3 ⊢
          go_loopw [7, 8, 28] (fun _ _ i wr => ∃ j : Nat, j ≤ 8 ∧ i = .int .i64 j ∧ allB (knownH z) (8 * s + j) = true ∧ Below w1.heap.size w1 wr) (fun _ _ i _ => 8 - (intOf i).toNat)
          case atStart => exact ⟨0, Nat.zero_le _, rfl, HALLH.out, HW3.out⟩
          case round =>
            obtain ⟨j, hj, rfl, hall, hB⟩ := hrel
            have HW := Lib.hid hB
            have HALLJ := Lib.hid hall
            clear hB hall HW3 HALLH
            by_cases hlt8 : j < 8
            · have hx := fun W => run_index_cell (P := Tryd.prog) W 25 22 8 row.toArray j (.int .i8 (at8 z (81 + (8 * s + j)))) Tryd.underlying25 (by kernel_rfl) (by kernel_rfl) hlt8 (by simpa using HROW.out.g j hlt8)
              have hk : knownH z (8 * s + j) = !(decide (at8 z (81 + (8 * s + j)) < 0) || (decide (j = 0) && !decide (at8 z (81 + (8 * s + j)) = 0))) := by
                unfold knownH
                rw [show (8 * s + j) % 8 = j by omega]
              generalize at8 z (81 + (8 * s + j)) = x at hx hk
              by_cases hbad : x < 0 ∨ (j = 0 ∧ x ≠ 0)
              · have hk1 := Lib.hid (show knownH z (8 * s + j) = false by
                  rw [hk]
                  rcases hbad with h | ⟨h, h'⟩
                  · rw [decide_eq_true h]; rfl
                  · rw [decide_eq_true h, decide_eq_false h']; cases decide (x < 0) <;> rfl)
                clear hk
                have fin : ∀ w', Below w1.heap.size w1 w' → Ending.returned (Value.bool false) = Ending.returned (Value.bool (knownB z)) ∧ Below w.heap.size w w' := by
                  intro w' h
                  refine ⟨?_, hb0.out.trans (h.mono (Nat.le_of_lt hw1))⟩
                  unfold knownB
                  rw [allB_no hk1.out (by omega : 8 * s + j < 16), Bool.and_false]
                have FIN := Lib.hid fin
                clear fin
                rcases hbad with h | ⟨h0, h'⟩
                · go_wp2
                  go_ret
                  exact FIN.out _ HW.out
                · have j0 : ((j : Int) == 0) = true := by simpa using h0
                  clear h0
                  by_cases h : x < 0
                  · go_wp2
                    go_ret
                    exact FIN.out _ HW.out
                  · have n0 : (x == 0) = false := by simpa using h'
                    go_wp2
                    go_ret
                    exact FIN.out _ HW.out
              · have hk1 := Lib.hid (show knownH z (8 * s + j) = true by
                  rw [hk, decide_eq_false (fun h => hbad (.inl h))]
                  by_cases h : j = 0
                  · rw [decide_eq_true h, decide_eq_true (show x = 0 by omega)]; rfl
                  · rw [decide_eq_false h]; rfl)
                clear hk
                have nb : ¬ x < 0 := fun h => hbad (.inl h)
                by_cases h : j = 0
                · obtain rfl : x = 0 := by omega
                  have j0 : ((j : Int) == 0) = true := by simpa using h
                  clear hbad h
                  go_wp2
                  go_roundw
                  case rel => exact ⟨j + 1, by omega, by go_num, allB_step HALLJ.out hk1.out, HW.out⟩
                  case measure => simp [intOf]; omega
                · have nj : ((j : Int) == 0) = false := by simpa using h
                  clear hbad
                  go_wp2
                  go_roundw
                  case rel => exact ⟨j + 1, by omega, by go_num, allB_step HALLJ.out hk1.out, HW.out⟩
                  case measure => simp [intOf]; omega
            · obtain rfl : j = 8 := by omega
              go_wp2
              go_roundw
              case rel => exact ⟨s + 1, by omega, by go_num, by rw [show 8 * (s + 1) = 8 * s + 8 by omega]; exact HALLJ.out, HW.out⟩
              case measure => simp [intOf]; omega
        · obtain rfl : s = 2 := by omega
          go_wp2
          go_ret
          refine ⟨?_, hb0.out.trans (HW.out.mono (Nat.le_of_lt hw1))⟩
          unfold knownB
          rw [HALL.out, show (16 : Nat) = 8 * 2 from rfl, HALLH.out]
          rfl
end Go.Proofs.YtbopbekehccdmaaDoor
