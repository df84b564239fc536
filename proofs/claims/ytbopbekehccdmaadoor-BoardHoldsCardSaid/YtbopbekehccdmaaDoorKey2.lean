/-
  The key package's Of.
-/
import Derived.Test.YtbopbekehccdmaaDoorKey1
import Derived.Test.YtbopbekehccdmaaDoorPosC
import Derived.Deep.WholeRow
import Derived.Deep.RegionHeld3
namespace Go.Proofs.YtbopbekehccdmaaDoor
open Go.RowKit
set_option linter.unusedVariables false
set_option linter.unusedSimpArgs false

def bF (z : List Int) : Nat → Nat
  | 0 => 0
  | k + 1 => bF z k ^^^ pieceK k (at8 z k)
def hF (z : List Int) : Nat → Nat
  | 0 => bF z 81
  | j + 1 => hF z j ^^^ handK ((j / 8 : Nat) : Int) ((j % 8 : Nat) : Int) (at8 z (81 + j))
def ofK (z : List Int) : Nat := if at8 z 97 = 1 then hF z 16 ^^^ sideK else hF z 16
theorem bF_lt (z : List Int) : ∀ k, bF z k < 18446744073709551616
  | 0 => Nat.zero_lt_succ _
  | k + 1 => by
    have h := bF_lt z k
    have h2 := pieceK_lt k (at8 z k)
    unfold bF
    rw [pow64] at *
    exact Nat.xor_lt_two_pow h h2
theorem hF_lt (z : List Int) : ∀ k, hF z k < 18446744073709551616
  | 0 => bF_lt z 81
  | k + 1 => by
    have h := hF_lt z k
    have h2 := handK_lt ((k / 8 : Nat) : Int) ((k % 8 : Nat) : Int) (at8 z (81 + k))
    unfold hF
    rw [pow64] at *
    exact Nat.xor_lt_two_pow h h2
theorem xor_lt64 {a b : Nat} (ha : a < 18446744073709551616) (hb : b < 18446744073709551616) : a ^^^ b < 18446744073709551616 := by
  rw [pow64] at *
  exact Nat.xor_lt_two_pow ha hb
theorem ofK_lt (z : List Int) : ofK z < 18446744073709551616 := by
  unfold ofK
  split
  · exact xor_lt64 (hF_lt z 16) sideK_lt
  · exact hF_lt z 16

theorem hF_step (z : List Int) (s j : Nat) (hj : j < 8) : hF z (8 * s + j + 1) = hF z (8 * s + j) ^^^ handK s j (at8 z (81 + (8 * s + j))) := by
  rw [show hF z (8 * s + j + 1) = hF z (8 * s + j) ^^^ handK (((8 * s + j) / 8 : Nat) : Int) (((8 * s + j) % 8 : Nat) : Int) (at8 z (81 + (8 * s + j))) from rfl, show (8 * s + j) / 8 = s by omega, show (8 * s + j) % 8 = j by omega]

set_option maxHeartbeats 1000000 in
theorem keyOf_any (z : List Int) (hz : z.length = 98) (h8 : I8s z) (w : World) : Calls Tryd.prog 36 #[.agg (posC z).toArray] w fun e w' => e = .returned (.int .u64 (ofK z : Int)) ∧ Below w.heap.size w w' := by
  have P := Lib.hid (fun (q x : Int) (h : -128 ≤ x ∧ x ≤ 127) W => pieceK_any q x h.1 h.2 W)
  have H := Lib.hid (fun s k n W => handK_any s k n W)
  have S := Lib.hid (fun W => sideK_any W)
  have H8 := Lib.hid h8
  have hC : ∀ j, j < 98 → (posC z)[j]? = some (.int .i8 (at8 z j)) := fun j hj => posC_get z j (by omega)
  have HC := Lib.hid hC
  have hl : (posC z).length = 98 := by rw [posC, List.length_map, hz]
  clear hC
  generalize posC z = cs at HC hl
  have HL := Lib.hid hl
  clear hl hz h8
  have HBX := Lib.hid (box_range w cs 28)
  have hr1 := part_range HBX.out 0 81
  have hr2 := part_range HBX.out 81 16
  have hb1 : ∀ j, j < 81 → ((cs.drop 0).take 81)[j]? = some (.int .i8 (at8 z j)) := fun j hj => drop_get (by rw [Nat.zero_add]; exact HC.out j (by omega)) hj
  have hb2 : ∀ j, j < 16 → ((cs.drop 81).take 16)[j]? = some (.int .i8 (at8 z (81 + j))) := fun j hj => drop_get (HC.out (81 + j) (by omega)) hj
  have hbl : ((cs.drop 0).take 81).length = 81 := by rw [List.length_take, List.length_drop, HL.out]; rfl
  have hbm : ((cs.drop 81).take 16).length = 16 := by rw [List.length_take, List.length_drop, HL.out]; rfl
  generalize (cs.drop 0).take 81 = bs at hr1 hb1 hbl
  generalize (cs.drop 81).take 16 = hs at hr2 hb2 hbm
  have HR1 := Lib.hid hr1
  have HB1 := Lib.hid hb1
  have HBL := Lib.hid hbl
  have HR2 := Lib.hid hr2
  have HB2 := Lib.hid hb2
  have HBM := Lib.hid hbm
  have h97 : (w.alloc (.cells cs.toArray 28)).cell? ⟨w.heap.size, 97, none⟩ = some (.int .i8 (at8 z 97)) := box_cell w cs _ 97 _ (HC.out 97 (by omega))
  have H97 := Lib.hid h97
  clear hr1 hb1 hbl hr2 hb2 hbm h97 HC HL
  go_enter Tryd.func36, Tryd.ntmps36
  go_wp2_with (refine wpList_load_mid rfl _ _ rfl w.heap.size 0 rfl bs _ HR1.out Tryd.underlying24 rfl (by rw [HBL.out]; kernel_rfl) ?_)
  have hw1 : w.heap.size < (w.alloc (.cells cs.toArray 28)).heap.size := by simp
  have hb0 : Below w.heap.size w (w.alloc (.cells cs.toArray 28)) := ball (bref w) _
  generalize w.alloc (.cells cs.toArray 28) = w1 at *
  go_loopw [3, 4, 5, 12] (fun k _ _ i wr => ∃ j : Nat, j ≤ 81 ∧ i = .int .i64 j ∧ k = .int .u64 (bF z j : Int) ∧ Below w1.heap.size w1 wr) (fun _ _ _ i _ => 81 - (intOf i).toNat)
  case atStart => exact ⟨0, Nat.zero_le _, rfl, rfl, bref _⟩
  case round =>
    obtain ⟨j, hj, rfl, rfl, hB⟩ := hrel
    have HW := Lib.hid hB
    clear hB
    by_cases hlt : j < 81
    · have hx := fun W => run_index_cell (P := Tryd.prog) W 24 23 81 bs.toArray j (.int .i8 (at8 z j)) Tryd.underlying24 (by kernel_rfl) (by kernel_rfl) hlt (by simpa using HB1.out j hlt)
      have C := Lib.hid (fun W => P.out j (at8 z j) (H8.out.at j) W)
      have e1 : bits .xor .u64 ((bF z j : Nat) : Int) ((pieceK j (at8 z j) : Nat) : Int) = ((bF z (j + 1) : Nat) : Int) := u64_xor_nat _ _ (bF_lt z j) (pieceK_lt _ _)
      have E1 := Lib.hid e1
      clear e1
      generalize ((bF z j : Nat) : Int) = b0 at E1
      generalize ((pieceK j (at8 z j) : Nat) : Int) = b1 at E1 C
      generalize at8 z j = x at hx C
      go_wp2_with (go_at_call 76; refine (C.out _).mono ?_; rintro e w2 ⟨rfl, hb2⟩)
      go_roundw
      case rel => exact ⟨j + 1, by omega, by go_num, by rw [E1.out], HW.out.trans (hb2.mono HW.out.size)⟩
      case measure => simp [intOf]; omega
    · obtain rfl : j = 81 := by omega
      have HR2' := Lib.hid (range_grow HR2.out hw1 HW.out)
      go_wp2_with (refine wpList_load_mid rfl _ _ rfl w.heap.size 81 rfl hs _ HR2'.out Tryd.underlying26 rfl (by rw [HBM.out]; kernel_rfl) ?_)
      clear HR1 HB1 HBL HR2 HR2'
      go_loopw [3, 6, 7, 8, 9, 24] (fun k _ _ _ _ i wr => ∃ s : Nat, s ≤ 2 ∧ i = .int .i64 s ∧ k = .int .u64 (hF z (8 * s) : Int) ∧ Below w1.heap.size w1 wr) (fun _ _ _ _ _ i _ => 2 - (intOf i).toNat)
      case atStart => exact ⟨0, Nat.zero_le _, rfl, rfl, HW.out⟩
      case round =>
        obtain ⟨s, hs2, rfl, rfl, hB⟩ := hrel
        have HW := Lib.hid hB
        clear hB
        by_cases hlt : s < 2
        · have hx0 := fun W => run_index_row (P := Tryd.prog) W 26 25 2 8 _ hs.toArray s Tryd.underlying26 Tryd.underlying25 rfl (by kernel_rfl) hlt
          rw [extract_row] at hx0
          have hrow : ∀ j, j < 8 → ((hs.drop (s * 8)).take 8)[j]? = some (.int .i8 (at8 z (81 + (8 * s + j)))) := fun j hj => drop_get (by rw [Nat.mul_comm 8 s]; exact HB2.out (s * 8 + j) (by omega)) hj
          have hrl : ((hs.drop (s * 8)).take 8).length = 8 := by rw [List.length_take, List.length_drop, HBM.out]; omega
          generalize (hs.drop (s * 8)).take 8 = row at hx0 hrow hrl
          have HROW := Lib.hid hrow
          have HRL := Lib.hid hrl
          have h1c : row.toArray.all (·.oneCell') = true := all_oneCell_toArray (fun v hv => by
            obtain ⟨j, hj, rfl⟩ := List.mem_iff_getElem.1 hv
            have := hrow j (by omega)
            rw [List.getElem?_eq_getElem hj] at this
            rw [Option.some.inj this]
            rfl)
          have H1C := Lib.hid h1c
          clear hrow hrl h1c
          have hst : (storeCells ⟨wr.heap.size, 0, none⟩ row 0).run Tryd.prog (wr.alloc (.cells #[.int .i8 0, .int .i8 0, .int .i8 0, .int .i8 0, .int .i8 0, .int .i8 0, .int .i8 0, .int .i8 0] 25)) = .ok () (wr.alloc (.cells row.toArray 25)) :=
            run_storeCells_new wr 25 _ row.toArray (by rw [List.size_toArray, HRL.out]; kernel_rfl) (show (8 : Nat) = row.toArray.size by rw [List.size_toArray, HRL.out]) H1C.out
          go_wp2_with (refine wpList_load_row rfl 25 _ rfl wr.heap.size rfl 25 _ _ _ (heap_alloc_new wr _) Tryd.underlying25 rfl (by rw [List.size_toArray, HRL.out]; kernel_rfl) ?_)
          clear hst hx0
          have HW3 := Lib.hid (HW.out.trans ((ball (bref wr) (.cells row.toArray 25)).mono HW.out.size))
          clear HW
          generalize wr.alloc (.cells row.toArray 25) = w3 at HW3 ⊢
          go_loopw [3, 8, 9, 29] (fun k _ _ i wr => ∃ j : Nat, j ≤ 8 ∧ i = .int .i64 j ∧ k = .int .u64 (hF z (8 * s + j) : Int) ∧ Below w1.heap.size w1 wr) (fun _ _ _ i _ => 8 - (intOf i).toNat)
          case atStart => exact ⟨0, Nat.zero_le _, rfl, rfl, HW3.out⟩
          case round =>
            obtain ⟨j, hj, rfl, rfl, hB⟩ := hrel
            have HW := Lib.hid hB
            clear hB
            by_cases hlt8 : j < 8
            · have hx := fun W => run_index_cell (P := Tryd.prog) W 25 22 8 row.toArray j (.int .i8 (at8 z (81 + (8 * s + j)))) Tryd.underlying25 (by kernel_rfl) (by kernel_rfl) hlt8 (by simpa using HROW.out j hlt8)
              have C := Lib.hid (fun W => H.out s j (at8 z (81 + (8 * s + j))) W)
              have e1 : bits .xor .u64 ((hF z (8 * s + j) : Nat) : Int) ((handK s j (at8 z (81 + (8 * s + j))) : Nat) : Int) = ((hF z (8 * s + j + 1) : Nat) : Int) := by
                rw [hF_step z s j hlt8]
                exact u64_xor_nat _ _ (hF_lt z _) (handK_lt _ _ _)
              have E1 := Lib.hid e1
              have wx : wrap64 (at8 z (81 + (8 * s + j))) = at8 z (81 + (8 * s + j)) := by
                have := H8.out.at (81 + (8 * s + j))
                unfold wrap64
                omega
              have WX := Lib.hid wx
              clear e1 wx
              generalize ((hF z (8 * s + j) : Nat) : Int) = b0 at E1
              generalize ((handK s j (at8 z (81 + (8 * s + j))) : Nat) : Int) = b1 at E1 C
              generalize at8 z (81 + (8 * s + j)) = x at hx C WX
              go_wp2_with (go_at_call 77; rw [WX.out]; refine (C.out _).mono ?_; rintro e w2 ⟨rfl, hb2⟩)
              go_roundw
              case rel => exact ⟨j + 1, by omega, by go_num, by rw [E1.out]; rfl, HW.out.trans (hb2.mono HW.out.size)⟩
              case measure => simp [intOf]; omega
            · obtain rfl : j = 8 := by omega
              go_wp2
              go_roundw
              case rel => exact ⟨s + 1, by omega, by go_num, by rw [show 8 * (s + 1) = 8 * s + 8 by omega], HW.out⟩
              case measure => simp [intOf]; omega
        · obtain rfl : s = 2 := by omega
          have c97 : wr.cell? ⟨w.heap.size, 97, none⟩ = some (.int .i8 (at8 z 97)) := (HW.out.cell (p := ⟨w.heap.size, 97, none⟩) hw1).trans H97.out
          have hfin : ofK z = if at8 z 97 = 1 then hF z (8 * 2) ^^^ sideK else hF z (8 * 2) := rfl
          have hxs : bits .xor .u64 ((hF z (8 * 2) : Nat) : Int) ((sideK : Nat) : Int) = ((hF z (8 * 2) ^^^ sideK : Nat) : Int) := u64_xor_nat _ _ (hF_lt z _) sideK_lt
          have HX := Lib.hid hxs
          clear hxs
          generalize at8 z 97 = x97 at c97 hfin
          have h98 : x97 = 1 ∨ x97 ≠ 1 := by omega
          rcases h98 with rfl | h98
          · rw [if_pos rfl] at hfin
            rw [← hfin] at HX
            have HF := Lib.hid hfin
            clear hfin
            generalize hF z (8 * 2) = h0 at HX
            generalize sideK = sk at S HX
            go_wp2_with (go_at_call 78; refine (S.out _).mono ?_; rintro e w4 ⟨rfl, hb4⟩)
            go_ret
            rw [HX.out]
            exact ⟨rfl, bthen (hb0.trans (HW.out.mono (Nat.le_of_lt hw1))) hb4⟩
          · rw [if_neg h98] at hfin
            have c98 : (x97 == 1) = false := by simpa using h98
            have HF := Lib.hid hfin
            clear hfin h98
            go_wp2
            go_ret
            rw [HF.out]
            exact ⟨rfl, hb0.trans (HW.out.mono (Nat.le_of_lt hw1))⟩
end Go.Proofs.YtbopbekehccdmaaDoor
