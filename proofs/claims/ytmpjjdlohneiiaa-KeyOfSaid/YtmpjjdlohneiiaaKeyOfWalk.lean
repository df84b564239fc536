/-
  The walk of the law KeyOf: for every raw position it returns true.
-/
import Derived.Test.YtmpjjdlohneiiaaKeyHead
import Derived.OpenShut
namespace Go.Proofs.Ytmpjjdlohneiiaa.keyOf
open Go.RowKit
set_option linter.unusedVariables false
set_option linter.unusedSimpArgs false

set_option maxHeartbeats 4000000 in
theorem walk (z : List Int) (hz : z.length = 98) (h8 : I8s z) (w : World) :
    Calls Try.prog 5 #[.agg (posC z).toArray] w fun e w' => e = .returned (.bool true) ∧ Below w.heap.size w w' := by
  have CT := Lib.hid (fun W => counts_true W)
  have P := Lib.hid (fun (q x : Int) (h : -128 ≤ x ∧ x ≤ 127) W => pieceK_any q x h.1 h.2 W)
  have H := Lib.hid (fun s k n W => handK_any s k n W)
  have S := Lib.hid (fun W => sideK_any W)
  have O := Lib.hid (fun W => keyOf_any z hz h8 W)
  have H8 := Lib.hid h8
  have hC : ∀ j, j < 98 → (posC z)[j]? = some (.int .i8 (at8 z j)) := fun j hj => posC_get z j (by omega)
  have HC := Lib.hid hC
  have hl : (posC z).length = 98 := by rw [posC, List.length_map, hz]
  clear hC
  generalize posC z = cs at HC hl O ⊢
  have HL := Lib.hid hl
  clear hl hz h8
  have HBX := Lib.hid (box_range w cs 47)
  have hbx : ∀ j, j < 98 → (w.alloc (.cells cs.toArray 47)).cell? ⟨w.heap.size, j, none⟩ = some (.int .i8 (at8 z j)) := fun j hj => box_cell w cs _ j _ (HC.out j hj)
  have HB0 := Lib.hid hbx
  clear hbx HC
  go_enter Try.func5, Try.ntmps5
  go_wp2_with (go_at_call 23; refine (CT.out _).mono ?_; rintro e w1 ⟨rfl, hb1⟩)
  have hw1 : w.heap.size < w1.heap.size := by have := hb1.size; simp at this; omega
  have hc1 : Hid (∀ j, j < 98 → w1.cell? ⟨w.heap.size, j, none⟩ = some (.int .i8 (at8 z j))) := fun j hj => (hb1.cell (p := ⟨w.heap.size, j, none⟩) (by simp)).trans (HB0.out j hj)
  have hr1 : Hid (w1.rangeAt w.heap.size 0 cs) := range_grow HBX.out (by simp) hb1
  have hb0 : Hid (Below w.heap.size w w1) := bthen (ball (bref w) _) hb1
  clear hb1 HB0 HBX
  go_loopw [3, 4] (fun k i wr => ∃ j : Nat, j ≤ 81 ∧ i = .int .i64 j ∧ k = .int .u64 (bF z j : Int) ∧ Below w1.heap.size w1 wr) (fun _ i _ => 81 - (intOf i).toNat)
  case atStart => exact ⟨0, Nat.zero_le _, rfl, rfl, bref _⟩
  case round =>
    obtain ⟨j, hj, rfl, rfl, hB⟩ := hrel
    have HW := Lib.hid hB
    clear hB
    by_cases hlt : j < 81
    · have cx : wr.cell? ⟨w.heap.size, j, none⟩ = some (.int .i8 (at8 z j)) := (HW.out.cell (p := ⟨w.heap.size, j, none⟩) hw1).trans (hc1.out j (by omega))
      have C := Lib.hid (fun W => P.out j (at8 z j) (H8.out.at j) W)
      have e1 : bits .xor .u64 ((bF z j : Nat) : Int) ((pieceK j (at8 z j) : Nat) : Int) = ((bF z (j + 1) : Nat) : Int) := u64_xor_nat _ _ (bF_lt z j) (pieceK_lt _ _)
      have E1 := Lib.hid e1
      clear e1
      generalize ((bF z j : Nat) : Int) = b0 at E1
      generalize ((pieceK j (at8 z j) : Nat) : Int) = b1 at E1 C
      generalize at8 z j = x at cx C
      go_wp2_with (go_at_call 24; refine (C.out _).mono ?_; rintro e w2 ⟨rfl, hb2⟩)
      go_roundw
      case rel => exact ⟨j + 1, by omega, by go_num, by rw [E1.out], HW.out.trans (hb2.mono HW.out.size)⟩
      case measure => simp [intOf]; omega
    · obtain rfl : j = 81 := by omega
      rw [show ((81 : Nat) : Int) = (81 : Int) from rfl]
      go_wp2_with fail
      go_loopw [3, 5, 6] (fun k i _ wr => ∃ s : Nat, s ≤ 2 ∧ i = .int .i64 s ∧ k = .int .u64 (hF z (8 * s) : Int) ∧ Below w1.heap.size w1 wr) (fun _ i _ _ => 2 - (intOf i).toNat)
      case atStart => exact ⟨0, Nat.zero_le _, rfl, rfl, HW.out⟩
      case round =>
        obtain ⟨s, hs2, rfl, rfl, hB⟩ := hrel
        have HW := Lib.hid hB
        clear hB
        by_cases hlt : s < 2
        · have hd : decide ((s : Int) < 2) = true := by simp; omega
          go_wp2_with fail
          go_loopw [3, 6] (fun k i wr => ∃ j : Nat, j ≤ 8 ∧ i = .int .i64 j ∧ k = .int .u64 (hF z (8 * s + j) : Int) ∧ Below w1.heap.size w1 wr) (fun _ i _ => 8 - (intOf i).toNat)
          case atStart => exact ⟨0, Nat.zero_le _, rfl, rfl, HW.out⟩
          case round =>
            obtain ⟨j, hj, rfl, rfl, hB⟩ := hrel
            have HW := Lib.hid hB
            clear hB
            by_cases hlt8 : j < 8
            · have cx : wr.cell? ⟨w.heap.size, 81 + s * 8 + j, none⟩ = some (.int .i8 (at8 z (81 + (8 * s + j)))) := by
                rw [show 81 + s * 8 + j = 81 + (8 * s + j) by omega]
                exact (HW.out.cell (p := ⟨w.heap.size, 81 + (8 * s + j), none⟩) hw1).trans (hc1.out _ (by omega))
              have C := Lib.hid (fun W => H.out s j (at8 z (81 + (8 * s + j))) W)
              have e1 : bits .xor .u64 ((hF z (8 * s + j) : Nat) : Int) ((handK s j (at8 z (81 + (8 * s + j))) : Nat) : Int) = ((hF z (8 * s + j + 1) : Nat) : Int) := by
                rw [hF_step z s j hlt8]
                exact u64_xor_nat _ _ (hF_lt z _) (handK_lt _ _ _)
              have E1 := Lib.hid e1
              have wx : wrap64 (at8 z (81 + (8 * s + j))) = at8 z (81 + (8 * s + j)) := by
                have := H8.out.at (81 + (8 * s + j))
                unfold wrap64
                omega
              have WX := Lib.hid wx
              clear e1 wx
              generalize ((hF z (8 * s + j) : Nat) : Int) = b0 at E1
              generalize ((handK s j (at8 z (81 + (8 * s + j))) : Nat) : Int) = b1 at E1 C
              generalize at8 z (81 + (8 * s + j)) = x at cx C WX
              go_wp2_with (go_at_call 25; rw [WX.out]; refine (C.out _).mono ?_; rintro e w2 ⟨rfl, hb2⟩)
              go_roundw
              case rel => exact ⟨j + 1, by omega, by go_num, by rw [E1.out]; rfl, HW.out.trans (hb2.mono HW.out.size)⟩
              case measure => simp [intOf]; omega
            · obtain rfl : j = 8 := by omega
              go_wp2
              go_roundw
              case rel => exact ⟨s + 1, by omega, by go_num, by rw [show 8 * (s + 1) = 8 * s + 8 by omega], HW.out⟩
              case measure => simp [intOf]; omega
        · obtain rfl : s = 2 := by omega
          have c97 : wr.cell? ⟨w.heap.size, 97, none⟩ = some (.int .i8 (at8 z 97)) := (HW.out.cell (p := ⟨w.heap.size, 97, none⟩) hw1).trans (hc1.out 97 (by omega))
          have hfin : ofK z = if at8 z 97 = 1 then hF z (8 * 2) ^^^ sideK else hF z (8 * 2) := rfl
          have hxs : bits .xor .u64 ((hF z (8 * 2) : Nat) : Int) ((sideK : Nat) : Int) = ((hF z (8 * 2) ^^^ sideK : Nat) : Int) := u64_xor_nat _ _ (hF_lt z _) sideK_lt
          have HX := Lib.hid hxs
          clear hxs
          have HR2 := Lib.hid (range_grow hr1.out hw1 HW.out)
          generalize at8 z 97 = x97 at c97 hfin
          have h98 : x97 = 1 ∨ x97 ≠ 1 := by omega
          rcases h98 with rfl | h98
          · rw [if_pos rfl] at hfin
            rw [← hfin] at HX
            have HF := Lib.hid hfin
            clear hfin
            generalize hF z (8 * 2) = h0 at HX
            generalize sideK = sk at S HX
            generalize ofK z = ok at O HX
            go_wp2_with (first
              | (go_at_call 26; refine (S.out _).mono ?_; rintro e w4 ⟨rfl, hb4⟩; have HR3 := Lib.hid (range_grow HR2.out (Nat.lt_of_lt_of_le hw1 HW.out.size) hb4))
              | (refine wpList_load_mid rfl _ _ rfl w.heap.size 0 rfl cs _ HR3.out Try.underlying47 rfl (by rw [HL.out]; kernel_rfl) ?_)
              | (go_at_call 27; refine (O.out _).mono ?_; rintro e w5 ⟨rfl, hb5⟩))
            go_ret
            refine ⟨?_, bthen (bthen (hb0.out.trans (HW.out.mono (Nat.le_of_lt hw1))) hb4) hb5⟩
            rw [HX.out]
            simp
          · rw [if_neg h98] at hfin
            have c98 : (x97 == 1) = false := by simpa using h98
            have HF := Lib.hid hfin
            clear hfin h98
            rw [HF.out] at O
            generalize hF z (8 * 2) = h0 at O
            go_wp2_with (first
              | (refine wpList_load_mid rfl _ _ rfl w.heap.size 0 rfl cs _ HR2.out Try.underlying47 rfl (by rw [HL.out]; kernel_rfl) ?_)
              | (go_at_call 27; refine (O.out _).mono ?_; rintro e w5 ⟨rfl, hb5⟩))
            go_ret
            exact ⟨by simp, bthen (hb0.out.trans (HW.out.mono (Nat.le_of_lt hw1))) hb5⟩
end Go.Proofs.Ytmpjjdlohneiiaa.keyOf
