/-
  The head of the board laws: games begin with forty pieces.
-/
import Derived.Test.YtfemicpfkgecbaaDoorStart
namespace Go.Proofs.YtfemicpfkgecbaaDoor
open Go.RowKit
set_option linter.unusedVariables false
set_option linter.unusedSimpArgs false

theorem start_8 : I8s startZ := by
  have h : startZ.all (fun x => decide (-128 ≤ x ∧ x ≤ 127)) = true := by decide +kernel
  intro x hx
  exact of_decide_eq_true (List.all_eq_true.1 h x hx)
theorem start_clean : Clean startZ := by
  have h : ∀ q : Nat, q < 81 → kindF (at8 startZ q) = 0 → at8 startZ q = 0 := by decide +kernel
  exact h
theorem start_new : newZ startZ = startZ := newZ_self _ startZ_len start_clean
theorem start_taken : pop 81 (takenN startZ) = 40 := by decide +kernel
theorem start_at : at8 startZ 44 = 8 := by decide +kernel
theorem start_king0 : kingF startZ 0 = 44 := by decide +kernel
theorem start_king1 : kingF startZ 1 = 36 := by decide +kernel
theorem start_check : checkF startZ = 0 := by decide +kernel

set_option maxHeartbeats 2000000 in
theorem begins_true (w : World) (hT : Tab w) (hH : Home w) :
    Calls Tryd.prog 10 #[] w fun e w' => e = .returned (.bool true) ∧ Below w.heap.size w w' := by
  have ST := Lib.hid (fun W (h : Home W) => start_any W h)
  have NE := Lib.hid (fun W => new_brd startZ startZ_len start_8 W)
  have TA := Lib.hid (fun g W (h : Brd W g startZ) => taken_brd g startZ startZ_len W h)
  have CN := Lib.hid (fun W => count_any (takenN startZ) (takenN_sq _) W)
  have AT := Lib.hid (fun g W (h : Brd W g startZ) => at_brd g startZ 44 startZ_len W h)
  have K0 := Lib.hid (fun g W (h : Brd W g startZ) (hT : Tab W) => king_brd g startZ 0 startZ_len W h hT)
  have K1 := Lib.hid (fun g W (h : Brd W g startZ) (hT : Tab W) => king_brd g startZ 1 startZ_len W h hT)
  have CH := Lib.hid (fun W => check_any startZ startZ_len start_8 W)
  rw [start_new] at NE
  rw [start_taken] at CN
  rw [start_king0] at K0
  rw [start_king1] at K1
  rw [start_check] at CH
  rw [show (if (0 : Int) ≤ 44 ∧ (44 : Int) < 81 then at8 startZ (44 : Int).toNat else 0) = 8 from (if_pos (by omega)).trans start_at] at AT
  have HT := Lib.hid hT
  have HH := Lib.hid hH
  clear hT hH
  generalize (posC startZ).toArray = ps at ST NE CH
  generalize loW (takenN startZ) = tl at TA CN
  generalize hiW (takenN startZ) = th at TA CN
  generalize startZ = sz at NE TA AT K0 K1
  go_enter Tryd.func10, Tryd.ntmps10
  have HB := Lib.hid (bref w)
  go_wp2_with (first
    | (go_at_call 39; refine (ST.out _ (HH.out.grow HB.out)).mono ?_; rintro e w1 ⟨rfl, hb⟩; have HB := Lib.hid (bthen HB.out hb); clear hb)
    | (go_at_call 11; refine (NE.out _).mono ?_; rintro e w2 ⟨g, rfl, hg, hbd, hb⟩; have HBD := Lib.hid hbd; have HB := Lib.hid (bthen HB.out hb); clear hb hbd)
    | (go_at_call 22; refine (TA.out _ _ HBD.out).mono ?_; rintro e w3 ⟨rfl, hb⟩; have HBD := Lib.hid (HBD.out.grow hb); have HB := Lib.hid (bthen HB.out hb); clear hb)
    | (go_at_call 40; refine (CN.out _).mono ?_; rintro e w4 ⟨rfl, hb⟩; have HBD := Lib.hid (HBD.out.grow hb); have HB := Lib.hid (bthen HB.out hb); clear hb)
    | (go_at_call 14; refine (AT.out _ _ HBD.out).mono ?_; rintro e w5 ⟨rfl, rfl⟩)
    | (go_at_call_of 18 (Value.int .i64 0); refine (K0.out _ _ HBD.out (HT.out.grow HB.out)).mono ?_; rintro e w6 ⟨rfl, hb⟩; have HBD := Lib.hid (HBD.out.grow hb); have HB := Lib.hid (bthen HB.out hb); clear hb)
    | (go_at_call_of 18 (Value.int .i64 1); refine (K1.out _ _ HBD.out (HT.out.grow HB.out)).mono ?_; rintro e w7 ⟨rfl, hb⟩; have HBD := Lib.hid (HBD.out.grow hb); have HB := Lib.hid (bthen HB.out hb); clear hb)
    | (go_at_call 41; refine (CH.out _).mono ?_; rintro e w8 ⟨rfl, hb⟩; have HB := Lib.hid (bthen HB.out hb); clear hb))
  go_ret
  exact ⟨rfl, HB.out⟩
end Go.Proofs.YtfemicpfkgecbaaDoor
