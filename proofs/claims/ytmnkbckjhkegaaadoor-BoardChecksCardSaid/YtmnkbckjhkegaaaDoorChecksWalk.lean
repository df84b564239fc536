/-
  The walk of the law BoardChecks.
-/
import Derived.Test.YtmnkbckjhkegaaaDoorBegins
import Derived.Test.YtmnkbckjhkegaaaDoorRefChk4
namespace Go.Proofs.YtmnkbckjhkegaaaDoor.boardChecks
open Go.RowKit
set_option linter.unusedVariables false
set_option linter.unusedSimpArgs false

set_option maxHeartbeats 2000000 in
theorem walk (z : List Int) (hz : z.length = 98) (h8 : I8s z) (w : World) (hT : Tab w) (hH : Home w) :
    Calls Tryd.prog 4 #[.agg (posC z).toArray] w fun e w' => e = .returned (.bool true) ∧ Below w.heap.size w w' := by
  have BE := Lib.hid (fun W (hT : Tab W) (hH : Home W) => begins_true W hT hH)
  have CH := Lib.hid (fun W => check_any z hz h8 W)
  have RC := Lib.hid (fun W => refCheck_any z hz h8 W)
  have HINF := Lib.hid (show (Tryd.prog.info? 28).map (·.size) = some (posC z).length by rw [posC_len, hz]; exact infoPos)
  have HP := Lib.hid (PosAt.new w z)
  have HB := Lib.hid (ball (bref w) (.cells (posC z).toArray 28))
  have HT := Lib.hid hT
  have HH := Lib.hid hH
  clear hT hH hz h8
  generalize checkF z = c at CH RC
  go_enter Tryd.func4, Tryd.ntmps4
  go_wp2_with (go_at_call 9; refine (BE.out _ (HT.out.grow HB.out) (HH.out.grow HB.out)).mono ?_; rintro e w1 ⟨rfl, hb⟩; have HP := Lib.hid (HP.out.grow hb); have HB := Lib.hid (bthen HB.out hb); clear hb)
  refine wp_region_held_drew (S := fun w' => Below w1.heap.size w1 w' ∧ PosAt w' w.heap.size z) (by kernel_rfl) ?_ (fun hHeld => ?_)
  · exact ⟨(bref w1).drew, HP.out⟩
  refine wpAnyH_take (i := 0) rfl (by kernel_rfl) (by kernel_rfl) (by kernel_rfl) (fun _ _ _ h => h) (yieldsIf_load_mid (by rfl) _ _ rfl _ _ rfl (posC z) _ (fun w h => h.2.range) (Tryd.underlying28) rfl (HINF.out)) (by assumption) ?_
  try simp only [Act.put, List.getElem_toArray, List.getElem_cons_zero, List.getElem_cons_succ, List.setIfInBounds_toArray, List.set_cons_zero, List.set_cons_succ]
  refine wpAnyH_take (i := 2) rfl (by kernel_rfl) (by kernel_rfl) (by kernel_rfl) (fun _ _ _ h => h) (yieldsIf_load_mid (by rfl) _ _ rfl _ _ rfl (posC z) _ (fun w h => h.2.range) (Tryd.underlying28) rfl (HINF.out)) (by assumption) ?_
  try simp only [Act.put, List.getElem_toArray, List.getElem_cons_zero, List.getElem_cons_succ, List.setIfInBounds_toArray, List.set_cons_zero, List.set_cons_succ]
  refine wpAnyH_ready (rs := [1]) (by kernel_rfl) (by simp) ?_
  refine AllReadyH.cons rfl (fun K hK => ?_) AllReadyH.nil
  rw [if_pos (by rfl)]
  go_simp
  go_at_call 22
  refine (CH.out _).mono ?_
  rintro e wn ⟨rfl, hb⟩
  refine hK.out _ _ (⟨bthen hHeld.1 hb, hHeld.2.grow hb⟩) (fun hHeld => ?_)
  clear hK K
  try simp only [Act.put, List.getElem_toArray, List.getElem_cons_zero, List.getElem_cons_succ, List.setIfInBounds_toArray, List.set_cons_zero, List.set_cons_succ]
  refine wpAnyH_ready (rs := [3]) (by kernel_rfl) (by simp) ?_
  refine AllReadyH.cons rfl (fun K hK => ?_) AllReadyH.nil
  rw [if_pos (by rfl)]
  go_simp
  go_at_call 23
  refine (RC.out _).mono ?_
  rintro e wn ⟨rfl, hb⟩
  refine hK.out _ _ (⟨bthen hHeld.1 hb, hHeld.2.grow hb⟩) (fun hHeld => ?_)
  clear hK K
  try simp only [Act.put, List.getElem_toArray, List.getElem_cons_zero, List.getElem_cons_succ, List.setIfInBounds_toArray, List.set_cons_zero, List.set_cons_succ]
  refine wpAnyH_take (i := 4) (v := ?v1) rfl (by kernel_rfl) (by kernel_rfl) (by kernel_rfl) (fun _ _ _ h => h) (Or.inl ⟨by rfl, ?y1⟩) (by assumption) ?r1
  case y1 => (intro w hSw; (go_simp <;> first | with_reducible rfl | (rw [if_pos (by omega)] <;> with_reducible rfl)))
  try simp only [Act.put, List.getElem_toArray, List.getElem_cons_zero, List.getElem_cons_succ, List.setIfInBounds_toArray, List.set_cons_zero, List.set_cons_succ]
  refine wpAnyH_take (i := 5) (v := ?v2) rfl (by kernel_rfl) (by kernel_rfl) (by kernel_rfl) (fun _ _ _ h => h) (Or.inl ⟨by rfl, ?y2⟩) (by assumption) ?r2
  case y2 => (intro w hSw; (go_simp <;> first | with_reducible rfl | (rw [if_pos (by omega)] <;> with_reducible rfl)))
  try simp only [Act.put, List.getElem_toArray, List.getElem_cons_zero, List.getElem_cons_succ, List.setIfInBounds_toArray, List.set_cons_zero, List.set_cons_succ]
  refine wpAnyH_done (by kernel_rfl) ?_ _
  go_wp2
  go_ret
  exact ⟨rfl, bthen HB.out hHeld.1⟩
end Go.Proofs.YtmnkbckjhkegaaaDoor.boardChecks
