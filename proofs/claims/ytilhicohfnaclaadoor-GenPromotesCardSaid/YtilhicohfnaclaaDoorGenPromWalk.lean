/-
  The walk of the law GenPromotes.
-/
import Derived.Test.YtilhicohfnaclaaDoorGen5
namespace Go.Proofs.YtilhicohfnaclaaDoor.genPromotes
open Go.RowKit
set_option maxRecDepth 100000
set_option linter.unusedVariables false
set_option linter.unusedSimpArgs false

set_option maxHeartbeats 1000000 in
theorem walk (x f t : Int) (g0 : (Lit.int .i8 x).wf = true) (g1 : (Lit.int .i64 f).wf = true) (g2 : (Lit.int .i64 t).wf = true) (w : World) (hT : Tab w) (hH : Home w) :
    Calls Tryd.prog 11 #[.int .i8 x, .int .i64 f, .int .i64 t] w fun e w' => e = .returned (.bool true) ∧ Below w.heap.size w w' := by
  have hx := bounds_i8 g0
  have LI := Lib.hid (lists_true w hT hH)
  have PR := Lib.hid (fun W => promotes_any x f t hx W)
  have MA := Lib.hid (fun W => refMay_any x f t hx W)
  have MU := Lib.hid (fun W => refMust_any x t hx W)
  have hw1 : wrap64 x = x := by unfold wrap64; omega
  have hw2 : IntKind.i64.wrap x = x := by rw [wrap_i64_eq]; exact hw1
  clear g0 g1 g2 hx hT hH
  generalize mayB x f t = a at *
  generalize mustB x t = b at *
  go_enter Tryd.func11, Tryd.ntmps11
  go_wp2_with (first
    | (go_at_call 44; refine LI.out.mono ?_; rintro e w1 ⟨rfl, hb1⟩)
    | (go_at_call 51; refine (PR.out _).mono ?_; rintro e w2 ⟨rfl, hb2⟩)
    | (go_at_call 52; refine (MA.out _).mono ?_; rintro e w3 ⟨rfl, rfl⟩)
    | (go_at_call 53; refine (MU.out _).mono ?_; rintro e w4 ⟨rfl, rfl⟩))
  go_ret
  exact ⟨by simp, bthen hb1 hb2⟩
end Go.Proofs.YtilhicohfnaclaaDoor.genPromotes
