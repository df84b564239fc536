/-
  The head of the laws of moves: two names are as they should be.
-/
import Derived.Test.YtfemicpfkgecbaaMvGood
namespace Go.Proofs.Ytfemicpfkgecbaa
open Go.RowKit
set_option linter.unusedVariables false
set_option linter.unusedSimpArgs false

theorem name_drop : textS 0 40 1 false = ⟨#[80, 42, 53, 101]⟩ := by decide +kernel
theorem name_go : textS 60 59 0 false = ⟨#[55, 103, 55, 102]⟩ := by decide +kernel
theorem name_sq : sqS 80 = ⟨#[57, 105]⟩ := by decide +kernel
set_option maxHeartbeats 2000000 in
theorem names_mv (w : World) : Calls Try.prog 8 #[] w fun e w' => e = .returned (.bool true) ∧ Below w.heap.size w w' := by
  have P := Lib.hid (fun W => parse_good 0 40 1 false (by decide) W)
  rw [name_drop] at P
  have T := Lib.hid (fun W => text_mv 60 59 0 false W (by omega) (by omega))
  rw [name_go] at T
  have S := Lib.hid (fun W => squareS_any 80 W)
  rw [name_sq] at S
  go_enter Try.func8, Try.ntmps8
  go_wp2_with (first
    | (go_at_call 13; refine (P.out _).mono ?_; rintro e w1 ⟨rfl, hb1⟩; obtain ⟨hc1, hf1⟩ := bcells hb1)
    | (go_at_call 9; refine (T.out _).mono ?_; rintro e w2 ⟨rfl, hb2⟩; obtain ⟨hc2, hf2⟩ := bcells hb2; have z2 := sz1 hb2)
    | (go_at_call 15; refine (S.out _).mono ?_; rintro e w3 ⟨rfl, hb3⟩))
  go_ret
  exact ⟨rfl, bthen (bthen (ball hb1 _) hb2) hb3⟩
end Go.Proofs.Ytfemicpfkgecbaa
