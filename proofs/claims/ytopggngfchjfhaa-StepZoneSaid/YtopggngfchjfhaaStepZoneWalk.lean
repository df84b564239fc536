/-
  The walk of the law StepZone: for every two numbers it returns true.
-/
import Derived.Test.YtopggngfchjfhaaStepMath
import Derived.Test.YtopggngfchjfhaaStepHead
import Derived.Test.YtopggngfchjfhaaStepRef
namespace Go.Proofs.Ytopggngfchjfhaa.stepZone
open Go.RowKit
set_option linter.unusedVariables false

theorem walk (s q : Int) (g0 : (Lit.int .i64 s).wf = true) (g1 : (Lit.int .i64 q).wf = true) (w : World) :
    Calls Try.prog 5 #[.int .i64 s, .int .i64 q] w fun e w' => e = .returned (.bool true) ∧ Below w.heap.size w w' := by
  have H := Lib.hid (steps_true w)
  have F := Lib.hid (fun W => far_any s q W)
  have R := Lib.hid (fun W => refFar_any s q W)
  have Z := Lib.hid (fun W => zone_any s W)
  by_cases hs : s = 0 ∨ s = 1
  · have C := Lib.hid (fun W => count_any (ofN (zoneL s 81)) (ofN_sq _) W)
    have A := Lib.hid (fun W => has_any (ofN (zoneL s 81)) q (ofN_sq _) W)
    rw [zone_has s q hs] at A
    rw [zone_count s hs] at C
    generalize hf : farF s q = f at F R A
    generalize loW (ofN (zoneL s 81)) = x at Z C A
    generalize hiW (ofN (zoneL s 81)) = y at Z C A
    clear hf
    have hf : f < 0 ∨ (0 ≤ f ∧ f ≤ 2) ∨ (0 ≤ f ∧ 2 < f) := by omega
    clear g0 g1
    rcases hs with rfl | rfl <;> rcases hf with h0 | ⟨h0, h1⟩ | ⟨h0, h1⟩
    all_goals
      first
        | rw [show decide (0 ≤ f ∧ f ≤ 2) = true by simp; omega] at A
        | rw [show decide (0 ≤ f ∧ f ≤ 2) = false by simp; omega] at A
      go_enter Try.func5, Try.ntmps5
      go_wp2_with (first
        | (go_at_call 8; refine H.out.mono ?_; rintro e w1 ⟨rfl, hb1⟩)
        | (go_at_call 18; refine (F.out _).mono ?_; rintro e w2 ⟨rfl, hb2⟩)
        | (go_at_call 19; refine (R.out _).mono ?_; rintro e w3 ⟨rfl, rfl⟩)
        | (go_at_call 20; refine (Z.out _).mono ?_; rintro e w4 ⟨rfl, hb4⟩)
        | (go_at_call 17; refine (C.out _).mono ?_; rintro e w5 ⟨rfl, hb5⟩; obtain ⟨hc5, hf5⟩ := bcells hb5; have hz5 : w4.heap.size < w5.heap.size := by (have := hb5.size; simp at this; omega))
        | (go_at_call 10; refine (A.out _).mono ?_; rintro e w6 ⟨rfl, hb6⟩))
      go_ret
      refine ⟨?_, bthen (bthen (bthen hb1 hb2) (ball hb4 _)) (bthen hb5 hb6)⟩
      first | rfl | (simp; omega)
  · have E := Lib.hid (fun W => empty_any (ofN (zoneL s 81)) W)
    rw [zone_none s hs] at Z E
    rw [lo_zero, hi_zero] at Z E
    generalize farF s q = f at F R
    have b0 : (s != 0) = true := by simp; omega
    have b1 : (s != 1) = true := by simp; omega
    clear hs
    go_enter Try.func5, Try.ntmps5
    go_wp2_with (first
      | (go_at_call 8; refine H.out.mono ?_; rintro e w1 ⟨rfl, hb1⟩)
      | (go_at_call 18; refine (F.out _).mono ?_; rintro e w2 ⟨rfl, hb2⟩)
      | (go_at_call 19; refine (R.out _).mono ?_; rintro e w3 ⟨rfl, rfl⟩)
      | (go_at_call 20; refine (Z.out _).mono ?_; rintro e w4 ⟨rfl, hb4⟩)
      | (go_at_call 21; refine (E.out _).mono ?_; rintro e w5 ⟨rfl, hb5⟩))
    go_ret
    exact ⟨rfl, bthen (bthen (bthen hb1 hb2) (ball hb4 _)) hb5⟩
end Go.Proofs.Ytopggngfchjfhaa.stepZone
