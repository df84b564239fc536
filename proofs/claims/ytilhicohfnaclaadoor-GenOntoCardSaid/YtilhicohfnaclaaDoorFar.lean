/-
  The step package's isSquare and Far.
-/
import Derived.Test.YtilhicohfnaclaaDoorLeaf
import Derived.Test.YtilhicohfnaclaaDoorSetAll
namespace Go.Proofs.YtilhicohfnaclaaDoor
open Go.RowKit
set_option linter.unusedVariables false

theorem wrap_i64_eq (n : Int) : IntKind.i64.wrap n = wrap64 n := by rw [IntKind.wrap_i64]; unfold wrap64; rfl
theorem isSquare_any (q : Int) (w : World) :
    Calls Tryd.prog 128 #[.int .i64 q] w fun e w' => e = .returned (.bool (decide (0 ≤ q ∧ q < 81))) ∧ w = w' := by
  by_cases a : 0 ≤ q
  · by_cases b : q < 81
    · rw [show decide (0 ≤ q ∧ q < 81) = true by simp [a, b]]
      go_enter Tryd.func128, Tryd.ntmps128
      go_wp2
      go_ret
      exact ⟨rfl, rfl⟩
    · rw [show decide (0 ≤ q ∧ q < 81) = false by simp [a, b]]
      go_enter Tryd.func128, Tryd.ntmps128
      go_wp2
      go_ret
      exact ⟨rfl, rfl⟩
  · rw [show decide (0 ≤ q ∧ q < 81) = false by simp [a]]
    go_enter Tryd.func128, Tryd.ntmps128
    go_wp2
    go_ret
    exact ⟨rfl, rfl⟩

def farF (s q : Int) : Int := if 0 ≤ q ∧ q < 81 then (if s = 0 then q % 9 else if s = 1 then 8 - q % 9 else -1) else -1
theorem far_any (s q : Int) (w : World) :
    Calls Tryd.prog 117 #[.int .i64 s, .int .i64 q] w fun e w' => e = .returned (.int .i64 (farF s q)) ∧ Below w.heap.size w w' := by
  have I := Lib.hid (fun W => isSquare_any q W)
  unfold farF
  by_cases h : 0 ≤ q ∧ q < 81
  · rw [if_pos h]
    rw [show decide (0 ≤ q ∧ q < 81) = true by simp [h]] at I
    have R := Lib.hid (fun W => rank_any q W h.1 (by omega))
    have hw : wrap64 (8 - q % 9) = 8 - q % 9 := by unfold wrap64; omega
    have hw2 : IntKind.i64.wrap (8 - q % 9) = 8 - q % 9 := by rw [wrap_i64_eq]; exact hw
    by_cases s0 : s = 0
    · subst s0
      go_enter Tryd.func117, Tryd.ntmps117
      go_wp2_with (first | (go_at_call 128; refine (I.out _).mono ?_; rintro e w1 ⟨rfl, rfl⟩) | (go_at_call 126; refine (R.out _).mono ?_; rintro e w1 ⟨rfl, rfl⟩))
      go_ret
      exact ⟨rfl, bref _⟩
    · rw [if_neg s0]
      by_cases s1 : s = 1
      · subst s1
        go_enter Tryd.func117, Tryd.ntmps117
        go_wp2_with (first | (go_at_call 128; refine (I.out _).mono ?_; rintro e w1 ⟨rfl, rfl⟩) | (go_at_call 126; refine (R.out _).mono ?_; rintro e w1 ⟨rfl, rfl⟩))
        go_ret
        exact ⟨rfl, bref _⟩
      · rw [if_neg s1]
        go_enter Tryd.func117, Tryd.ntmps117
        go_wp2_with (first | (go_at_call 128; refine (I.out _).mono ?_; rintro e w1 ⟨rfl, rfl⟩) | (go_at_call 126; refine (R.out _).mono ?_; rintro e w1 ⟨rfl, rfl⟩))
        go_ret
        exact ⟨rfl, bref _⟩
  · rw [if_neg h]
    rw [show decide (0 ≤ q ∧ q < 81) = false by simpa using h] at I
    go_enter Tryd.func117, Tryd.ntmps117
    go_wp2_with (first | (go_at_call 128; refine (I.out _).mono ?_; rintro e w1 ⟨rfl, rfl⟩))
    go_ret
    exact ⟨rfl, bref _⟩
end Go.Proofs.YtilhicohfnaclaaDoor
