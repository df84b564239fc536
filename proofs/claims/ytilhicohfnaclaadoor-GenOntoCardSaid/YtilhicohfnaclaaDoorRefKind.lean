/-
  The reference's Kind and Side of a piece: what they return for every number of a piece.
-/
import Derived.Test.YtilhicohfnaclaaDoorLeaf
import Derived.Lib.Hide
namespace Go.Proofs.YtilhicohfnaclaaDoor
open Go.RowKit
set_option linter.unusedVariables false

theorem kindF_ref (n : Int) (h0 : 1 ≤ n) (h1 : n ≤ 31) (h13 : n ≠ 13) (h16 : n ≠ 16) (h29 : n ≠ 29) : kindF n = n % 16 ∧ sideF n = n / 16 := by
  have c : cutF n = if 16 ≤ n then n - 16 else n := rfl
  have r := rawF_cases (cutF n)
  unfold kindF sideF
  by_cases h : 16 ≤ n
  · rw [if_pos h] at c
    rw [if_neg (by omega), if_neg (by omega), if_pos h]
    omega
  · rw [if_neg h] at c
    rw [if_neg (by omega), if_neg (by omega), if_neg h]
    omega
theorem kindF_not (n : Int) (h : n < 1 ∨ 31 < n ∨ n = 13 ∨ n = 16 ∨ n = 29) : kindF n = 0 ∧ sideF n = -1 := by
  have c : cutF n = if 16 ≤ n then n - 16 else n := rfl
  have r := rawF_cases (cutF n)
  unfold kindF sideF
  have z : rawF (cutF n) = 0 := by
    split at c <;> omega
  rw [if_pos z, if_pos z]
  exact ⟨rfl, rfl⟩

theorem refKind_any (n : Int) (w : World) (h0 : -128 ≤ n) (h1 : n ≤ 127) : Calls Tryd.prog 59 #[.int .i64 n] w fun e w' => e = .returned (.int .i64 (kindF n)) ∧ w = w' := by
  by_cases h : n < 1 ∨ 31 < n ∨ n = 13 ∨ n = 16 ∨ n = 29
  · rw [(kindF_not n h).1]
    rcases h with h | h | rfl | rfl | rfl
    · go_enter Tryd.func59, Tryd.ntmps59
      go_wp2
      go_ret
      exact ⟨rfl, rfl⟩
    · go_enter Tryd.func59, Tryd.ntmps59
      go_wp2
      go_ret
      exact ⟨rfl, rfl⟩
    all_goals
      go_enter Tryd.func59, Tryd.ntmps59
      go_wp2
      go_ret
      exact ⟨rfl, rfl⟩
  · have a : 1 ≤ n := by omega
    have b : n ≤ 31 := by omega
    rw [(kindF_ref n a b (by omega) (by omega) (by omega)).1]
    have e13 : (n == 13) = false := by simp; omega
    have e16 : (n == 16) = false := by simp; omega
    have e29 : (n == 29) = false := by simp; omega
    clear h h0 h1
    go_enter Tryd.func59, Tryd.ntmps59
    go_wp2
    go_ret
    exact ⟨rfl, rfl⟩

theorem refSide_any (n : Int) (w : World) (h0 : -128 ≤ n) (h1 : n ≤ 127) : Calls Tryd.prog 35 #[.int .i64 n] w fun e w' => e = .returned (.int .i64 (sideF n)) ∧ w = w' := by
  have K := Lib.hid (fun W => refKind_any n W h0 h1)
  by_cases h : n < 1 ∨ 31 < n ∨ n = 13 ∨ n = 16 ∨ n = 29
  · rw [(kindF_not n h).2]
    rw [(kindF_not n h).1] at K
    clear h
    go_enter Tryd.func35, Tryd.ntmps35
    go_wp2_with (go_at_call 59; refine (K.out _).mono ?_; rintro e w' ⟨rfl, rfl⟩)
    go_ret
    exact ⟨rfl, rfl⟩
  · have a : 1 ≤ n := by omega
    have b : n ≤ 31 := by omega
    have e := kindF_ref n a b (by omega) (by omega) (by omega)
    rw [e.2]
    have hz : (kindF n == 0) = false := by rw [e.1]; simp; omega
    clear h h0 h1 e
    generalize kindF n = k at K hz
    go_enter Tryd.func35, Tryd.ntmps35
    go_wp2_with (go_at_call 59; refine (K.out _).mono ?_; rintro e w' ⟨rfl, rfl⟩)
    go_ret
    exact ⟨rfl, rfl⟩

end Go.Proofs.YtilhicohfnaclaaDoor
