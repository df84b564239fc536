/-
  The reference's Kind and Side of a piece: what they return for every number of a piece.
-/
import Derived.Test.YtnmekghjkajhcaaDoorLeaf
import Derived.Lib.Hide
namespace Go.Proofs.YtnmekghjkajhcaaDoor
open Go.RowKit
set_option linter.unusedVariables false

theorem kindF_ref (n : Int) (h0 : 1 ≤ n) (h1 : n ≤ 31) (h13 : n ≠ 13) (h16 : n ≠ 16) (h29 : n ≠ 29) : kindF n = n % 16 ∧ sideF n = n / 16 := by
  have c : cutF n = if 16 ≤ n then n - 16 else n := rfl
  have r := rawF_cases (cutF n)
  unfold kindF sideF
  by_cases h : 16 ≤ n
  · rw [if_pos h] at c
    rw [if_neg (by omega), if_neg (by omega), if_pos h]
    omega
  · rw [if_neg h] at c
    rw [if_neg (by omega), if_neg (by omega), if_neg h]
    omega
theorem kindF_not (n : Int) (h : n < 1 ∨ 31 < n ∨ n = 13 ∨ n = 16 ∨ n = 29) : kindF n = 0 ∧ sideF n = -1 := by
  have c : cutF n = if 16 ≤ n then n - 16 else n := rfl
  have r := rawF_cases (cutF n)
  unfold kindF sideF
  have z : rawF (cutF n) = 0 := by
    split at c <;> omega
  rw [if_pos z, if_pos z]
  exact ⟨rfl, rfl⟩

end Go.Proofs.YtnmekghjkajhcaaDoor
