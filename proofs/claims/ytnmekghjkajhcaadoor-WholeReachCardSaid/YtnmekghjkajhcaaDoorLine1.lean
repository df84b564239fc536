/-
  The reference's answers on lines: sign, Line, Between, Free.
-/
import Derived.Test.YtnmekghjkajhcaaDoorLine
import Derived.Test.YtnmekghjkajhcaaDoorLists
import Derived.Test.YtnmekghjkajhcaaDoorRef1
import Derived.Test.YtnmekghjkajhcaaDoorArr
namespace Go.Proofs.YtnmekghjkajhcaaDoor
open Go.RowKit
set_option linter.unusedVariables false
set_option linter.unusedSimpArgs false

theorem betweenP_step (a b : Int) (k : Nat) : betweenP a b (k + 1) = betweenP a b k ++ [a + (k + 1) * awayF a b] := by
  unfold betweenP
  rw [List.range_succ, List.map_append]
  simp
theorem betweenP_len (a b : Int) (k : Nat) : (betweenP a b k).length = k := by simp [betweenP]
/-- How far two squares on a line are, and that the way's end is the other one. -/
theorem line_dist (a b : Int) (h : lineF a b ≠ 0) : (0 ≤ a ∧ a ≤ 80 ∧ 0 ≤ b ∧ b ≤ 80) ∧ 1 ≤ distF a b ∧ distF a b ≤ 8 ∧ -10 ≤ awayF a b ∧ awayF a b ≤ 10 ∧ b = a + (distF a b : Int) * awayF a b ∧ awayF a b ≠ 0 := by
  have hr : 0 ≤ a ∧ a ≤ 80 ∧ 0 ≤ b ∧ b ≤ 80 ∧ a ≠ b := by
    unfold lineF at h
    by_cases hc : a < 0 ∨ 80 < a ∨ b < 0 ∨ 80 < b ∨ a = b
    · rw [if_pos hc] at h
      exact absurd rfl h
    · omega
  have hl : b / 9 - a / 9 = 0 ∨ b % 9 - a % 9 = 0 ∨ b / 9 - a / 9 = b % 9 - a % 9 ∨ b / 9 - a / 9 = -(b % 9 - a % 9) := by
    unfold lineF at h
    rw [if_neg (by omega)] at h
    by_cases c1 : b / 9 - a / 9 = 0 ∨ b % 9 - a % 9 = 0
    · omega
    · rw [if_neg c1] at h
      by_cases c2 : b / 9 - a / 9 = b % 9 - a % 9 ∨ b / 9 - a / 9 = -(b % 9 - a % 9)
      · omega
      · rw [if_neg c2] at h
        exact absurd rfl h
  have key : ∀ (F R : Int), -8 ≤ F → F ≤ 8 → -8 ≤ R → R ≤ 8 → ¬ (F = 0 ∧ R = 0) → (F = 0 ∨ R = 0 ∨ F = R ∨ F = -R) → 1 ≤ max F.natAbs R.natAbs ∧ max F.natAbs R.natAbs ≤ 8 ∧ -10 ≤ 9 * sgnF F + sgnF R ∧ 9 * sgnF F + sgnF R ≤ 10 ∧ 9 * F + R = ((max F.natAbs R.natAbs : Nat) : Int) * (9 * sgnF F + sgnF R) ∧ 9 * sgnF F + sgnF R ≠ 0 := by
    intro F R f0 f1 r0 r1 hne hor
    unfold sgnF
    repeat' split
    all_goals omega
  have := key (b / 9 - a / 9) (b % 9 - a % 9) (by omega) (by omega) (by omega) (by omega) (by omega) hl
  refine ⟨⟨hr.1, hr.2.1, hr.2.2.1, hr.2.2.2.1⟩, this.1, this.2.1, this.2.2.1, this.2.2.2.1, ?_, this.2.2.2.2.2⟩
  have e := this.2.2.2.2.1
  show b = a + ((max (b / 9 - a / 9).natAbs (b % 9 - a % 9).natAbs : Nat) : Int) * (9 * sgnF (b / 9 - a / 9) + sgnF (b % 9 - a % 9))
  rw [← e]
  omega
end Go.Proofs.YtnmekghjkajhcaaDoor
