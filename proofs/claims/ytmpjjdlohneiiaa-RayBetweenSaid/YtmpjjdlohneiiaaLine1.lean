/-
  The reference's answers on lines: sign, Line, Between, Free.
-/
import Derived.Test.YtmpjjdlohneiiaaLine
import Derived.Test.YtmpjjdlohneiiaaLists
import Derived.Test.YtmpjjdlohneiiaaRef1
import Derived.Test.YtmpjjdlohneiiaaArr
namespace Go.Proofs.Ytmpjjdlohneiiaa
open Go.RowKit
set_option linter.unusedVariables false
set_option linter.unusedSimpArgs false

theorem refSign_any (n : Int) (w : World) :
    Calls Try.prog 46 #[.int .i64 n] w fun e w' => e = .returned (.int .i64 (sgnF n)) ∧ w = w' := by
  unfold sgnF
  rcases (show n < 0 ∨ (¬ n < 0 ∧ 0 < n) ∨ (¬ n < 0 ∧ ¬ 0 < n) by omega) with h | ⟨h, h2⟩ | ⟨h, h2⟩
  · rw [if_pos h]
    go_enter Try.func46, Try.ntmps46
    go_wp2
    go_ret
    exact ⟨rfl, rfl⟩
  · rw [if_neg h, if_pos h2]
    go_enter Try.func46, Try.ntmps46
    go_wp2
    go_ret
    exact ⟨rfl, rfl⟩
  · rw [if_neg h, if_neg h2]
    go_enter Try.func46, Try.ntmps46
    go_wp2
    go_ret
    exact ⟨rfl, rfl⟩

set_option maxHeartbeats 1000000 in
theorem refLine_any (a b : Int) (w : World) :
    Calls Try.prog 41 #[.int .i64 a, .int .i64 b] w fun e w' => e = .returned (.int .i64 (lineF a b)) ∧ w = w' := by
  unfold lineF
  by_cases h : a < 0 ∨ 80 < a ∨ b < 0 ∨ 80 < b ∨ a = b
  · rw [if_pos h]
    rcases (show a < 0 ∨ (0 ≤ a ∧ 80 < a) ∨ (0 ≤ a ∧ a ≤ 80 ∧ b < 0) ∨ (0 ≤ a ∧ a ≤ 80 ∧ 0 ≤ b ∧ 80 < b) ∨ (0 ≤ a ∧ a ≤ 80 ∧ 0 ≤ b ∧ b ≤ 80 ∧ a = b) by omega) with c | ⟨c, d⟩ | ⟨c, d, e⟩ | ⟨c, d, e, f⟩ | ⟨c, d, e, f, rfl⟩
    all_goals
      clear h
      go_enter Try.func41, Try.ntmps41
      go_wp2
      go_ret
      exact ⟨rfl, rfl⟩
  · rw [if_neg h]
    obtain ⟨a0, a1, b0, b1, ne⟩ : 0 ≤ a ∧ a ≤ 80 ∧ 0 ≤ b ∧ b ≤ 80 ∧ a ≠ b := by omega
    have bne : (a == b) = false := by simpa using ne
    have hb : ∀ x y : Int, x = y → (x == y) = true := fun x y h => by simpa using h
    have hn : ∀ x y : Int, x ≠ y → (x == y) = false := fun x y h => by simpa using h
    have HB := Lib.hid hb
    have HN := Lib.hid hn
    clear hb hn
    rcases (show b / 9 - a / 9 = 0 ∨ (b / 9 - a / 9 ≠ 0 ∧ b % 9 - a % 9 = 0) ∨ (b / 9 - a / 9 ≠ 0 ∧ b % 9 - a % 9 ≠ 0 ∧ b / 9 - a / 9 = b % 9 - a % 9) ∨ (b / 9 - a / 9 ≠ 0 ∧ b % 9 - a % 9 ≠ 0 ∧ b / 9 - a / 9 ≠ b % 9 - a % 9 ∧ b / 9 - a / 9 = -(b % 9 - a % 9)) ∨ (b / 9 - a / 9 ≠ 0 ∧ b % 9 - a % 9 ≠ 0 ∧ b / 9 - a / 9 ≠ b % 9 - a % 9 ∧ b / 9 - a / 9 ≠ -(b % 9 - a % 9)) by omega) with c | ⟨c, d⟩ | ⟨c, d, e⟩ | ⟨c, d, e, f⟩ | ⟨c, d, e, f⟩
    · rw [if_pos (.inl c)]
      have t1 := HB.out _ _ c
      clear c h ne
      go_enter Try.func41, Try.ntmps41
      go_wp2
      go_ret
      exact ⟨rfl, rfl⟩
    · rw [if_pos (.inr d)]
      have t1 := HN.out _ _ c
      have t2 := HB.out _ _ d
      clear c d h ne
      go_enter Try.func41, Try.ntmps41
      go_wp2
      go_ret
      exact ⟨rfl, rfl⟩
    · rw [if_neg (by omega), if_pos (.inl e)]
      have t1 := HN.out _ _ c
      have t2 := HN.out _ _ d
      have t3 := HB.out _ _ e
      clear c d e h ne
      go_enter Try.func41, Try.ntmps41
      go_wp2
      go_ret
      exact ⟨rfl, rfl⟩
    · rw [if_neg (by omega), if_pos (.inr f)]
      have t1 := HN.out _ _ c
      have t2 := HN.out _ _ d
      have t3 := HN.out _ _ e
      have t4 := HB.out _ _ f
      have t5 : (b / 9 - a / 9 == a % 9 - b % 9) = true := HB.out _ _ (by omega)
      clear c d e f h ne
      go_enter Try.func41, Try.ntmps41
      go_wp2
      go_ret
      exact ⟨rfl, rfl⟩
    · rw [if_neg (by omega), if_neg (by omega)]
      have t1 := HN.out _ _ c
      have t2 := HN.out _ _ d
      have t3 := HN.out _ _ e
      have t4 := HN.out _ _ f
      have t5 : (b / 9 - a / 9 == a % 9 - b % 9) = false := HN.out _ _ (by omega)
      clear c d e f h ne
      go_enter Try.func41, Try.ntmps41
      go_wp2
      go_ret
      exact ⟨rfl, rfl⟩

theorem betweenP_step (a b : Int) (k : Nat) : betweenP a b (k + 1) = betweenP a b k ++ [a + (k + 1) * awayF a b] := by
  unfold betweenP
  rw [List.range_succ, List.map_append]
  simp
theorem betweenP_len (a b : Int) (k : Nat) : (betweenP a b k).length = k := by simp [betweenP]
/-- How far two squares on a line are, and that the way's end is the other one. -/
theorem line_dist (a b : Int) (h : lineF a b ≠ 0) : (0 ≤ a ∧ a ≤ 80 ∧ 0 ≤ b ∧ b ≤ 80) ∧ 1 ≤ distF a b ∧ distF a b ≤ 8 ∧ -10 ≤ awayF a b ∧ awayF a b ≤ 10 ∧ b = a + (distF a b : Int) * awayF a b ∧ awayF a b ≠ 0 := by
  have hr : 0 ≤ a ∧ a ≤ 80 ∧ 0 ≤ b ∧ b ≤ 80 ∧ a ≠ b := by
    unfold lineF at h
    by_cases hc : a < 0 ∨ 80 < a ∨ b < 0 ∨ 80 < b ∨ a = b
    · rw [if_pos hc] at h
      exact absurd rfl h
    · omega
  have hl : b / 9 - a / 9 = 0 ∨ b % 9 - a % 9 = 0 ∨ b / 9 - a / 9 = b % 9 - a % 9 ∨ b / 9 - a / 9 = -(b % 9 - a % 9) := by
    unfold lineF at h
    rw [if_neg (by omega)] at h
    by_cases c1 : b / 9 - a / 9 = 0 ∨ b % 9 - a % 9 = 0
    · omega
    · rw [if_neg c1] at h
      by_cases c2 : b / 9 - a / 9 = b % 9 - a % 9 ∨ b / 9 - a / 9 = -(b % 9 - a % 9)
      · omega
      · rw [if_neg c2] at h
        exact absurd rfl h
  have key : ∀ (F R : Int), -8 ≤ F → F ≤ 8 → -8 ≤ R → R ≤ 8 → ¬ (F = 0 ∧ R = 0) → (F = 0 ∨ R = 0 ∨ F = R ∨ F = -R) → 1 ≤ max F.natAbs R.natAbs ∧ max F.natAbs R.natAbs ≤ 8 ∧ -10 ≤ 9 * sgnF F + sgnF R ∧ 9 * sgnF F + sgnF R ≤ 10 ∧ 9 * F + R = ((max F.natAbs R.natAbs : Nat) : Int) * (9 * sgnF F + sgnF R) ∧ 9 * sgnF F + sgnF R ≠ 0 := by
    intro F R f0 f1 r0 r1 hne hor
    unfold sgnF
    repeat' split
    all_goals omega
  have := key (b / 9 - a / 9) (b % 9 - a % 9) (by omega) (by omega) (by omega) (by omega) (by omega) hl
  refine ⟨⟨hr.1, hr.2.1, hr.2.2.1, hr.2.2.2.1⟩, this.1, this.2.1, this.2.2.1, this.2.2.2.1, ?_, this.2.2.2.2.2⟩
  have e := this.2.2.2.2.1
  show b = a + ((max (b / 9 - a / 9).natAbs (b % 9 - a % 9).natAbs : Nat) : Int) * (9 * sgnF (b / 9 - a / 9) + sgnF (b % 9 - a % 9))
  rw [← e]
  omega
end Go.Proofs.Ytmpjjdlohneiiaa
