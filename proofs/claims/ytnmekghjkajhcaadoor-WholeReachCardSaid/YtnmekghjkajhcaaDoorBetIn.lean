/-
  What ray.Between gives is the squares between.
-/
import Derived.Test.YtnmekghjkajhcaaDoorBetween
namespace Go.Proofs.YtnmekghjkajhcaaDoor
open Go.RowKit
set_option linter.unusedVariables false
set_option linter.unusedSimpArgs false

theorem bet_in (a b : Int) (ha : 0 ≤ a ∧ a ≤ 80) (hb : 0 ≤ b ∧ b ≤ 80) : betN a b = ofN (betweenL a b) ∧ betN b a = ofN (betweenL a b) ∧ (pop 81 (ofN (betweenL a b)) = (betweenL a b).length) := by
  have h1 := between_ok a.toNat (by omega) b.toNat (by omega)
  have h2 := between_ok b.toNat (by omega) a.toNat (by omega)
  rw [show ((a.toNat : Nat) : Int) = a by omega, show ((b.toNat : Nat) : Int) = b by omega] at h1 h2
  refine ⟨?_, ?_, ?_⟩
  · unfold betN
    rw [if_pos hb, dirG_in a b ha hb]
    exact h1.1
  · unfold betN
    rw [if_pos ha, dirG_in b a hb ha]
    exact h2.1.trans h1.2.1
  · rcases h1.2.2 with h | h
    · rw [h]; rfl
    · exact h
theorem bet_out (a b : Int) (h : ¬ ((0 ≤ a ∧ a ≤ 80) ∧ (0 ≤ b ∧ b ≤ 80))) : betN a b = ofN (betweenL a b) ∧ (pop 81 (ofN (betweenL a b)) = (betweenL a b).length) := by
  have hl : lineF a b = 0 := by
    unfold lineF
    exact if_pos (by omega)
  have hn : betweenL a b = [] := by
    unfold betweenL
    exact if_pos hl
  rw [hn]
  refine ⟨?_, rfl⟩
  unfold betN
  by_cases hb : 0 ≤ b ∧ b ≤ 80
  · rw [if_pos hb, wayN_far a _ _ (by omega)]
    unfold minusN
    simp [ofN]
  · rw [if_neg hb]
    rfl
theorem bet_both (a b : Int) : betN a b = ofN (betweenL a b) ∧ (pop 81 (ofN (betweenL a b)) = (betweenL a b).length) := by
  by_cases h : (0 ≤ a ∧ a ≤ 80) ∧ (0 ≤ b ∧ b ≤ 80)
  · have := bet_in a b h.1 h.2
    exact ⟨this.1, this.2.2⟩
  · exact bet_out a b h

end Go.Proofs.YtnmekghjkajhcaaDoor
