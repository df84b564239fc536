/-
  Plain facts for the step statements: when a square is in a set; zones; ways there and back; what kings and others step to.
-/
import Derived.Test.YtnmekghjkajhcaaDoorZone
namespace Go.Proofs.YtnmekghjkajhcaaDoor
open Go.RowKit
set_option linter.unusedVariables false
set_option linter.unusedSimpArgs false

theorem has_test (n : Nat) (q : Int) : (!decide (n &&& oneN q = 0)) = (decide (0 ≤ q ∧ q < 81) && n.testBit q.toNat) := by
  unfold oneN
  by_cases h : 0 ≤ q ∧ q < 81
  · rw [if_pos h, decide_eq_true h, Bool.true_and]
    cases hb : n.testBit q.toNat with
    | true =>
      have : n &&& 2 ^ q.toNat ≠ 0 := by
        intro e
        have e2 : (n &&& 2 ^ q.toNat).testBit q.toNat = true := by rw [Nat.testBit_and, hb, Nat.testBit_two_pow_self]; rfl
        rw [e, Nat.zero_testBit] at e2
        cases e2
      rw [decide_eq_false this]
      rfl
    | false =>
      have : n &&& 2 ^ q.toNat = 0 := by
        apply Nat.eq_of_testBit_eq
        intro i
        rw [Nat.testBit_and, Nat.testBit_two_pow, Nat.zero_testBit]
        by_cases e : q.toNat = i
        · rw [← e, hb]
          rfl
        · simp [e]
      rw [decide_eq_true this]
      rfl
  · rw [if_neg h]
    simp [h]
theorem has_nat (n i : Nat) (hi : i < 81) : (!decide (n &&& oneN (i : Int) = 0)) = n.testBit i := by
  rw [has_test]
  simp
  omega
theorem zone_has (s q : Int) (hs : s = 0 ∨ s = 1) : (!decide (ofN (zoneL s 81) &&& oneN q = 0)) = decide (0 ≤ farF s q ∧ farF s q ≤ 2) := by
  rw [has_test, ofN_test]
  unfold zoneL
  by_cases h : 0 ≤ q ∧ q < 81
  · obtain ⟨k, rfl⟩ : ∃ k : Nat, q = k := ⟨q.toNat, by omega⟩
    rw [Bool.eq_iff_iff]
    simp only [h, and_self, decide_true, Bool.true_and, Int.toNat_natCast, decide_eq_true_eq, List.mem_map, List.mem_filter, List.mem_range]
    constructor
    · rintro ⟨⟨a, ⟨-, ha⟩, e⟩, -⟩
      have : a = k := by omega
      rw [← this]
      exact ha
    · exact fun h2 => ⟨⟨k, ⟨by omega, h2⟩, rfl⟩, by omega⟩
  · have e : farF s q = -1 := by unfold farF; rw [if_neg h]
    rw [e]
    simp [h]
theorem zone_none (s : Int) (hs : ¬ (s = 0 ∨ s = 1)) : ofN (zoneL s 81) = 0 := by
  have : zoneL s 81 = [] := by
    unfold zoneL
    rw [List.map_eq_nil_iff, List.filter_eq_nil_iff]
    intro a ha
    have e : farF s a = -1 := by
      unfold farF
      rw [if_neg (show ¬ s = 0 by omega), if_neg (show ¬ s = 1 by omega)]
      split <;> rfl
    rw [e]
    decide
  rw [this]
  rfl
theorem zone_count (s : Int) (hs : s = 0 ∨ s = 1) : pop 81 (ofN (zoneL s 81)) = 27 := by
  rcases hs with rfl | rfl
  · decide +kernel
  · decide +kernel
end Go.Proofs.YtnmekghjkajhcaaDoor
