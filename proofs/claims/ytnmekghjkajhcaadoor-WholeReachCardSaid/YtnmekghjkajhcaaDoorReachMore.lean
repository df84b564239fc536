/-
  Plain facts on what pieces reach together (no program is named here): for WholeReach.
-/
import Derived.Test.YtnmekghjkajhcaaDoorRayMore
namespace Go.Proofs.YtnmekghjkajhcaaDoor
open Go.RowKit
set_option linter.unusedVariables false
set_option linter.unusedSimpArgs false

/-- What a side's piece of a kind reaches, told by steps and slides. -/
theorem reach_at (s k : Int) (hs : s = 0 ∨ s = 1) (hk : 1 ≤ k ∧ k ≤ 15) (h13 : k ≠ 13) (q t n : Nat) (hq : q < 81) (ht : t < 81) :
    (rayN (16 * s + k) q n).testBit t = ((!decide ((q : Int) = t) && kindStep k (sizeF ((t : Int) / 9 - (q : Int) / 9)) (aheadF s q t)) || ((if k = 2 then decide (lineF q t = 1) && decide ((q : Int) / 9 = (t : Int) / 9) && decide (0 < aheadF s q t) else if k = 6 ∨ k = 14 then decide (lineF q t = 2) else if k = 7 ∨ k = 15 then decide (lineF q t = 1) else false) && freeF q t n)) := by
  have hkd := kind_at s k hs hk h13
  rw [ray_test _ q t hq ht n]
  unfold reachF refStepF slidesF
  rw [hkd.1, hkd.2]
  by_cases h : (q : Int) = t
  · rw [if_pos (by omega), decide_eq_true h]
    rfl
  · rw [if_neg (by omega), decide_eq_false h]
    rfl
theorem near_free (q t : Nat) (s : Int) (n : Nat) (hf : sizeF ((t : Int) / 9 - (q : Int) / 9) ≤ 1) (hu : sizeF (aheadF s q t) ≤ 1) : betweenL q t = [] := by
  unfold betweenL
  split
  · rfl
  · have : distF q t - 1 = 0 := by
      unfold distF
      unfold sizeF at hf hu
      unfold aheadF at hu
      have h1 : ((t : Int) / 9 - (q : Int) / 9).natAbs ≤ 1 := by split at hf <;> omega
      have h2 : ((t : Int) % 9 - (q : Int) % 9).natAbs ≤ 1 := by
        split at hu
        · split at hu <;> omega
        · split at hu <;> omega
      omega
    rw [this]
    rfl
theorem near_line (q t : Nat) (hq : q < 81) (ht : t < 81) (s : Int) (ne : (q : Int) ≠ t) (hf : sizeF ((t : Int) / 9 - (q : Int) / 9) ≤ 1) (hu : sizeF (aheadF s q t) ≤ 1) :
    (lineF q t = 1 ∧ (sizeF ((t : Int) / 9 - (q : Int) / 9) = 0 ∨ aheadF s q t = 0)) ∨ (lineF q t = 2 ∧ sizeF ((t : Int) / 9 - (q : Int) / 9) = 1 ∧ aheadF s q t ≠ 0) := by
  unfold sizeF at *
  unfold aheadF at *
  unfold lineF
  rw [if_neg (by omega)]
  by_cases hs : s = 1
  · rw [if_pos hs] at *
    repeat' split at hf
    all_goals (repeat' split at hu)
    all_goals (repeat' split)
    all_goals omega
  · rw [if_neg hs] at *
    repeat' split at hf
    all_goals (repeat' split at hu)
    all_goals (repeat' split)
    all_goals omega
theorem free_nil (q t n : Nat) (h : betweenL q t = []) : freeF q t n = true := by
  unfold freeF
  rw [h]
  rfl
theorem eq_of_bits81 {n m : Nat} (hn : Sq n) (hm : Sq m) (h : ∀ i, i < 81 → n.testBit i = m.testBit i) : n = m := by
  apply Nat.eq_of_testBit_eq
  intro i
  by_cases hi : i < 81
  · exact h i hi
  · rw [test_sq hn i (by omega), test_sq hm i (by omega)]
theorem size_nonneg (n : Int) : 0 ≤ sizeF n := by
  unfold sizeF
  split <;> omega
/-- PROMOTED PAWNS, LANCES, KNIGHTS AND SILVERS REACH WHAT A GOLD DOES. -/
theorem reach_gold (s k : Int) (hs : s = 0 ∨ s = 1) (hk : k = 9 ∨ k = 10 ∨ k = 11 ∨ k = 12) (q n : Nat) (hq : q < 81) : rayN (16 * s + k) q n = rayN (16 * s + 5) q n := by
  refine eq_of_bits81 (rayN_sq _ _ _) (rayN_sq _ _ _) fun t ht => ?_
  rw [reach_at s k hs (by omega) (by omega) q t n hq ht, reach_at s 5 hs (by omega) (by omega) q t n hq ht]
  rcases hk with rfl | rfl | rfl | rfl <;> rfl
/-- A PROMOTED BISHOP REACHES WHAT A BISHOP DOES, AND WHAT A KING DOES STRAIGHT. -/
theorem reach_horse (s : Int) (hs : s = 0 ∨ s = 1) (q n : Nat) (hq : q < 81) : rayN (16 * s + 14) q n = rayN (16 * s + 6) q n ||| (rayN (16 * s + 8) q n &&& rayN (16 * s + 7) q n) := by
  refine eq_of_bits81 (rayN_sq _ _ _) ((rayN_sq _ _ _).or (rayN_sq _ _ _).and) fun t ht => ?_
  rw [Nat.testBit_or, Nat.testBit_and, reach_at s 14 hs (by omega) (by omega) q t n hq ht, reach_at s 6 hs (by omega) (by omega) q t n hq ht, reach_at s 7 hs (by omega) (by omega) q t n hq ht, reach_at s 8 hs (by omega) (by omega) q t n hq ht]
  have hl := near_line q t hq ht s
  have hf := near_free q t s n
  have hz := size_nonneg ((t : Int) / 9 - (q : Int) / 9)
  unfold kindStep
  generalize sizeF ((t : Int) / 9 - (q : Int) / 9) = f at *
  generalize hU : aheadF s q t = u at *
  by_cases ne : (q : Int) = t
  · simp [ne]
  · by_cases hn : f ≤ 1 ∧ sizeF u ≤ 1
    · have h1 := hl ne hn.1 hn.2
      have h2 := free_nil q t n (hf hn.1 hn.2)
      rw [h2]
      rcases h1 with ⟨h3, h4⟩ | ⟨h3, h4, h5⟩
      · have h6 : f = 0 ∨ u = 0 := h4
        simp [h3, hn, ne, h6]
      · have h6 : ¬ (f = 0 ∨ u = 0) := by omega
        simp [h3, hn, ne, h6]
    · simp [hn]
/-- A PROMOTED ROOK REACHES WHAT A ROOK DOES, AND WHAT A KING DOES ASLANT. -/
theorem reach_dragon (s : Int) (hs : s = 0 ∨ s = 1) (q n : Nat) (hq : q < 81) : rayN (16 * s + 15) q n = rayN (16 * s + 7) q n ||| (rayN (16 * s + 8) q n &&& rayN (16 * s + 6) q n) := by
  refine eq_of_bits81 (rayN_sq _ _ _) ((rayN_sq _ _ _).or (rayN_sq _ _ _).and) fun t ht => ?_
  rw [Nat.testBit_or, Nat.testBit_and, reach_at s 15 hs (by omega) (by omega) q t n hq ht, reach_at s 6 hs (by omega) (by omega) q t n hq ht, reach_at s 7 hs (by omega) (by omega) q t n hq ht, reach_at s 8 hs (by omega) (by omega) q t n hq ht]
  have hl := near_line q t hq ht s
  have hf := near_free q t s n
  have hz := size_nonneg ((t : Int) / 9 - (q : Int) / 9)
  unfold kindStep
  generalize sizeF ((t : Int) / 9 - (q : Int) / 9) = f at *
  generalize hU : aheadF s q t = u at *
  by_cases ne : (q : Int) = t
  · simp [ne]
  · by_cases hn : f ≤ 1 ∧ sizeF u ≤ 1
    · have h1 := hl ne hn.1 hn.2
      have h2 := free_nil q t n (hf hn.1 hn.2)
      rw [h2]
      rcases h1 with ⟨h3, h4⟩ | ⟨h3, h4, h5⟩
      · have h6 : ¬ (f = 1 ∧ u ≠ 0) := by omega
        simp [h3, hn, ne, h6]
      · simp [h3, hn, ne, h4, h5]
    · simp [hn]
/-- A KING GOES NOWHERE BUT WHERE A PROMOTED BISHOP DOES. -/
theorem reach_king (s : Int) (hs : s = 0 ∨ s = 1) (q n : Nat) (hq : q < 81) : minusN (rayN (16 * s + 8) q n) (rayN (16 * s + 14) q n) = 0 := by
  refine eq_of_bits81 (rayN_sq _ _ _).minus Sq.zero fun t ht => ?_
  rw [test_minus, Nat.zero_testBit, reach_at s 14 hs (by omega) (by omega) q t n hq ht, reach_at s 8 hs (by omega) (by omega) q t n hq ht]
  have hl := near_line q t hq ht s
  have hf := near_free q t s n
  have hz := size_nonneg ((t : Int) / 9 - (q : Int) / 9)
  unfold kindStep
  generalize sizeF ((t : Int) / 9 - (q : Int) / 9) = f at *
  generalize hU : aheadF s q t = u at *
  by_cases ne : (q : Int) = t
  · simp [ne]
  · by_cases hn : f ≤ 1 ∧ sizeF u ≤ 1
    · have h1 := hl ne hn.1 hn.2
      have h2 := free_nil q t n (hf hn.1 hn.2)
      rw [h2]
      rcases h1 with ⟨h3, h4⟩ | ⟨h3, h4, h5⟩
      · have h6 : f = 0 ∨ u = 0 := h4
        simp [h3, hn, ne, h6]
      · have h6 : ¬ (f = 0 ∨ u = 0) := by omega
        simp [h3, hn, ne, h6]
    · simp [hn]
/-- A LANCE GOES NOWHERE BUT WHERE A ROOK DOES. -/
theorem reach_lance (s : Int) (hs : s = 0 ∨ s = 1) (q n : Nat) (hq : q < 81) : minusN (rayN (16 * s + 2) q n) (rayN (16 * s + 7) q n) = 0 := by
  refine eq_of_bits81 (rayN_sq _ _ _).minus Sq.zero fun t ht => ?_
  rw [test_minus, Nat.zero_testBit, reach_at s 2 hs (by omega) (by omega) q t n hq ht, reach_at s 7 hs (by omega) (by omega) q t n hq ht]
  unfold kindStep
  cases freeF q t n <;> by_cases h : lineF q t = 1 <;> simp [h]
/-- A PAWN GOES NOWHERE BUT WHERE A LANCE DOES. -/
theorem reach_pawn (s : Int) (hs : s = 0 ∨ s = 1) (q n : Nat) (hq : q < 81) : minusN (rayN (16 * s + 1) q n) (rayN (16 * s + 2) q n) = 0 := by
  refine eq_of_bits81 (rayN_sq _ _ _).minus Sq.zero fun t ht => ?_
  rw [test_minus, Nat.zero_testBit, reach_at s 1 hs (by omega) (by omega) q t n hq ht, reach_at s 2 hs (by omega) (by omega) q t n hq ht]
  have hl := near_line q t hq ht s
  have hf := near_free q t s n
  have hz : sizeF ((t : Int) / 9 - (q : Int) / 9) = 0 → (q : Int) / 9 = (t : Int) / 9 := by
    unfold sizeF
    split <;> omega
  unfold kindStep
  generalize sizeF ((t : Int) / 9 - (q : Int) / 9) = f at *
  generalize hU : aheadF s q t = u at *
  by_cases ne : (q : Int) = t
  · simp [ne]
  · by_cases hn : f = 0 ∧ u = 1
    · have hs1 : sizeF u ≤ 1 := by rw [hn.2]; decide
      have h1 := hl ne (by omega) hs1
      have h2 := free_nil q t n (hf (by omega) hs1)
      have h3 : lineF q t = 1 := by
        rcases h1 with h | h
        · exact h.1
        · omega
      simp [h2, h3, hn, ne, hz hn.1]
    · simp [hn]
/-- WHAT IS REACHED BY A PROMOTED BISHOP OR ROOK HAS NOTHING TAKEN BETWEEN. -/
theorem reach_free (s k : Int) (hs : s = 0 ∨ s = 1) (hk : k = 14 ∨ k = 15) (q t n : Nat) (hq : q < 81) (ht : t < 81) (h : (rayN (16 * s + k) q n).testBit t = true) : freeF q t n = true := by
  rw [reach_at s k hs (by omega) (by omega) q t n hq ht] at h
  rw [Bool.or_eq_true, Bool.and_eq_true, Bool.and_eq_true] at h
  rcases h with ⟨h1, h2⟩ | ⟨_, h2⟩
  · refine free_nil q t n (near_free q t s n ?_ ?_)
    · unfold kindStep at h2
      rcases hk with rfl | rfl
      · simp at h2; omega
      · simp at h2; omega
    · unfold kindStep at h2
      rcases hk with rfl | rfl
      · simp at h2; omega
      · simp at h2; omega
  · exact h2
theorem between_apart (q t n : Nat) (h : freeF q t n = true) (hin : ∀ u ∈ betweenL q t, 0 ≤ u ∧ u < 81) : ofN (betweenL q t) &&& n = 0 := by
  apply zero_of_bits
  intro i
  rw [Nat.testBit_and, ofN_test]
  by_cases hi : ((i : Int) ∈ betweenL q t) ∧ i < 81
  · have := (freeF_iff q t n).1 h i hi.1
    rw [show ((i : Int)).toNat = i by omega] at this
    rw [this, Bool.and_false]
  · rw [decide_eq_false hi, Bool.false_and]
end Go.Proofs.YtnmekghjkajhcaaDoor
