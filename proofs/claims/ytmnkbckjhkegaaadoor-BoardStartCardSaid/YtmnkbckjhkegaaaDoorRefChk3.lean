/-
  The reference's Check of positions.
-/
import Derived.Test.YtmnkbckjhkegaaaDoorRefChk2
namespace Go.Proofs.YtmnkbckjhkegaaaDoor
open Go.RowKit
set_option linter.unusedVariables false
set_option linter.unusedSimpArgs false

theorem chk_side (z : List Int) (h : ¬ (at8 z 97 = 0 ∨ at8 z 97 = 1)) : checkF z = 1 := by unfold checkF chkF; rw [if_pos h]
theorem chk_known (z : List Int) (h : at8 z 97 = 0 ∨ at8 z 97 = 1) (h2 : knownB z = false) : checkF z = 55 := by
  unfold checkF chkF; rw [if_neg (fun e => e h), if_pos h2]
theorem chk_kings (z : List Int) (h : at8 z 97 = 0 ∨ at8 z 97 = 1) (h2 : knownB z = true) (h3 : ¬ (FH z 16 0 = 1 ∧ FH z 16 1 = 1)) : checkF z = 50 := by
  unfold checkF chkF; rw [if_neg (fun e => e h), if_neg (by rw [h2]; decide), if_pos h3]
theorem chk_count (z : List Int) (h : at8 z 97 = 0 ∨ at8 z 97 = 1) (h2 : knownB z = true) (h3 : FH z 16 0 = 1 ∧ FH z 16 1 = 1) (h4 : allB (fewB (FH z 16)) 9 = false) : checkF z = 51 := by
  unfold checkF chkF; rw [if_neg (fun e => e h), if_neg (by rw [h2]; decide), if_neg (fun e => e h3), if_pos h4]
theorem chk_dead (z : List Int) (h : at8 z 97 = 0 ∨ at8 z 97 = 1) (h2 : knownB z = true) (h3 : FH z 16 0 = 1 ∧ FH z 16 1 = 1) (h4 : allB (fewB (FH z 16)) 9 = true) (h5 : allB (aliveQ z) 81 = false) : checkF z = 52 := by
  unfold checkF chkF; rw [if_neg (fun e => e h), if_neg (by rw [h2]; decide), if_neg (fun e => e h3), if_neg (by rw [h4]; decide), if_pos h5]
theorem chk_nifu (z : List Int) (h : at8 z 97 = 0 ∨ at8 z 97 = 1) (h2 : knownB z = true) (h3 : FH z 16 0 = 1 ∧ FH z 16 1 = 1) (h4 : allB (fewB (FH z 16)) 9 = true) (h5 : allB (aliveQ z) 81 = true) (h6 : allB (oneQ (newZ z)) 18 = false) : checkF z = 53 := by
  unfold checkF chkF; rw [if_neg (fun e => e h), if_neg (by rw [h2]; decide), if_neg (fun e => e h3), if_neg (by rw [h4]; decide), if_neg (by rw [h5]; decide), if_pos h6]
theorem chk_ok (z : List Int) (h : at8 z 97 = 0 ∨ at8 z 97 = 1) (h2 : knownB z = true) (h3 : FH z 16 0 = 1 ∧ FH z 16 1 = 1) (h4 : allB (fewB (FH z 16)) 9 = true) (h5 : allB (aliveQ z) 81 = true) (h6 : allB (oneQ (newZ z)) 18 = true) : checkF z = 0 := by
  unfold checkF chkF; rw [if_neg (fun e => e h), if_neg (by rw [h2]; decide), if_neg (fun e => e h3), if_neg (by rw [h4]; decide), if_neg (by rw [h5]; decide), if_neg (by rw [h6]; decide)]

theorem known_of (z : List Int) (h1 : ∀ q, q < 81 → knownQ z q = true) (h2 : ∀ i, i < 8 → knownH z i = true ∧ knownH z (8 + i) = true) : knownB z = true := by
  unfold knownB
  rw [(allB_iff _ _).2 h1, (allB_iff _ _).2 (fun i hi => by
    by_cases h : i < 8
    · exact (h2 i h).1
    · have := (h2 (i - 8) (by omega)).2
      rwa [show 8 + (i - 8) = i by omega] at this)]
  rfl
theorem known_clean (z : List Int) (h : ∀ q, q < 81 → knownQ z q = true) : Clean z := by
  intro q hq hk
  have := h q hq
  unfold knownQ at this
  rw [hk] at this
  simpa using this
theorem king_count (z : List Int) (h8 : I8s z) : FH z 16 0 = cntN z (eqB 8) 81 ∧ FH z 16 1 = cntN z (eqB 24) 81 := by
  rw [FH_at z h8 0 16 (Nat.le_refl _), FH_at z h8 1 16 (Nat.le_refl _)]
  unfold handsF
  rw [if_neg (by omega), if_neg (by omega)]
  unfold FB
  constructor
  · rw [Int.add_zero, cntN_congr z z (cenB 0) (eqB 8) 81 (fun i _ => by unfold cenB eqB; rw [if_pos rfl])]
  · rw [Int.add_zero, cntN_congr z z (cenB 1) (eqB 24) 81 (fun i _ => by unfold cenB eqB; rw [if_neg (by omega), if_pos rfl])]
theorem kind_count (z : List Int) (h8 : I8s z) (k : Nat) (hk : 1 ≤ k ∧ k ≤ 7) : FH z 16 (2 + k) = (cntN z (rawB k) 81 : Int) + at8 z (81 + k) + at8 z (89 + k) := by
  rw [FH_at z h8 _ 16 (Nat.le_refl _)]
  unfold handsF
  rw [if_pos (by omega), if_pos (by omega), if_pos (by omega), show 81 + (2 + k - 2) = 81 + k by omega, show 81 + (8 + (2 + k - 2)) = 89 + k by omega]
  unfold FB
  rw [cntN_congr z z (cenB (2 + k)) (rawB k) 81 (fun i _ => by rw [cenB_kind _ _ (by omega)]; unfold rawB; congr 1; rw [show ((2 + k : Nat) : Int) - 2 = k by omega]), Int.add_assoc]
/-- What has no kind is counted never; kings are two. -/
theorem cnt_add (z : List Int) (f g h : Int → Bool) (hh : ∀ y, (if h y then (1 : Nat) else 0) = (if f y then 1 else 0) + (if g y then 1 else 0)) : ∀ k, cntN z h k = cntN z f k + cntN z g k
  | 0 => rfl
  | k + 1 => by
    rw [cntN, cntN, cntN, cnt_add z f g h hh k, hh]
    omega
theorem few_ends (z : List Int) (h8 : I8s z) (hk : knownB z = true) (h3 : FH z 16 0 = 1 ∧ FH z 16 1 = 1) : fewB (FH z 16) 0 = true ∧ fewB (FH z 16) 8 = true := by
  have hkk := king_count z h8
  rw [hkk.1, hkk.2] at h3
  have hH : ∀ j, j < 16 → knownH z j = true := by
    unfold knownB at hk
    exact (allB_iff _ _).1 (Bool.and_eq_true_iff.1 hk).2
  have e0 : at8 z 81 = 0 := by
    have := hH 0 (by omega)
    unfold knownH at this
    simp at this
    exact this.2
  have e8 : at8 z 89 = 0 := by
    have := hH 8 (by omega)
    unfold knownH at this
    simp at this
    exact this.2
  unfold fewB
  constructor
  · apply decide_eq_true
    rw [FH_at z h8 _ 16 (Nat.le_refl _)]
    have c0 : FB z 81 2 = 0 := by
      unfold FB
      have : ∀ k, cntN z (cenB 2) k = 0 := by
        intro k
        induction k with
        | zero => rfl
        | succ k ih =>
          rw [cntN, ih]
          unfold cenB
          simp
      rw [this]
      rfl
    have hh : handsF z 16 2 = 0 := by
      unfold handsF
      rw [if_pos (by omega), if_pos (by omega), if_pos (by omega)]
      show at8 z 81 + at8 z 89 = 0
      rw [e0, e8]
      rfl
    rw [c0, hh]
    decide
  · apply decide_eq_true
    rw [FH_at z h8 _ 16 (Nat.le_refl _)]
    have hh : handsF z 16 10 = 0 := by
      unfold handsF
      rw [if_neg (by omega)]
    have hc : cntN z (cenB 10) 81 = cntN z (eqB 8) 81 + cntN z (eqB 24) 81 := by
      refine cnt_add z _ _ _ (fun y => ?_) 81
      rw [cenB_kind 10 y (by omega)]
      have hs := kind_side y
      have hr := rawF_cases (kindF y)
      unfold eqB
      by_cases a : y = 8
      · subst a; decide
      · by_cases b : y = 24
        · subst b; decide
        · rw [decide_eq_false a, decide_eq_false b, decide_eq_false (show ¬ rawF (kindF y) = ((10 : Nat) : Int) - 2 by omega)]
          rfl
    show FB z 81 10 + handsF z 16 10 ≤ totalF 8
    rw [hh]
    unfold FB
    rw [hc]
    have : totalF 8 = 2 := by decide
    omega
theorem few_of (z : List Int) (h8 : I8s z) (hk : knownB z = true) (h3 : FH z 16 0 = 1 ∧ FH z 16 1 = 1) (h : ∀ k, 1 ≤ k → k < 8 → fewB (FH z 16) k = true) : allB (fewB (FH z 16)) 9 = true := by
  have he := few_ends z h8 hk h3
  refine (allB_iff _ _).2 (fun i hi => ?_)
  by_cases h0 : i = 0
  · subst h0; exact he.1
  · by_cases h8' : i = 8
    · subst h8'; exact he.2
    · exact h i (by omega) (by omega)
theorem one_at (z : List Int) (s f : Nat) (hs : s < 2) (hf : f < 9) : oneQ z (9 * s + f) = decide (onI z (16 * s + 1) f 9 ≤ 1) := by
  unfold oneQ
  rw [show (9 * s + f) / 9 = s by omega, show (9 * s + f) % 9 = f by omega]
  have := pawns_on z s hs f hf
  by_cases h : pawnsN z s f ≤ 1
  · rw [decide_eq_true h, decide_eq_true (by omega)]
  · rw [decide_eq_false h, decide_eq_false (by omega)]
theorem one_of (z : List Int) (h : ∀ f, f < 9 → onI z 1 f 9 ≤ 1 ∧ onI z 17 f 9 ≤ 1) : allB (oneQ z) 18 = true := by
  refine (allB_iff _ _).2 (fun i hi => ?_)
  by_cases h9 : i < 9
  · have := one_at z 0 i (by omega) h9
    rw [show 9 * 0 + i = i by omega] at this
    rw [this]
    exact decide_eq_true (h i h9).1
  · have := one_at z 1 (i - 9) (by omega) (by omega)
    rw [show 9 * 1 + (i - 9) = i by omega] at this
    rw [this]
    exact decide_eq_true (h (i - 9) (by omega)).2
theorem one_no (z : List Int) (f : Nat) (hf : f < 9) (h : 1 < onI z 1 f 9 ∨ 1 < onI z 17 f 9) : allB (oneQ z) 18 = false := by
  rcases h with h | h
  · have := one_at z 0 f (by omega) hf
    exact allB_no (j := 9 * 0 + f) (by rw [this]; exact decide_eq_false (by show ¬ onI z 1 f 9 ≤ 1; omega)) (by omega)
  · have := one_at z 1 f (by omega) hf
    exact allB_no (j := 9 * 1 + f) (by rw [this]; exact decide_eq_false (by show ¬ onI z 17 f 9 ≤ 1; omega)) (by omega)
end Go.Proofs.YtmnkbckjhkegaaaDoor
