/-
  Plain facts for StepKings, StepTurns, StepEdges: how many squares a list gives at most; kings, golds and silvers; the board turned about.
-/
import Derived.Test.YtnmekghjkajhcaaDoorStepMath
namespace Go.Proofs.YtnmekghjkajhcaaDoor
open Go.RowKit
set_option linter.unusedVariables false
set_option linter.unusedSimpArgs false

theorem pop_one (k : Nat) : ∀ j, pop j (2 ^ k) = if k < j then 1 else 0
  | 0 => by simp [pop]
  | j + 1 => by
    rw [pop_succ, pop_one k j, Nat.testBit_two_pow]
    by_cases h : k = j
    · subst h
      simp
    · by_cases h2 : k < j
      · have : k < j + 1 := by omega
        simp [h, h2, this]
      · have : ¬ k < j + 1 := by omega
        simp [h, h2, this]
theorem pop_oneN (q : Int) : pop 81 (oneN q) ≤ 1 := by
  unfold oneN
  split
  · rw [pop_one]
    split <;> omega
  · rw [pop_zero]
    omega
theorem pop_ofN (l : List Int) : pop 81 (ofN l) ≤ l.length := by
  have key : ∀ (l : List Int) (n : Nat), pop 81 (l.foldl (fun n q => n ||| oneN q) n) ≤ pop 81 n + l.length := by
    intro l
    induction l with
    | nil => intro n; simp
    | cons q l ih =>
      intro n
      have h1 := ih (n ||| oneN q)
      have h2 := pop_two n (oneN q) 81
      have h3 := pop_oneN q
      simp only [List.foldl_cons, List.length_cons]
      omega
  have := key l 0
  rw [pop_zero] at this
  unfold ofN
  omega
theorem pop_step (p q : Int) : pop 81 (stepN p q) ≤ 8 := by
  have h := pop_ofN ((dirsL (kindF p)).map fun d => fromF (turnF (sideF p) d) q)
  have h2 := dirs_len (kindF p)
  rw [List.length_map] at h
  unfold stepN
  omega

theorem kind_at (s k : Int) (hs : s = 0 ∨ s = 1) (hk : 1 ≤ k ∧ k ≤ 15) (h13 : k ≠ 13) : kindF (16 * s + k) = k ∧ sideF (16 * s + k) = s := by
  have h := kindF_ref (16 * s + k) (by omega) (by omega) (by omega) (by omega) (by omega)
  rw [h.1, h.2]
  omega
theorem kind_13 (s : Int) (hs : s = 0 ∨ s = 1) : kindF (16 * s + 13) = 0 := (kindF_not (16 * s + 13) (by omega)).1

theorem king_both (s q : Int) (hs : s = 0 ∨ s = 1) : stepN (16 * s + 5) q ||| stepN (16 * s + 4) q = stepN (16 * s + 8) q := by
  unfold stepN
  rw [(kind_at s 5 hs (by omega) (by omega)).1, (kind_at s 5 hs (by omega) (by omega)).2, (kind_at s 4 hs (by omega) (by omega)).1, (kind_at s 4 hs (by omega) (by omega)).2, (kind_at s 8 hs (by omega) (by omega)).1, (kind_at s 8 hs (by omega) (by omega)).2]
  apply Nat.eq_of_testBit_eq
  intro i
  rw [Nat.testBit_or, ofN_test, ofN_test, ofN_test, Bool.eq_iff_iff]
  have e5 : dirsL 5 = [(0, -1), (-1, 0), (1, 0), (0, 1), (-1, -1), (1, -1)] := by decide
  have e4 : dirsL 4 = [(-1, -1), (1, -1), (-1, 1), (1, 1), (0, -1)] := by decide
  have e8 : dirsL 8 = [(0, -1), (-1, 0), (1, 0), (0, 1), (-1, -1), (1, -1), (-1, 1), (1, 1)] := by decide
  rw [e5, e4, e8]
  simp only [List.map_cons, List.map_nil, List.mem_cons, List.not_mem_nil, or_false, Bool.or_eq_true, decide_eq_true_eq]
  constructor
  · rintro (⟨h, hi⟩ | ⟨h, hi⟩)
    · refine ⟨?_, hi⟩
      rcases h with h | h | h | h | h | h <;> simp only [h, true_or, or_true]
    · refine ⟨?_, hi⟩
      rcases h with h | h | h | h | h <;> simp only [h, true_or, or_true]
  · rintro ⟨h, hi⟩
    rcases h with h | h | h | h | h | h | h | h <;> simp only [h, hi, true_or, or_true, and_self]
theorem king_sub (s k q : Int) (hs : s = 0 ∨ s = 1) (hk : 1 ≤ k ∧ k ≤ 15) (h3 : k ≠ 3) : minusN (stepN (16 * s + k) q) (stepN (16 * s + 8) q) = 0 := by
  apply Nat.eq_of_testBit_eq
  intro i
  rw [test_minus, Nat.zero_testBit]
  unfold stepN
  by_cases h13 : k = 13
  · subst h13
    rw [kind_13 s hs, show dirsL 0 = [] from rfl, List.map_nil, show ofN [] = 0 from rfl, Nat.zero_testBit]
    rfl
  · rw [(kind_at s k hs hk h13).1, (kind_at s k hs hk h13).2, (kind_at s 8 hs (by omega) (by omega)).1, (kind_at s 8 hs (by omega) (by omega)).2, ofN_test, ofN_test]
    have sub : ∀ d ∈ dirsL k, d ∈ dirsL 8 := by
      obtain rfl | rfl | rfl | rfl | rfl | rfl | rfl | rfl | rfl | rfl | rfl | rfl | rfl : k = 1 ∨ k = 2 ∨ k = 4 ∨ k = 5 ∨ k = 6 ∨ k = 7 ∨ k = 8 ∨ k = 9 ∨ k = 10 ∨ k = 11 ∨ k = 12 ∨ k = 14 ∨ k = 15 := by omega
      all_goals decide
    by_cases h : (i : Int) ∈ List.map (fun d => fromF (turnF s d) q) (dirsL k)
    · obtain ⟨d, hd, e⟩ := List.mem_map.1 h
      have h8 : (i : Int) ∈ List.map (fun d => fromF (turnF s d) q) (dirsL 8) := List.mem_map.2 ⟨d, sub d hd, e⟩
      simp [h, h8]
    · simp [h]
theorem knight_apart (s q : Int) (hs : s = 0 ∨ s = 1) : stepN (16 * s + 3) q &&& stepN (16 * s + 8) q = 0 := by
  apply Nat.eq_of_testBit_eq
  intro i
  rw [Nat.testBit_and, Nat.zero_testBit]
  by_cases hi : i < 81
  · rw [stepN_test _ _ _ hi, stepN_test _ _ _ hi]
    unfold refStepF
    rw [(kind_at s 3 hs (by omega) (by omega)).1, (kind_at s 3 hs (by omega) (by omega)).2, (kind_at s 8 hs (by omega) (by omega)).1, (kind_at s 8 hs (by omega) (by omega)).2]
    split
    · rfl
    · generalize sizeF ((i : Int) / 9 - q / 9) = f
      generalize aheadF s q i = u
      have e3 : kindStep 3 f u = decide (f = 1 ∧ u = 2) := rfl
      have e8 : kindStep 8 f u = decide (f ≤ 1 ∧ sizeF u ≤ 1) := rfl
      rw [e3, e8]
      by_cases hu : u = 2
      · subst hu
        have : ¬ (f ≤ 1 ∧ sizeF 2 ≤ 1) := by
          rw [show sizeF 2 = 2 from rfl]
          omega
        simp [this]
      · simp [hu]
  · have : (stepN (16 * s + 3) q).testBit i = false := test_sq (stepN_sq _ _) i (by omega)
    rw [this]
    rfl
theorem knight_two (s q : Int) (hs : s = 0 ∨ s = 1) : pop 81 (stepN (16 * s + 3) q) ≤ 2 := by
  have h := pop_ofN ((dirsL (kindF (16 * s + 3))).map fun d => fromF (turnF (sideF (16 * s + 3)) d) q)
  rw [List.length_map, (kind_at s 3 hs (by omega) (by omega)).1] at h
  have e : (dirsL 3).length = 2 := rfl
  unfold stepN
  rw [(kind_at s 3 hs (by omega) (by omega)).1]
  omega

theorem pop_turn (n m : Nat) (h : ∀ i, i < 81 → m.testBit (80 - i) = n.testBit i) : pop 81 m = pop 81 n := by
  rw [pop_list, pop_list]
  have e : List.range 81 = ((List.range 81).map (fun i => 80 - i)).reverse := by decide
  have e2 : (List.range 81).filter (fun i => m.testBit i) = (((List.range 81).map (fun i => 80 - i)).reverse).filter (fun i => m.testBit i) := by rw [← e]
  rw [e2, List.filter_reverse, List.length_reverse, List.filter_map, List.length_map]
  congr 1
  apply List.filter_congr
  intro i hi
  exact h i (List.mem_range.1 hi)
theorem turn_test (k q : Int) (hk : 1 ≤ k ∧ k ≤ 15) (hq : 0 ≤ q ∧ q ≤ 80) (i : Nat) (hi : i < 81) : (stepN (k + 16) (80 - q)).testBit (80 - i) = (stepN k q).testBit i := by
  rw [stepN_test _ _ _ (by omega), stepN_test _ _ _ hi]
  have ek : k + 16 = 16 * 1 + k := by omega
  have ek0 : stepN k q = stepN (16 * 0 + k) q := by rw [show 16 * 0 + k = k by omega]
  have hkk : kindF (k + 16) = kindF k ∧ (k ≠ 13 → sideF (k + 16) = 1 ∧ sideF k = 0) ∧ (k = 13 → kindF k = 0) := by
    by_cases h13 : k = 13
    · subst h13
      exact ⟨by decide, fun h => absurd rfl h, fun _ => by decide⟩
    · have h1 := kind_at 1 k (by omega) hk h13
      have h0 := kind_at 0 k (by omega) hk h13
      rw [show 16 * 0 + k = k by omega] at h0
      rw [← ek] at h1
      exact ⟨by rw [h1.1, h0.1], fun _ => ⟨h1.2, h0.2⟩, fun h => absurd h h13⟩
  have d1 : ∀ x : Int, 0 ≤ x ∧ x ≤ 80 → (80 - x) / 9 = 8 - x / 9 ∧ (80 - x) % 9 = 8 - x % 9 := by intro x hx; omega
  have ci : ((80 - i : Nat) : Int) = 80 - (i : Int) := by omega
  rw [ci]
  obtain ⟨q1, q2⟩ := d1 q hq
  obtain ⟨i1, i2⟩ := d1 i (by omega)
  unfold refStepF
  rw [hkk.1]
  by_cases c : q = i
  · rw [if_pos (by omega), if_pos (by omega)]
  · rw [if_neg (by omega), if_neg (by omega), i1, q1]
    have es : sizeF (8 - (i : Int) / 9 - (8 - q / 9)) = sizeF ((i : Int) / 9 - q / 9) := by
      unfold sizeF
      split <;> split <;> omega
    rw [es]
    by_cases h13 : k = 13
    · rw [hkk.2.2 h13]
      rfl
    · obtain ⟨s1, s0⟩ := hkk.2.1 h13
      have ea : aheadF (sideF (k + 16)) (80 - q) (80 - (i : Int)) = aheadF (sideF k) q i := by
        rw [s1, s0]
        unfold aheadF
        rw [if_pos rfl, if_neg (by decide), q2, i2]
        omega
      rw [ea]
theorem turn_pop (k q : Int) (hk : 1 ≤ k ∧ k ≤ 15) (hq : 0 ≤ q ∧ q ≤ 80) : pop 81 (stepN (k + 16) (80 - q)) = pop 81 (stepN k q) :=
  pop_turn _ _ (fun i hi => turn_test k q hk hq i hi)
theorem dirs_kind (k : Int) (hk : 1 ≤ k ∧ k ≤ 15) : dirsL (kindF k) = dirsL k := by
  by_cases h13 : k = 13
  · subst h13
    decide
  · have h0 := kind_at 0 k (by omega) hk h13
    rw [show 16 * 0 + k = k by omega] at h0
    rw [h0.1]
theorem part_turn (k q : Int) (hk : 1 ≤ k ∧ k ≤ 15) : partN (dirsL k) 0 q (dirsL k).length = stepN k q := by
  unfold partN stepN
  rw [List.take_length, dirs_kind k hk]
  by_cases h13 : k = 13
  · subst h13
    rfl
  · have h0 := kind_at 0 k (by omega) hk h13
    rw [show 16 * 0 + k = k by omega] at h0
    rw [h0.2]
end Go.Proofs.YtnmekghjkajhcaaDoor
