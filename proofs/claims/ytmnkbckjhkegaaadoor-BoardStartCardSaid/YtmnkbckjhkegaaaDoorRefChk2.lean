/-
  The reference's Dead; what the two censuses and the two looks for pawns have in common.
-/
import Derived.Test.YtmnkbckjhkegaaaDoorRefChk1
import Derived.Test.YtmnkbckjhkegaaaDoorRefFar
namespace Go.Proofs.YtmnkbckjhkegaaaDoor
open Go.RowKit
set_option linter.unusedVariables false
set_option linter.unusedSimpArgs false

set_option maxHeartbeats 1000000 in
theorem refDead_any (x q : Int) (hx : -128 ≤ x ∧ x ≤ 127) (w : World) :
    Calls Tryd.prog 47 #[.int .i64 x, .int .i64 q] w fun e w' => e = .returned (.bool (deadF x q)) ∧ w = w' := by
  have K := Lib.hid (fun W => refKind_any x W hx.1 hx.2)
  have S := Lib.hid (fun W => refSide_any x W hx.1 hx.2)
  have FA := Lib.hid (fun W => refFar_any (sideF x) q W)
  have hbd := farF_bd (sideF x) q
  unfold deadF
  generalize sideF x = s at S FA hbd ⊢
  generalize farF s q = n at FA hbd ⊢
  generalize hkk : kindF x = k at K ⊢
  clear hkk hx
  have hn01 : decide (0 ≤ n ∧ n ≤ 1) = (decide (n = 0) || decide (n = 1)) := by
    by_cases h0 : n = 0
    · subst h0; rfl
    · by_cases h1 : n = 1
      · subst h1; rfl
      · rw [decide_eq_false h0, decide_eq_false h1, decide_eq_false (by omega)]; rfl
  rw [hn01]
  clear hn01 hbd
  by_cases h12 : k = 1 ∨ k = 2
  · rw [decide_eq_true h12, decide_eq_false (show ¬ k = 3 by omega)]
    rcases h12 with rfl | rfl
    all_goals
      by_cases h0 : n = 0
      · subst h0
        go_enter Tryd.func47, Tryd.ntmps47
        go_wp2_with (first
          | (go_at_call 62; refine (S.out _).mono ?_; rintro e w1 ⟨rfl, rfl⟩)
          | (go_at_call 11; refine (K.out _).mono ?_; rintro e w3 ⟨rfl, rfl⟩)
          | (go_at_call 61; refine (FA.out _).mono ?_; rintro e w2 ⟨rfl, rfl⟩))
        go_ret
        exact ⟨rfl, rfl⟩
      · have n0 : (n == 0) = false := by simpa using h0
        rw [decide_eq_false h0]
        go_enter Tryd.func47, Tryd.ntmps47
        go_wp2_with (first
          | (go_at_call 62; refine (S.out _).mono ?_; rintro e w1 ⟨rfl, rfl⟩)
          | (go_at_call 11; refine (K.out _).mono ?_; rintro e w3 ⟨rfl, rfl⟩)
          | (go_at_call 61; refine (FA.out _).mono ?_; rintro e w2 ⟨rfl, rfl⟩))
        go_ret
        exact ⟨rfl, rfl⟩
  · have k1 : (k == 1) = false := by simp; omega
    have k2 : (k == 2) = false := by simp; omega
    rw [decide_eq_false h12]
    by_cases h3 : k = 3
    · subst h3
      by_cases h0 : n = 0
      · subst h0
        go_enter Tryd.func47, Tryd.ntmps47
        go_wp2_with (first
          | (go_at_call 62; refine (S.out _).mono ?_; rintro e w1 ⟨rfl, rfl⟩)
          | (go_at_call 11; refine (K.out _).mono ?_; rintro e w3 ⟨rfl, rfl⟩)
          | (go_at_call 61; refine (FA.out _).mono ?_; rintro e w2 ⟨rfl, rfl⟩))
        go_ret
        exact ⟨rfl, rfl⟩
      · have n0 : (n == 0) = false := by simpa using h0
        rw [decide_eq_false h0]
        by_cases h1 : n = 1
        · subst h1
          go_enter Tryd.func47, Tryd.ntmps47
          go_wp2_with (first
            | (go_at_call 62; refine (S.out _).mono ?_; rintro e w1 ⟨rfl, rfl⟩)
            | (go_at_call 11; refine (K.out _).mono ?_; rintro e w3 ⟨rfl, rfl⟩)
            | (go_at_call 61; refine (FA.out _).mono ?_; rintro e w2 ⟨rfl, rfl⟩))
          go_ret
          exact ⟨rfl, rfl⟩
        · have n1 : (n == 1) = false := by simpa using h1
          rw [decide_eq_false h1]
          go_enter Tryd.func47, Tryd.ntmps47
          go_wp2_with (first
            | (go_at_call 62; refine (S.out _).mono ?_; rintro e w1 ⟨rfl, rfl⟩)
            | (go_at_call 11; refine (K.out _).mono ?_; rintro e w3 ⟨rfl, rfl⟩)
            | (go_at_call 61; refine (FA.out _).mono ?_; rintro e w2 ⟨rfl, rfl⟩))
          go_ret
          exact ⟨rfl, rfl⟩
    · have k3 : (k == 3) = false := by simpa using h3
      rw [decide_eq_false h3]
      go_enter Tryd.func47, Tryd.ntmps47
      go_wp2_with (first
        | (go_at_call 62; refine (S.out _).mono ?_; rintro e w1 ⟨rfl, rfl⟩)
        | (go_at_call 11; refine (K.out _).mono ?_; rintro e w3 ⟨rfl, rfl⟩)
        | (go_at_call 61; refine (FA.out _).mono ?_; rintro e w2 ⟨rfl, rfl⟩))
      go_ret
      exact ⟨rfl, rfl⟩

/-! How many bits of a number are set: told bit by bit. -/
def tbN (n : Nat) : Nat → Nat
  | 0 => 0
  | k + 1 => tbN n k + (if n.testBit k then 1 else 0)
theorem tb_shift (n : Nat) : ∀ k, tbN n (k + 1) = (if n.testBit 0 then 1 else 0) + tbN (n / 2) k
  | 0 => by simp [tbN]
  | k + 1 => by
    rw [tbN, tb_shift n k, tbN, Nat.testBit_succ]
    omega
theorem pop_tb : ∀ (k n : Nat), pop k n = tbN n k
  | 0, n => rfl
  | k + 1, n => by
    rw [tb_shift, ← pop_tb k (n / 2), pop]
    congr 1
    rw [Nat.testBit_zero]
    by_cases h : n % 2 = 1
    · simp [h]
    · have : n % 2 = 0 := by omega
      simp [this]
/-- The squares of a file. -/
theorem file_test (f : Nat) (hf : f < 9) : ∀ k, k ≤ 9 → ∀ i, i < 81 → (ofN (fileL f k)).testBit i = (decide (9 * f ≤ i) && decide (i < 9 * f + k))
  | 0, _, i, hi => by
    have : ofN (fileL f 0) = 0 := rfl
    rw [this, Nat.zero_testBit]
    symm
    rw [Bool.and_eq_false_iff]
    by_cases h : 9 * f ≤ i
    · right; exact decide_eq_false (by omega)
    · left; exact decide_eq_false h
  | k + 1, hk, i, hi => by
    have e : squareF f k = ((9 * f + k : Nat) : Int) := by unfold squareF; rw [if_pos (by omega)]; omega
    rw [fileL_step, Nat.testBit_or, file_test f hf k (by omega) i hi, e, oneN_test _ i (by omega)]
    by_cases h : i = 9 * f + k
    · subst h
      simp
    · rw [decide_eq_false h, Bool.or_false]
      congr 1
      by_cases h2 : i < 9 * f + k
      · rw [decide_eq_true h2, decide_eq_true (by omega)]
      · rw [decide_eq_false h2, decide_eq_false (by omega)]
theorem tb_file (z : List Int) (g : Int → Bool) (f : Nat) (hf : f < 9) : ∀ k, k ≤ 81 →
    tbN (whereN z g 81 &&& ofN (fileL f 9)) k = cntN z g (min k (9 * f + 9)) - cntN z g (min k (9 * f))
  | 0, _ => by simp [tbN]
  | k + 1, hk => by
    rw [tbN, tb_file z g f hf k (by omega), Nat.testBit_and, where_test, file_test f hf 9 (Nat.le_refl _) k (by omega), decide_eq_true (show k < 81 by omega), Bool.true_and]
    by_cases h1 : k < 9 * f
    · rw [show min k (9 * f + 9) = k by omega, show min k (9 * f) = k by omega, show min (k + 1) (9 * f + 9) = k + 1 by omega, show min (k + 1) (9 * f) = k + 1 by omega, decide_eq_false (show ¬ 9 * f ≤ k by omega)]
      simp
    · by_cases h2 : k < 9 * f + 9
      · rw [show min k (9 * f + 9) = k by omega, show min k (9 * f) = 9 * f by omega, show min (k + 1) (9 * f + 9) = k + 1 by omega, show min (k + 1) (9 * f) = 9 * f by omega, decide_eq_true (show 9 * f ≤ k by omega), decide_eq_true h2, cntN]
        have := cntN_mono z g (9 * f) (k - 9 * f)
        rw [show 9 * f + (k - 9 * f) = k by omega] at this
        simp only [Bool.and_true]
        split <;> omega
      · rw [show min k (9 * f + 9) = 9 * f + 9 by omega, show min k (9 * f) = 9 * f by omega, show min (k + 1) (9 * f + 9) = 9 * f + 9 by omega, show min (k + 1) (9 * f) = 9 * f by omega, decide_eq_false h2]
        simp
theorem cntN_congr (z z' : List Int) (f f' : Int → Bool) : ∀ k, (∀ i, i < k → f (at8 z i) = f' (at8 z' i)) → cntN z f k = cntN z' f' k
  | 0, _ => rfl
  | k + 1, h => by
    rw [cntN, cntN, cntN_congr z z' f f' k (fun i hi => h i (by omega)), h k (by omega)]
theorem pawns_on (z : List Int) (s : Nat) (hs : s < 2) (f : Nat) (hf : f < 9) : (pawnsN z s f : Int) = onI z (16 * s + 1) f 9 := by
  have ho : ofF s 1 = 16 * s + 1 := by
    unfold ofF
    rw [if_neg (by decide)]
    by_cases h : s = 0
    · subst h; rfl
    · obtain rfl : s = 1 := by omega
      rfl
  unfold pawnsN
  rw [ho, pop_tb]
  unfold pieceN
  rw [tb_file z _ f hf 81 (Nat.le_refl _), show min 81 (9 * f + 9) = 9 * f + 9 by omega, show min 81 (9 * f) = 9 * f by omega]
  have hb : ∀ y, pieceB (16 * s + 1) y = eqB (16 * s + 1) y := by
    intro y
    unfold pieceB eqB
    have : kindF (16 * (s : Int) + 1) ≠ 0 := by
      by_cases h : s = 0
      · subst h; decide
      · obtain rfl : s = 1 := by omega
        decide
    rw [decide_eq_false this]
    simp
  rw [cntN_congr z z _ (eqB (16 * s + 1)) _ (fun i _ => hb _), cntN_congr z z (pieceB (16 * s + 1)) (eqB (16 * s + 1)) (9 * f) (fun i _ => hb _)]
  have := cntN_mono z (eqB (16 * s + 1)) (9 * f) 9
  unfold onI
  omega
end Go.Proofs.YtmnkbckjhkegaaaDoor
