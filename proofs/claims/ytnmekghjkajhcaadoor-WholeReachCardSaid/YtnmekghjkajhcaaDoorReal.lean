/-
  The statements' real: of two raw words the set of squares that they hold; counts of sets.
-/
import Derived.Test.YtnmekghjkajhcaaDoorHolds
import Derived.OpenShut
import Derived.Deep.RegionHeld3
import Derived.Deep.DeepCutAuto
namespace Go.Proofs.YtnmekghjkajhcaaDoor
open Go.RowKit
set_option linter.unusedVariables false

def realN (a b : Int) : Nat := a.toNat % 9223372036854775808 + 9223372036854775808 * (b.toNat % 262144)
theorem realN_sq (a b : Int) : Sq (realN a b) := by
  unfold Sq realN
  omega
theorem real_lo (a b : Int) (h0 : 0 ≤ a) (h1 : a ≤ 18446744073709551615) : bits .andNot .u64 a 9223372036854775808 = loW (realN a b) := by
  obtain ⟨x, rfl⟩ : ∃ x : Nat, a = x := ⟨a.toNat, by omega⟩
  have e : bits .andNot .u64 (x : Int) ((9223372036854775808 : Nat) : Int) = _ := u64_andNot_nat x 9223372036854775808 (by omega) (by omega)
  have e2 : bits .andNot .u64 (x : Int) 9223372036854775808 = bits .andNot .u64 (x : Int) ((9223372036854775808 : Nat) : Int) := rfl
  rw [e2, e]
  unfold loW realN
  rw [Int.toNat_natCast, Nat.add_mul_mod_self_left, Nat.mod_mod]
  congr 1
  rw [sub_bits _ _ (by omega) (by decide)]
  apply Nat.eq_of_testBit_eq
  intro i
  rw [Nat.testBit_xor, Nat.testBit_and, pow63, Nat.testBit_two_pow, Nat.testBit_mod_two_pow]
  by_cases hi : i = 63
  · subst hi
    simp
  · by_cases h2 : i < 63
    · have h3 : ¬ 63 = i := by omega
      simp [h2, h3]
    · have : x.testBit i = false := Nat.testBit_lt_two_pow (Nat.lt_of_lt_of_le (show x < 2 ^ 64 by omega) (Nat.pow_le_pow_right (by omega) (by omega)))
      rw [this]
      simp
theorem real_hi (a b : Int) (h0 : 0 ≤ b) (h1 : b ≤ 18446744073709551615) : bits .and .u64 b 262143 = hiW (realN a b) := by
  obtain ⟨x, rfl⟩ : ∃ x : Nat, b = x := ⟨b.toNat, by omega⟩
  have e : bits .and .u64 (x : Int) ((262143 : Nat) : Int) = _ := u64_and_nat x 262143 (by omega) (by omega)
  have e2 : bits .and .u64 (x : Int) 262143 = bits .and .u64 (x : Int) ((262143 : Nat) : Int) := rfl
  rw [e2, e]
  unfold hiW realN
  rw [Int.toNat_natCast]
  have e3 : (a.toNat % 9223372036854775808 + 9223372036854775808 * (x % 262144)) / 9223372036854775808 = x % 262144 := by omega
  rw [e3, show (262143 : Nat) = 2 ^ 18 - 1 from by decide, Nat.and_two_pow_sub_one_eq_mod]

theorem test_minus (n m i : Nat) : (minusN n m).testBit i = (n.testBit i && !m.testBit i) := by
  unfold minusN
  rw [Nat.testBit_xor, Nat.testBit_and]
  cases n.testBit i <;> cases m.testBit i <;> rfl
theorem test_full (i : Nat) : full.testBit i = decide (i < 81) := by
  have e : full = 2 ^ 81 - 1 := by decide +kernel
  rw [e, Nat.testBit_two_pow_sub_one]
theorem test_sq {n : Nat} (h : Sq n) (i : Nat) (hi : 81 ≤ i) : n.testBit i = false := by
  apply Nat.testBit_lt_two_pow
  unfold Sq at h
  rw [pow81] at h
  exact Nat.lt_of_lt_of_le h (Nat.pow_le_pow_right (by omega) hi)
theorem pop_two (n m : Nat) : ∀ k, pop k n + pop k m = pop k (n ||| m) + pop k (n &&& m)
  | 0 => rfl
  | k + 1 => by
    have ih := pop_two n m k
    rw [pop_succ, pop_succ, pop_succ, pop_succ, Nat.testBit_or, Nat.testBit_and]
    cases n.testBit k <;> cases m.testBit k <;> simp <;> omega
theorem pop_not (n : Nat) : ∀ k, k ≤ 81 → pop k n + pop k (minusN full n) = k
  | 0, _ => rfl
  | k + 1, h => by
    have ih := pop_not n k (by omega)
    rw [pop_succ, pop_succ, test_minus, test_full]
    have : decide (k < 81) = true := by simp; omega
    rw [this]
    cases n.testBit k <;> simp <;> omega
theorem pop_minus (n m : Nat) : ∀ k, pop k (minusN n m) + pop k (n &&& m) = pop k n
  | 0 => rfl
  | k + 1 => by
    have ih := pop_minus n m k
    rw [pop_succ, pop_succ, pop_succ, test_minus, Nat.testBit_and]
    cases n.testBit k <;> cases m.testBit k <;> simp <;> omega
theorem minus_not (n m : Nat) (hn : Sq n) : minusN n m = n &&& minusN full m := by
  apply Nat.eq_of_testBit_eq
  intro i
  rw [test_minus, Nat.testBit_and, test_minus, test_full]
  by_cases hi : i < 81
  · simp [hi]
  · rw [test_sq hn i (by omega)]
    rfl

theorem held_fst {wc W : World} {s : Nat} {x0 y0 x1 y1 : Value}
    (h : Below wc.heap.size wc W ∧ s < W.heap.size ∧ s + 1 < W.heap.size ∧ W.cell? ⟨s, 0, none⟩ = some x0 ∧ W.cell? ⟨s, 1, none⟩ = some y0 ∧ W.cell? ⟨s + 1, 0, none⟩ = some x1 ∧ W.cell? ⟨s + 1, 1, none⟩ = some y1) : Below wc.heap.size wc W := h.1
/-- Two sets' variables, held while a statement makes memory. -/
theorem held_step {wc W w' : World} {s : Nat} {x0 y0 x1 y1 : Value}
    (h : Below wc.heap.size wc W ∧ s < W.heap.size ∧ s + 1 < W.heap.size ∧ W.cell? ⟨s, 0, none⟩ = some x0 ∧ W.cell? ⟨s, 1, none⟩ = some y0 ∧ W.cell? ⟨s + 1, 0, none⟩ = some x1 ∧ W.cell? ⟨s + 1, 1, none⟩ = some y1)
    (hb : Below W.heap.size W w') :
    Below wc.heap.size wc w' ∧ s < w'.heap.size ∧ s + 1 < w'.heap.size ∧ w'.cell? ⟨s, 0, none⟩ = some x0 ∧ w'.cell? ⟨s, 1, none⟩ = some y0 ∧ w'.cell? ⟨s + 1, 0, none⟩ = some x1 ∧ w'.cell? ⟨s + 1, 1, none⟩ = some y1 := by
  obtain ⟨h0, h1, h2, h3, h4, h5, h6⟩ := h
  have hs := hb.size
  exact ⟨bthen h0 hb, by omega, by omega, (hb.cell (p := ⟨s, 0, none⟩) h1).trans h3, (hb.cell (p := ⟨s, 1, none⟩) h1).trans h4, (hb.cell (p := ⟨s + 1, 0, none⟩) h2).trans h5, (hb.cell (p := ⟨s + 1, 1, none⟩) h2).trans h6⟩
end Go.Proofs.YtnmekghjkajhcaaDoor
