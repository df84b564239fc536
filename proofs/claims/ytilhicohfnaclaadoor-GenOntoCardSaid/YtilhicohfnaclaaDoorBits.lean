/-
  Sets of squares as one number below 2^81 (the bit q: the square q), and the two words that the program keeps of it: plain facts on numbers; no program is named here.
-/
import Derived.WalkKit
import Derived.Laws.BitsAllLaws
namespace Go.Proofs.YtilhicohfnaclaaDoor
open Go.RowKit

def loW (n : Nat) : Int := ((n % 9223372036854775808 : Nat) : Int)
def hiW (n : Nat) : Int := ((n / 9223372036854775808 : Nat) : Int)
def full : Nat := 2417851639229258349412351
def minusN (n m : Nat) : Nat := n ^^^ (n &&& m)
/-- The numbers that are sets of squares. -/
def Sq (n : Nat) : Prop := n < 2417851639229258349412352

theorem pow63 : (9223372036854775808 : Nat) = 2 ^ 63 := by decide
theorem pow81 : (2417851639229258349412352 : Nat) = 2 ^ 81 := by decide
theorem Sq.hi {n : Nat} (h : Sq n) : n / 9223372036854775808 < 262144 := by unfold Sq at h; omega
theorem lo_lt (n : Nat) : n % 9223372036854775808 < 9223372036854775808 := Nat.mod_lt _ (by omega)

theorem and_lo (n m : Nat) : bits .and .u64 (loW n) (loW m) = loW (n &&& m) := by
  unfold loW
  rw [u64_and_nat _ _ (by have := lo_lt n; omega) (by have := lo_lt m; omega), pow63, ← Nat.and_mod_two_pow]
theorem and_hi (n m : Nat) (hn : Sq n) (hm : Sq m) : bits .and .u64 (hiW n) (hiW m) = hiW (n &&& m) := by
  unfold hiW
  rw [u64_and_nat _ _ (by have := hn.hi; omega) (by have := hm.hi; omega), pow63, ← Nat.and_div_two_pow]
theorem or_lo (n m : Nat) : bits .or .u64 (loW n) (loW m) = loW (n ||| m) := by
  unfold loW
  rw [u64_or_nat _ _ (by have := lo_lt n; omega) (by have := lo_lt m; omega), pow63, ← Nat.or_mod_two_pow]
theorem or_hi (n m : Nat) (hn : Sq n) (hm : Sq m) : bits .or .u64 (hiW n) (hiW m) = hiW (n ||| m) := by
  unfold hiW
  rw [u64_or_nat _ _ (by have := hn.hi; omega) (by have := hm.hi; omega), pow63, ← Nat.or_div_two_pow]
theorem sub_bits (a b : Nat) (ha : a < 2 ^ 64) (hb : b < 2 ^ 64) : a &&& (18446744073709551615 - b) = a ^^^ (a &&& b) := by
  apply Nat.eq_of_testBit_eq
  intro i
  have e : 18446744073709551615 - b = 2 ^ 64 - (b + 1) := by omega
  rw [Nat.testBit_and, Nat.testBit_xor, Nat.testBit_and, e, Nat.testBit_two_pow_sub_succ hb]
  by_cases hi : i < 64
  · simp only [hi, decide_true, Bool.true_and]
    cases a.testBit i <;> cases b.testBit i <;> rfl
  · have h1 : a.testBit i = false := Nat.testBit_lt_two_pow (Nat.lt_of_lt_of_le ha (Nat.pow_le_pow_right (by omega) (by omega)))
    rw [h1]
    rfl
theorem minus_lo (n m : Nat) : bits .andNot .u64 (loW n) (loW m) = loW (minusN n m) := by
  unfold loW minusN
  have h1 := lo_lt n
  have h2 := lo_lt m
  rw [u64_andNot_nat _ _ (by omega) (by omega), sub_bits _ _ (by omega) (by omega), pow63, Nat.xor_mod_two_pow, Nat.and_mod_two_pow]
theorem minus_hi (n m : Nat) (hn : Sq n) (hm : Sq m) : bits .andNot .u64 (hiW n) (hiW m) = hiW (minusN n m) := by
  unfold hiW minusN
  have h1 := hn.hi
  have h2 := hm.hi
  rw [u64_andNot_nat _ _ (by omega) (by omega), sub_bits _ _ (by omega) (by omega), pow63, Nat.xor_div_two_pow, Nat.and_div_two_pow]

theorem Sq.and {n m : Nat} (hn : Sq n) : Sq (n &&& m) := by
  unfold Sq at *
  exact Nat.lt_of_le_of_lt Nat.and_le_left hn
theorem Sq.or {n m : Nat} (hn : Sq n) (hm : Sq m) : Sq (n ||| m) := by
  unfold Sq at *
  rw [pow81] at *
  exact Nat.or_lt_two_pow hn hm
theorem Sq.minus {n m : Nat} (hn : Sq n) : Sq (minusN n m) := by
  have h := Sq.and (m := m) hn
  unfold Sq minusN at *
  rw [pow81] at *
  exact Nat.xor_lt_two_pow hn h
theorem Sq.pow {q : Nat} (h : q < 81) : Sq (2 ^ q) := by
  unfold Sq
  rw [pow81]
  exact Nat.pow_lt_pow_right (by omega) h
theorem Sq.full : Sq full := by unfold Sq Go.Proofs.YtilhicohfnaclaaDoor.full; omega
theorem Sq.zero : Sq 0 := by unfold Sq; omega
theorem lo_zero : loW 0 = 0 := rfl
theorem hi_zero : hiW 0 = 0 := rfl
theorem lo_full : loW full = 9223372036854775807 := rfl
theorem hi_full : hiW full = 262143 := rfl
theorem lo_pow_lo (q : Nat) (h : q < 63) : loW (2 ^ q) = (2 : Int) ^ q ∧ hiW (2 ^ q) = 0 := by
  unfold loW hiW
  have : 2 ^ q < 2 ^ 63 := Nat.pow_lt_pow_right (by omega) h
  rw [Nat.mod_eq_of_lt (by rw [pow63]; exact this), Nat.div_eq_of_lt (by rw [pow63]; exact this)]
  exact ⟨by rw [Int.natCast_pow]; rfl, rfl⟩
theorem lo_pow_hi (q : Nat) (h : 63 ≤ q) : loW (2 ^ q) = 0 ∧ hiW (2 ^ q) = (2 : Int) ^ (q - 63) := by
  obtain ⟨d, rfl⟩ : ∃ d, q = d + 63 := ⟨q - 63, by omega⟩
  unfold loW hiW
  rw [Nat.pow_add, pow63, Nat.mul_mod_left, Nat.mul_div_cancel _ (by decide), Nat.add_sub_cancel]
  exact ⟨rfl, by rw [Int.natCast_pow]; rfl⟩
/-- Two sets with the same words are the same. -/
theorem words_inj {n m : Nat} (h1 : loW n = loW m) (h2 : hiW n = hiW m) : n = m := by
  unfold loW hiW at *
  omega
theorem words_ne {n m : Nat} (h : n ≠ m) : ¬ (loW n = loW m ∧ hiW n = hiW m) := fun e => h (words_inj e.1 e.2)
theorem lo_bd (n : Nat) : 0 ≤ loW n ∧ loW n ≤ 9223372036854775807 := by
  unfold loW
  have := lo_lt n
  omega
theorem hi_bd {n : Nat} (h : Sq n) : 0 ≤ hiW n ∧ hiW n ≤ 262143 := by
  unfold hiW
  have := h.hi
  omega
end Go.Proofs.YtilhicohfnaclaaDoor
