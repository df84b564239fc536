/-
  The squares of a set as a list, rising: plain facts on numbers; no program is named here.
-/
import Derived.Test.YtnmekghjkajhcaaDoorSet6
namespace Go.Proofs.YtnmekghjkajhcaaDoor

/-- The set bits of x below k, rising. -/
def bitsL (x k : Nat) : List Nat := (List.range k).filter (fun i => x.testBit i)
theorem bitsL_len (x k : Nat) : (bitsL x k).length = pop k x := (pop_list x k).symm
theorem bitsL_zero (k : Nat) : bitsL 0 k = [] := by
  unfold bitsL
  rw [List.filter_eq_nil_iff]
  intro a _
  simp
theorem bitsL_le (x k : Nat) : (bitsL x k).length ≤ k := by
  rw [bitsL_len]
  exact pop_le k x

theorem low_bits (k m i : Nat) (h : i < k) : (2 ^ k * (2 * m + 1)).testBit i = false := by
  rw [Nat.mul_comm, Nat.testBit_mul_two_pow]
  simp; omega
theorem at_bit (k m : Nat) : (2 ^ k * (2 * m + 1)).testBit k = true := by
  rw [Nat.mul_comm, Nat.testBit_mul_two_pow]
  simp [Nat.testBit_zero]
/-- Clearing the lowest set bit. -/
theorem clear_low (k m i : Nat) : ((2 ^ k * (2 * m + 1)) &&& (2 ^ k * (2 * m + 1) - 1)).testBit i = ((2 ^ k * (2 * m + 1)).testBit i && decide (i ≠ k)) := by
  have e : (2 ^ k * (2 * m + 1)) - 1 = 2 ^ (k + 1) * m + (2 ^ k - 1) := by
    have h1 := Nat.two_pow_pos k
    rw [Nat.pow_succ, Nat.mul_add, Nat.mul_one, Nat.mul_assoc]
    omega
  rw [Nat.testBit_and]
  by_cases hk : i < k
  · rw [low_bits k m i hk]; rfl
  · by_cases he : i = k
    · subst he
      have : (2 ^ i * (2 * m + 1) - 1).testBit i = false := by
        rw [e, Nat.testBit_two_pow_mul_add _ (Nat.lt_of_lt_of_le (Nat.sub_lt (Nat.two_pow_pos _) (by omega)) (Nat.pow_le_pow_right (by omega) (by omega)))]
        rw [if_pos (by omega), Nat.testBit_two_pow_sub_one]
        simp
      rw [this]
      simp
    · have hi : k + 1 ≤ i := by omega
      obtain ⟨d, rfl⟩ : ∃ d, i = d + (k + 1) := ⟨i - (k + 1), by omega⟩
      have h1 : (2 ^ k * (2 * m + 1) - 1).testBit (d + (k + 1)) = m.testBit d := by
        rw [e, Nat.testBit_two_pow_mul_add _ (Nat.lt_of_lt_of_le (Nat.sub_lt (Nat.two_pow_pos _) (by omega)) (Nat.pow_le_pow_right (by omega) (by omega)))]
        rw [if_neg (by omega), Nat.add_sub_cancel]
      have h2 : (2 ^ k * (2 * m + 1)).testBit (d + (k + 1)) = m.testBit d := by
        rw [Nat.mul_comm, Nat.testBit_mul_two_pow]
        have e1 : d + (k + 1) - k = d + 1 := by omega
        rw [e1, Nat.testBit_succ]
        have e2 : (2 * m + 1) / 2 = m := by omega
        rw [e2]
        simp; omega
      rw [h1, h2]
      have : decide (d + (k + 1) ≠ k) = true := by simp; omega
      rw [this]
      cases m.testBit d <;> rfl

/-- The list begins with the lowest set bit; what is left is the list of what is left. -/
theorem bitsL_step (x n : Nat) (hx : x < 2 ^ n) (h0 : x ≠ 0) : bitsL x n = Lib.ctz n x :: bitsL (x &&& (x - 1)) n ∧ Lib.ctz n x < n ∧ x &&& (x - 1) < x := by
  obtain ⟨m, hm, hk⟩ := Lib.ctzFrom_spec n x (by omega) hx
  have hc : Lib.ctz n x = Lib.ctzFrom n x := if_neg h0
  rw [hc]
  generalize Lib.ctzFrom n x = k at hm hk
  refine ⟨?_, hk, ?_⟩
  · have hs : List.range n = List.range' 0 k ++ k :: List.range' (k + 1) (n - k - 1) := by
      rw [List.range_eq_range']
      have : n = k + (1 + (n - k - 1)) := by omega
      conv => lhs; rw [this, ← List.range'_append_1, ← List.range'_append_1]
      simp [List.range'_succ]
    unfold bitsL
    rw [hs, List.filter_append, List.filter_append, List.filter_cons, List.filter_cons]
    have f1 : (List.range' 0 k).filter (fun i => x.testBit i) = [] := by
      rw [List.filter_eq_nil_iff]
      intro i hi
      have : i < k := by simp [List.mem_range'_1] at hi; omega
      rw [hm, low_bits k m i this]
      simp
    have f2 : (List.range' 0 k).filter (fun i => (x &&& (x - 1)).testBit i) = [] := by
      rw [List.filter_eq_nil_iff]
      intro i hi
      have : i < k := by simp [List.mem_range'_1] at hi; omega
      rw [hm, clear_low, low_bits k m i this]
      simp
    have t1 : x.testBit k = true := by rw [hm]; exact at_bit k m
    have t2 : (x &&& (x - 1)).testBit k = false := by rw [hm, clear_low]; simp
    rw [f1, f2, t1, t2]
    simp only [List.nil_append, if_true, Bool.false_eq_true, if_false, List.cons.injEq, true_and]
    apply List.filter_congr
    intro i hi
    have : k < i := by simp [List.mem_range'_1] at hi; omega
    rw [hm, clear_low]
    have : decide (i ≠ k) = true := by simp; omega
    rw [this, Bool.and_true]
  · have : x &&& (x - 1) ≤ x - 1 := Nat.and_le_right
    omega
end Go.Proofs.YtnmekghjkajhcaaDoor
