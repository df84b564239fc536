/-
  The list of a set's squares: its parts of the two words, its first and last, and the set of it: plain facts on numbers.
-/
import Derived.Test.YtnmekghjkajhcaaDoorBitList
import Derived.Test.YtnmekghjkajhcaaDoorReal
namespace Go.Proofs.YtnmekghjkajhcaaDoor

def sqI (n : Nat) : List Int := (bitsL n 81).map (fun (i : Nat) => (i : Int))
theorem sqI_len (n : Nat) : (sqI n).length = pop 81 n := by rw [sqI, List.length_map, bitsL_len]
theorem sqI_le (n : Nat) : (sqI n).length ≤ 81 := by rw [sqI_len]; exact pop_le 81 n

theorem bitsL_split (n : Nat) (h : Sq n) : bitsL (n % 9223372036854775808) 64 ++ (bitsL (n / 9223372036854775808) 64).map (fun i => i + 63) = bitsL n 81 := by
  unfold bitsL
  have e1 : (List.range 64).filter (fun i => (n % 9223372036854775808).testBit i) = (List.range 63).filter (fun i => n.testBit i) := by
    rw [List.range_succ, List.filter_append]
    have t : (n % 9223372036854775808).testBit 63 = false := by rw [pow63, Nat.testBit_mod_two_pow]; simp
    simp only [List.filter_cons, t, List.filter_nil, Bool.false_eq_true, if_false, List.append_nil]
    apply List.filter_congr
    intro i hi
    have : i < 63 := by simpa using hi
    rw [pow63, Nat.testBit_mod_two_pow]
    simp [this]
  have e2 : (List.range 64).filter (fun i => (n / 9223372036854775808).testBit i) = (List.range 18).filter (fun i => (n / 9223372036854775808).testBit i) := by
    have : (64 : Nat) = 18 + 46 := rfl
    rw [this, List.range_add, List.filter_append]
    have f : ((List.range 46).map (fun x => 18 + x)).filter (fun i => (n / 9223372036854775808).testBit i) = [] := by
      rw [List.filter_eq_nil_iff]
      intro i hi
      obtain ⟨d, _, rfl⟩ := List.mem_map.1 hi
      have : (n / 9223372036854775808).testBit (18 + d) = false := Nat.testBit_lt_two_pow (Nat.lt_of_lt_of_le h.hi (by rw [show (262144 : Nat) = 2 ^ 18 by decide]; exact Nat.pow_le_pow_right (by omega) (by omega)))
      rw [this]
      simp
    rw [f, List.append_nil]
  rw [e1, e2, show (81 : Nat) = 63 + 18 from rfl, List.range_add, List.filter_append]
  congr 1
  rw [List.filter_map]
  have c : ((fun i => n.testBit i) ∘ fun x => 63 + x) = (fun i => (n / 9223372036854775808).testBit i) := by
    funext i
    simp only [Function.comp_apply]
    rw [pow63, Nat.testBit_div_two_pow, Nat.add_comm]
  rw [c]
  apply List.map_congr_left
  intro i _
  omega

theorem one_test (q : Int) (i : Nat) : (oneN q).testBit i = decide (q = (i : Int) ∧ i < 81) := by
  unfold oneN
  by_cases h : 0 ≤ q ∧ q < 81
  · rw [if_pos h, Nat.testBit_two_pow]
    by_cases e : q.toNat = i
    · have : q = (i : Int) ∧ i < 81 := by omega
      simp [this]
    · have : ¬ (q = (i : Int) ∧ i < 81) := by omega
      simp [e, this]
  · rw [if_neg h]
    have : ¬ (q = (i : Int) ∧ i < 81) := by omega
    simp [this]
theorem foldl_test (i : Nat) : ∀ (l : List Int) (s : Nat), (l.foldl (fun n q => n ||| oneN q) s).testBit i = (s.testBit i || decide (((i : Int) ∈ l) ∧ i < 81))
  | [], s => by simp
  | q :: l, s => by
    rw [List.foldl_cons, foldl_test i l, Nat.testBit_or, one_test, Bool.eq_iff_iff]
    simp only [Bool.or_eq_true, decide_eq_true_eq, List.mem_cons]
    constructor
    · rintro ((h | ⟨h1, h2⟩) | ⟨h1, h2⟩)
      · exact Or.inl h
      · exact Or.inr ⟨Or.inl h1.symm, h2⟩
      · exact Or.inr ⟨Or.inr h1, h2⟩
    · rintro (h | ⟨h1 | h1, h2⟩)
      · exact Or.inl (Or.inl h)
      · exact Or.inl (Or.inr ⟨h1.symm, h2⟩)
      · exact Or.inr ⟨h1, h2⟩
theorem ofN_test (l : List Int) (i : Nat) : (ofN l).testBit i = decide (((i : Int) ∈ l) ∧ i < 81) := by
  unfold ofN
  rw [foldl_test]
  simp
theorem mem_sqI (n i : Nat) : ((i : Int) ∈ sqI n) ↔ (i < 81 ∧ n.testBit i = true) := by
  unfold sqI bitsL
  simp only [List.mem_map, List.mem_filter, List.mem_range]
  constructor
  · rintro ⟨j, ⟨h1, h2⟩, h3⟩
    obtain rfl : j = i := by omega
    exact ⟨h1, h2⟩
  · rintro ⟨h1, h2⟩
    exact ⟨i, ⟨h1, h2⟩, rfl⟩
theorem ofN_sqI (n : Nat) (h : Sq n) : ofN (sqI n) = n := by
  apply Nat.eq_of_testBit_eq
  intro i
  rw [ofN_test, Bool.eq_iff_iff]
  simp only [decide_eq_true_eq, mem_sqI]
  constructor
  · rintro ⟨⟨_, h2⟩, _⟩
    exact h2
  · intro ht
    have hi : i < 81 := by
      apply Classical.byContradiction
      intro hc
      rw [test_sq h i (by omega)] at ht
      exact absurd ht (by simp)
    exact ⟨⟨hi, ht⟩, hi⟩

theorem sqI_nil (n : Nat) (h : Sq n) : sqI n = [] ↔ n = 0 := by
  constructor
  · intro e
    have := ofN_sqI n h
    rw [e] at this
    exact this.symm
  · rintro rfl
    unfold sqI
    rw [bitsL_zero]
    rfl

theorem first_sq (n : Nat) (h : Sq n) (h0 : n ≠ 0) : (sqI n).head? = some (firstF n) := by
  unfold sqI firstF
  rw [← bitsL_split n h]
  have hh := h.hi
  have hl := lo_lt n
  by_cases c : n % 9223372036854775808 = 0
  · have d : n / 9223372036854775808 ≠ 0 := by omega
    rw [c, bitsL_zero, List.nil_append, (bitsL_step (n / 9223372036854775808) 64 (by omega) d).1]
    rw [if_neg (by simp), if_pos d]
    simp
    omega
  · rw [(bitsL_step (n % 9223372036854775808) 64 (by omega) c).1, if_pos c]
    simp

theorem top_bit : ∀ (f x : Nat), f ≤ 64 → x < 2 ^ f → x ≠ 0 → 1 ≤ Lib.bitLen x ∧ x.testBit (Lib.bitLen x - 1) = true ∧ ∀ i, Lib.bitLen x ≤ i → x.testBit i = false
  | 0, x, _, hx, h0 => by simp at hx; omega
  | f + 1, x, hf, hx, h0 => by
    have hx64 : x < 2 ^ 64 := Nat.lt_of_lt_of_le hx (Nat.pow_le_pow_right (by omega) hf)
    have e := Lib.bitLen_half x h0 hx64
    by_cases c : x / 2 = 0
    · have hx1 : x = 1 := by omega
      subst hx1
      have : Lib.bitLen 1 = 1 := by decide
      rw [this]
      refine ⟨by omega, rfl, fun i hi => ?_⟩
      exact Nat.testBit_lt_two_pow (Nat.lt_of_lt_of_le (by omega) (Nat.pow_le_pow_right (show 0 < 2 by omega) hi))
    · have ih := top_bit f (x / 2) (by omega) (by rw [Nat.pow_succ] at hx; omega) c
      obtain ⟨i1, i2, i3⟩ := ih
      rw [e]
      refine ⟨by omega, ?_, fun i hi => ?_⟩
      · have : 1 + Lib.bitLen (x / 2) - 1 = (Lib.bitLen (x / 2) - 1) + 1 := by omega
        rw [this, Nat.testBit_succ]
        exact i2
      · obtain ⟨d, rfl⟩ : ∃ d, i = d + 1 := ⟨i - 1, by omega⟩
        rw [Nat.testBit_succ]
        exact i3 d (by omega)

theorem last_top (n : Nat) (h : Sq n) (h0 : n ≠ 0) : ∃ p : Nat, lastF n = p ∧ p < 81 ∧ n.testBit p = true ∧ ∀ i, p < i → n.testBit i = false := by
  unfold lastF
  have hh := h.hi
  have hl := lo_lt n
  by_cases d : n / 9223372036854775808 = 0
  · have c : n % 9223372036854775808 ≠ 0 := by omega
    have hn : n % 9223372036854775808 = n := by omega
    rw [if_neg (by simpa using d), hn]
    obtain ⟨t1, t2, t3⟩ := top_bit 64 n (by omega) (by omega) h0
    have t4 := bitLen_le64 n
    exact ⟨Lib.bitLen n - 1, by omega, by omega, t2, fun i hi => t3 i (by omega)⟩
  · rw [if_pos d]
    obtain ⟨t1, t2, t3⟩ := top_bit 18 (n / 9223372036854775808) (by omega) (by omega) d
    have t5 : Lib.bitLen (n / 9223372036854775808) ≤ 18 := by
      apply Classical.byContradiction
      intro hc
      have := Nat.testBit_lt_two_pow (x := n / 9223372036854775808) (i := Lib.bitLen (n / 9223372036854775808) - 1) (Nat.lt_of_lt_of_le hh (by rw [show (262144 : Nat) = 2 ^ 18 by decide]; exact Nat.pow_le_pow_right (by omega) (by omega)))
      rw [this] at t2
      exact absurd t2 (by simp)
    have hb : ∀ j, n.testBit (j + 63) = (n / 9223372036854775808).testBit j := by
      intro j
      rw [pow63, Nat.testBit_div_two_pow]
    refine ⟨Lib.bitLen (n / 9223372036854775808) - 1 + 63, by omega, by omega, ?_, fun i hi => ?_⟩
    · rw [hb]; exact t2
    · obtain ⟨j, rfl⟩ : ∃ j, i = j + 63 := ⟨i - 63, by omega⟩
      rw [hb]
      exact t3 j (by omega)
theorem last_sq (n : Nat) (h : Sq n) (h0 : n ≠ 0) : ∃ l, sqI n = l ++ [lastF n] := by
  obtain ⟨p, hp, hp81, ht, ha⟩ := last_top n h h0
  rw [hp]
  have hs : List.range 81 = List.range p ++ p :: (List.range (81 - p - 1)).map (fun x => p + 1 + x) := by
    have e : (81 : Nat) = p + 1 + (81 - p - 1) := by omega
    conv => lhs; rw [e, List.range_add, List.range_succ]
    simp
  refine ⟨((List.range p).filter (fun i => n.testBit i)).map (fun (i : Nat) => (i : Int)), ?_⟩
  unfold sqI bitsL
  rw [hs, List.filter_append, List.filter_cons, ht]
  have f : ((List.range (81 - p - 1)).map (fun x => p + 1 + x)).filter (fun i => n.testBit i) = [] := by
    rw [List.filter_eq_nil_iff]
    intro i hi
    obtain ⟨d, _, rfl⟩ := List.mem_map.1 hi
    rw [ha _ (by omega)]
    simp
  rw [f]
  simp
end Go.Proofs.YtnmekghjkajhcaaDoor
