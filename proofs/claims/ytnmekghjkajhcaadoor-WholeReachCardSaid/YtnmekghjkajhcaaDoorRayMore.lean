/-
  More plain facts on ways and what pieces reach (no program is named here): for RayWays, RayTurns and WholeReach.
-/
import Derived.Test.YtnmekghjkajhcaaDoorLine
namespace Go.Proofs.YtnmekghjkajhcaaDoor
open Go.RowKit
set_option linter.unusedVariables false
set_option linter.unusedSimpArgs false

/-! ### RayWays -/
theorem zero_of_bits {n : Nat} (h : ∀ i, n.testBit i = false) : n = 0 := by
  apply Nat.eq_of_testBit_eq
  intro i
  rw [h i, Nat.zero_testBit]
theorem way_less (n m : Nat) (hnm : ∀ i, m.testBit i = true → n.testBit i = true) (q : Int) (d : Int × Int) : minusN (wayN q d n) (wayN q d m) = 0 := by
  apply zero_of_bits
  intro i
  rw [test_minus]
  cases h : (wayN q d n).testBit i with
  | false => rfl
  | true => rw [wayN_more n m hnm q d i h]; rfl
theorem pop_one_le (n : Nat) : ∀ k, (∀ i j, i < k → j < k → n.testBit i = true → n.testBit j = true → i = j) → pop k n ≤ 1
  | 0, _ => Nat.zero_le _
  | k + 1, h => by
    unfold pop
    by_cases h0 : n.testBit 0 = true
    · have hz : pop k (n / 2) = 0 := by
        have : ∀ (j x : Nat), (∀ i, i < j → x.testBit i = false) → pop j x = 0 := by
          intro j
          induction j with
          | zero => intro x _; rfl
          | succ j ih =>
            intro x hx
            unfold pop
            have e0 := hx 0 (by omega)
            rw [Nat.testBit_zero] at e0
            have e1 : x % 2 = 0 := by
              have := of_decide_eq_false e0
              omega
            rw [e1, ih (x / 2) (fun i hi => by
              have := hx (i + 1) (by omega)
              rwa [Nat.testBit_succ] at this)]
        apply this
        intro i hi
        cases hb : (n / 2).testBit i with
        | false => rfl
        | true =>
          have h2 : n.testBit (i + 1) = true := by rw [Nat.testBit_succ]; exact hb
          have := h 0 (i + 1) (by omega) (by omega) h0 h2
          omega
      rw [hz]
      omega
    · have e1 : n % 2 = 0 := by
        rw [Nat.testBit_zero] at h0
        have := of_decide_eq_false (by simpa using h0 : decide (n % 2 = 1) = false)
        omega
      have := pop_one_le (n / 2) k (fun i j hi hj a b => by
        have := h (i + 1) (j + 1) (by omega) (by omega) (by rw [Nat.testBit_succ]; exact a) (by rw [Nat.testBit_succ]; exact b)
        omega)
      omega
/-- A way has at most one taken square: its last. -/
theorem wayL_one (n : Nat) (d : Int × Int) : ∀ (f : Nat) (t : Int), ∀ u ∈ wayL n d f t, ∀ v ∈ wayL n d f t, n.testBit u.toNat = true → n.testBit v.toNat = true → u = v
  | 0, t, u, hu, _, _, _, _ => by cases hu
  | f + 1, t, u, hu, v, hv, a, b => by
    unfold wayL at hu hv
    by_cases h : t < 0
    · rw [if_pos h] at hu
      cases hu
    · rw [if_neg h] at hu hv
      by_cases hb : n.testBit t.toNat = true
      · rw [if_pos hb] at hu hv
        rw [List.mem_singleton.1 hu, List.mem_singleton.1 hv]
      · rw [if_neg hb] at hu hv
        rcases List.mem_cons.1 hu with rfl | hu
        · exact absurd a hb
        · rcases List.mem_cons.1 hv with rfl | hv
          · exact absurd b hb
          · exact wayL_one n d f _ u hu v hv a b
theorem way_taken (q : Int) (d : Int × Int) (n : Nat) : pop 81 (wayN q d n &&& n) ≤ 1 := by
  apply pop_one_le
  intro i j hi hj a b
  rw [Nat.testBit_and, Bool.and_eq_true] at a b
  unfold wayN at a b
  by_cases h : d.1 = 0 ∧ d.2 = 0
  · rw [if_pos h, Nat.zero_testBit] at a
    exact absurd a.1 (by decide)
  · rw [if_neg h, ofN_test, decide_eq_true_eq] at a b
    have := wayL_one n d 9 _ _ a.1.1 _ b.1.1 (by simpa using a.2) (by simpa using b.2)
    omega
/-- From each square of a way the same way turned about leads back to the one ahead. -/
theorem from_back (d : Int × Int) (p : Int) (h1 : I64 d.1) (h2 : I64 d.2) (h : 0 ≤ fromF d p) : fromF (wrap64 (-d.1), wrap64 (-d.2)) (fromF d p) = p ∧ 0 ≤ p ∧ p < 81 := by
  rcases from_where d p h1 h2 with e | ⟨a, b, c, e, f, g⟩
  · omega
  · have w1 : wrap64 (-d.1) = -d.1 := by unfold wrap64; omega
    have w2 : wrap64 (-d.2) = -d.2 := by unfold wrap64; omega
    rw [w1, w2]
    refine ⟨?_, a, b⟩
    rw [fromF_eq (-d.1, -d.2) (fromF d p) p ⟨c, e⟩ ⟨a, b⟩ ⟨by show -100 ≤ -d.1; omega, by show -d.1 ≤ 100; omega⟩ ⟨by show -100 ≤ -d.2; omega, by show -d.2 ≤ 100; omega⟩]
    exact ⟨by show _ = -d.1; omega, by show _ = -d.2; omega⟩
theorem wayL_back (n : Nat) (d : Int × Int) (h1 : I64 d.1) (h2 : I64 d.2) : ∀ (f : Nat) (p : Int), ∀ x ∈ wayL n d f (fromF d p), fromF (wrap64 (-d.1), wrap64 (-d.2)) x = p ∨ fromF (wrap64 (-d.1), wrap64 (-d.2)) x ∈ wayL n d f (fromF d p)
  | 0, p, x, hx => by cases hx
  | f + 1, p, x, hx => by
    unfold wayL at hx ⊢
    by_cases h : fromF d p < 0
    · rw [if_pos h] at hx
      cases hx
    · rw [if_neg h] at hx ⊢
      rcases List.mem_cons.1 hx with rfl | hx
      · exact .inl (from_back d p h1 h2 (by omega)).1
      · by_cases hb : n.testBit (fromF d p).toNat = true
        · rw [if_pos hb] at hx
          cases hx
        · rw [if_neg hb] at hx ⊢
          rcases wayL_back n d h1 h2 f (fromF d p) x hx with h3 | h3
          · exact .inr (by rw [h3]; exact List.mem_cons_self)
          · exact .inr (List.mem_cons_of_mem _ h3)
theorem way_back (q : Int) (d : Int × Int) (n i : Nat) (h1 : I64 d.1) (h2 : I64 d.2) (h : (wayN q d n).testBit i = true) :
    fromF (wrap64 (-d.1), wrap64 (-d.2)) i = q ∨ (0 ≤ fromF (wrap64 (-d.1), wrap64 (-d.2)) i ∧ fromF (wrap64 (-d.1), wrap64 (-d.2)) i < 81 ∧ (wayN q d n).testBit (fromF (wrap64 (-d.1), wrap64 (-d.2)) i).toNat = true) := by
  unfold wayN at h ⊢
  by_cases hd : d.1 = 0 ∧ d.2 = 0
  · rw [if_pos hd, Nat.zero_testBit] at h
    exact absurd h (by decide)
  · rw [if_neg hd] at h ⊢
    rw [ofN_test, decide_eq_true_eq] at h
    rcases wayL_back n d h1 h2 9 q i h.1 with h3 | h3
    · exact .inl h3
    · right
      have hw := from_where d q h1 h2
      have hm := wayL_mem n d h1 h2 hd 9 _ (by omega) _ h3
      refine ⟨hm.1, hm.2.1, ?_⟩
      rw [ofN_test, decide_eq_true_eq]
      refine ⟨?_, by omega⟩
      rw [show (((fromF (wrap64 (-d.1), wrap64 (-d.2)) (i : Int)).toNat : Nat) : Int) = fromF (wrap64 (-d.1), wrap64 (-d.2)) (i : Int) by omega]
      exact h3

/-! ### RayTurns -/
theorem between_turn : ∀ a : Nat, a < 81 → ∀ b : Nat, b < 81 → betweenL (80 - (a : Int)) (80 - (b : Int)) = (betweenL a b).map (fun u => 80 - u) ∧ betweenL b a = (betweenL a b).reverse ∧ lineF (80 - (a : Int)) (80 - (b : Int)) = lineF a b ∧ lineF b a = lineF a b := by decide +kernel
theorem free_turn (a b : Nat) (ha : a < 81) (hb : b < 81) (n m : Nat) (hm : ∀ i, i < 81 → m.testBit (80 - i) = n.testBit i) (hin : ∀ u ∈ betweenL a b, 0 ≤ u ∧ u < 81) : freeF (80 - (a : Int)) (80 - (b : Int)) m = freeF a b n := by
  unfold freeF
  rw [(between_turn a ha b hb).1, List.all_map]
  rw [Bool.eq_iff_iff, List.all_eq_true, List.all_eq_true]
  constructor
  · intro h u hu
    have := h u hu
    have hi := hin u hu
    simp only [Function.comp] at this
    rw [show (80 - u).toNat = 80 - u.toNat by omega, hm u.toNat (by omega)] at this
    exact this
  · intro h u hu
    have := h u hu
    have hi := hin u hu
    simp only [Function.comp]
    rw [show (80 - u).toNat = 80 - u.toNat by omega, hm u.toNat (by omega)]
    exact this
theorem free_back (a b : Nat) (ha : a < 81) (hb : b < 81) (n : Nat) : freeF b a n = freeF a b n := by
  unfold freeF
  rw [(between_turn a ha b hb).2.1, List.all_reverse]
theorem slides_turn (k : Int) (hk : 1 ≤ k ∧ k ≤ 15) (a b : Nat) (ha : a < 81) (hb : b < 81) : slidesF (k + 16) (80 - (a : Int)) (80 - (b : Int)) = slidesF k a b := by
  have hl := (between_turn a ha b hb).2.2.1
  have h0 : kindF (k + 16) = kindF k ∧ (k = 13 ∨ (sideF (k + 16) = 1 ∧ sideF k = 0)) := by
    by_cases h13 : k = 13
    · subst h13
      exact ⟨by decide +kernel, .inl rfl⟩
    · have e1 := kind_at 1 k (.inr rfl) hk h13
      have e0 := kind_at 0 k (.inl rfl) hk h13
      rw [show 16 * 1 + k = k + 16 by omega] at e1
      rw [show 16 * 0 + k = k by omega] at e0
      exact ⟨e1.1.trans e0.1.symm, .inr ⟨e1.2, e0.2⟩⟩
  unfold slidesF
  rw [h0.1, hl]
  by_cases k2 : kindF k = 2
  · rw [if_pos k2, if_pos k2]
    have hs : sideF (k + 16) = 1 ∧ sideF k = 0 := by
      rcases h0.2 with h | h
      · subst h
        exact absurd k2 (by decide +kernel)
      · exact h
    have e1 : ((80 - (a : Int)) / 9 = (80 - (b : Int)) / 9) ↔ ((a : Int) / 9 = (b : Int) / 9) := by omega
    have e2 : (0 < aheadF (sideF (k + 16)) (80 - (a : Int)) (80 - (b : Int))) ↔ (0 < aheadF (sideF k) a b) := by
      rw [hs.1, hs.2]
      unfold aheadF
      rw [if_pos rfl, if_neg (by decide)]
      omega
    rw [decide_eq_decide.2 e1, decide_eq_decide.2 e2]
  · rw [if_neg k2, if_neg k2]
/-- WHITE's REACH IS BLACK's, TURNED ABOUT. -/
theorem ray_turn (k : Int) (hk : 1 ≤ k ∧ k ≤ 15) (q t : Nat) (hq : q < 81) (ht : t < 81) (n m : Nat) (hm : ∀ i, i < 81 → m.testBit (80 - i) = n.testBit i) (hin : ∀ u ∈ betweenL q t, 0 ≤ u ∧ u < 81) :
    (rayN (k + 16) (80 - (q : Int)) m).testBit (80 - t) = (rayN k q n).testBit t := by
  have h1 := ray_test (k + 16) (80 - q) (80 - t) (by omega) (by omega) m
  rw [show ((80 - q : Nat) : Int) = 80 - (q : Int) by omega, show ((80 - t : Nat) : Int) = 80 - (t : Int) by omega] at h1
  rw [h1, ray_test k q t hq ht n]
  unfold reachF
  rw [slides_turn k hk q t hq ht, free_turn q t hq ht n m hm hin]
  congr 1
  have s1 := stepN_test (k + 16) (80 - (q : Int)) (80 - t) (by omega)
  have s0 := stepN_test k q t ht
  rw [show ((80 - t : Nat) : Int) = 80 - (t : Int) by omega] at s1
  rw [← s1, ← s0]
  exact turn_test k q hk ⟨by omega, by omega⟩ t ht
/-- Sliding pieces and kings reach back. -/
theorem ray_back (k : Int) (hk : k = 6 ∨ k = 7 ∨ k = 8 ∨ k = 14 ∨ k = 15) (q t : Nat) (hq : q < 81) (ht : t < 81) (n : Nat) (h : (rayN k q n).testBit t = true) : (rayN k t n).testBit q = true := by
  rw [ray_test k q t hq ht n] at h
  rw [ray_test k t q ht hq n]
  unfold reachF at h ⊢
  rw [free_back q t hq ht n]
  have hl := (between_turn q hq t ht).2.2.2
  have hs : slidesF k t q = slidesF k q t := by
    unfold slidesF
    rw [hl]
    rcases hk with rfl | rfl | rfl | rfl | rfl
    · rw [show kindF 6 = 6 by decide +kernel]; rfl
    · rw [show kindF 7 = 7 by decide +kernel]; rfl
    · rw [show kindF 8 = 8 by decide +kernel]; rfl
    · rw [show kindF 14 = 14 by decide +kernel]; rfl
    · rw [show kindF 15 = 15 by decide +kernel]; rfl
  have hst : refStepF k t q = refStepF k q t := by
    unfold refStepF
    by_cases c : (q : Int) < 0 ∨ 80 < (q : Int) ∨ (t : Int) < 0 ∨ 80 < (t : Int) ∨ (q : Int) = t
    · rw [if_pos c, if_pos (by omega)]
    · rw [if_neg c, if_neg (by omega)]
      have e1 : sizeF ((q : Int) / 9 - (t : Int) / 9) = sizeF ((t : Int) / 9 - (q : Int) / 9) := by
        unfold sizeF
        repeat' split
        all_goals omega
      rw [e1]
      have e2 : aheadF (sideF k) t q = -aheadF (sideF k) q t := by
        unfold aheadF
        split <;> omega
      rw [e2]
      generalize sizeF ((t : Int) / 9 - (q : Int) / 9) = f
      generalize aheadF (sideF k) q t = u
      rcases hk with rfl | rfl | rfl | rfl | rfl
      · rw [show kindF 6 = 6 by decide +kernel]; rfl
      · rw [show kindF 7 = 7 by decide +kernel]; rfl
      all_goals
        first
          | rw [show kindF 8 = 8 by decide +kernel]
          | rw [show kindF 14 = 14 by decide +kernel]
          | rw [show kindF 15 = 15 by decide +kernel]
        have e3 : sizeF (-u) = sizeF u := by
          unfold sizeF
          repeat' split
          all_goals omega
        unfold kindStep
        simp [e3]
  rw [hs, hst]
  exact h
end Go.Proofs.YtnmekghjkajhcaaDoor
