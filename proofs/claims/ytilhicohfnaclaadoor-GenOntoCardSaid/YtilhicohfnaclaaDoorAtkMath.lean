/-
  Who attacks what, as plain functions on numbers (no program is named here): where a side's pieces stand that attack a square, told by kinds with the sides turned about, and told square by square.
-/
import Derived.Test.YtilhicohfnaclaaDoorLineAll
import Derived.Test.YtilhicohfnaclaaDoorBrdMath
namespace Go.Proofs.YtilhicohfnaclaaDoor
set_option maxRecDepth 100000
open Go.RowKit
set_option linter.unusedVariables false
set_option linter.unusedSimpArgs false

/-- Where the side's pieces of the kinds up to k stand that attack a square. -/
def onPart (z : List Int) (q s : Int) (n : Nat) : Nat → Nat
  | 0 => 0
  | k + 1 => onPart z q s n k ||| (pieceN z (ofF s ((k + 1 : Nat) : Int)) &&& rayN (ofF (1 - s) ((k + 1 : Nat) : Int)) q n)
def onN (z : List Int) (q s : Int) (n : Nat) : Nat := onPart z q s n 15
theorem onPart_sq (z : List Int) (q s : Int) (n : Nat) : ∀ k, Sq (onPart z q s n k)
  | 0 => Sq.zero
  | k + 1 => (onPart_sq z q s n k).or (pieceN_sq _ _).and
theorem onN_sq (z : List Int) (q s : Int) (n : Nat) : Sq (onN z q s n) := onPart_sq z q s n 15

theorem pieceN_zero (z : List Int) : pieceN z 0 = 0 := by
  apply zero_of_bits
  intro i
  unfold pieceN
  rw [where_test]
  unfold pieceB
  rw [kind_zero]
  simp
theorem onPart_none (z : List Int) (q s : Int) (n : Nat) (hs : ¬ (s = 0 ∨ s = 1)) : ∀ k, onPart z q s n k = 0
  | 0 => rfl
  | k + 1 => by
    unfold onPart
    have e : ofF s ((k + 1 : Nat) : Int) = 0 := by
      unfold ofF
      split
      · rfl
      · rw [if_neg (fun h => hs (.inl h)), if_neg (fun h => hs (.inr h))]
    rw [onPart_none z q s n hs k, e, pieceN_zero, Nat.zero_and, Nat.zero_or]
theorem onN_none (z : List Int) (q s : Int) (n : Nat) (hs : ¬ (s = 0 ∨ s = 1)) : onN z q s n = 0 := onPart_none z q s n hs 15

/-- From no square nothing is reached. -/
theorem stepN_out (p q : Int) (hq : ¬ (0 ≤ q ∧ q < 81)) : stepN p q = 0 := by
  apply eq_of_bits81 (stepN_sq p q) Sq.zero
  intro i hi
  rw [stepN_test p q i hi, Nat.zero_testBit]
  unfold refStepF
  rw [if_pos (by omega)]
theorem wayN_out (q : Int) (d : Int × Int) (n : Nat) (hq : ¬ (0 ≤ q ∧ q < 81)) : wayN q d n = 0 := by
  unfold wayN
  split
  · rfl
  · have e : fromF d q = -1 := if_neg hq
    rw [e]
    rfl
theorem rayN_out (p q : Int) (n : Nat) (hq : ¬ (0 ≤ q ∧ q < 81)) : rayN p q n = 0 := by
  apply zero_of_bits
  intro i
  rw [Bool.eq_false_iff]
  intro h
  rcases (rayN_test p q n i).1 h with h | ⟨j, hj, h⟩
  · rw [stepN_out p q hq, Nat.zero_testBit] at h
    cases h
  · rw [wayN_out _ _ _ hq, Nat.zero_testBit] at h
    cases h
theorem onPart_out (z : List Int) (q s : Int) (n : Nat) (hq : ¬ (0 ≤ q ∧ q < 81)) : ∀ k, onPart z q s n k = 0
  | 0 => rfl
  | k + 1 => by
    unfold onPart
    rw [onPart_out z q s n hq k, rayN_out _ _ _ hq, Nat.and_zero, Nat.zero_or]
theorem onN_out (z : List Int) (q s : Int) (n : Nat) (hq : ¬ (0 ≤ q ∧ q < 81)) : onN z q s n = 0 := onPart_out z q s n hq 15

/-- A PIECE REACHES A SQUARE JUST IF THE OTHER SIDE'S PIECE OF ITS KIND REACHES IT FROM THERE. -/
theorem ray_flip (s k : Int) (hs : s = 0 ∨ s = 1) (hk : 1 ≤ k ∧ k ≤ 15) (h13 : k ≠ 13) (q t n : Nat) (hq : q < 81) (ht : t < 81) :
    (rayN (16 * (1 - s) + k) q n).testBit t = (rayN (16 * s + k) t n).testBit q := by
  rw [reach_at (1 - s) k (by omega) hk h13 q t n hq ht, reach_at s k hs hk h13 t q n ht hq]
  rw [free_back q t hq ht n, (between_turn q hq t ht).2.2.2]
  have e1 : sizeF ((q : Int) / 9 - (t : Int) / 9) = sizeF ((t : Int) / 9 - (q : Int) / 9) := by unfold sizeF; split <;> split <;> omega
  have e2 : aheadF s t q = aheadF (1 - s) q t := by
    unfold aheadF
    rcases hs with rfl | rfl
    · rw [if_neg (by omega), if_pos (by omega)]; omega
    · rw [if_pos (by omega), if_neg (by omega)]; omega
  have e3 : decide ((t : Int) = q) = decide ((q : Int) = t) := decide_eq_decide.2 ⟨Eq.symm, Eq.symm⟩
  have e4 : decide ((t : Int) / 9 = (q : Int) / 9) = decide ((q : Int) / 9 = (t : Int) / 9) := decide_eq_decide.2 ⟨Eq.symm, Eq.symm⟩
  rw [e1, e2, e3, e4]
theorem of_at (s k : Int) (hs : s = 0 ∨ s = 1) (hk : rawF k ≠ 0) : ofF s k = 16 * s + k := by
  unfold ofF
  rw [if_neg hk]
  rcases hs with rfl | rfl
  · rw [if_pos rfl]; omega
  · rw [if_neg (by omega), if_pos rfl]; omega
theorem onPart_test (z : List Int) (q s : Int) (n i : Nat) : ∀ k, (onPart z q s n k).testBit i = true ↔ ∃ j : Nat, 1 ≤ j ∧ j ≤ k ∧ (pieceN z (ofF s j)).testBit i = true ∧ (rayN (ofF (1 - s) j) q n).testBit i = true
  | 0 => by
    unfold onPart
    rw [Nat.zero_testBit]
    constructor
    · intro h; cases h
    · rintro ⟨j, h1, h2, -⟩; omega
  | k + 1 => by
    unfold onPart
    rw [Nat.testBit_or, Nat.testBit_and, Bool.or_eq_true, Bool.and_eq_true, onPart_test z q s n i k]
    constructor
    · rintro (⟨j, h1, h2, h3⟩ | h)
      · exact ⟨j, h1, by omega, h3⟩
      · exact ⟨k + 1, by omega, Nat.le_refl _, h⟩
    · rintro ⟨j, h1, h2, h3⟩
      by_cases e : j = k + 1
      · subst e; exact .inr h3
      · exact .inl ⟨j, h1, by omega, h3⟩
/-- WHO ATTACKS A SQUARE, SQUARE BY SQUARE. -/
theorem on_test (z : List Int) (q : Nat) (s : Int) (n i : Nat) (hs : s = 0 ∨ s = 1) (hq : q < 81) (hi : i < 81) :
    (onN z q s n).testBit i = (decide (sideF (at8 z i) = s) && (rayN (at8 z i) i n).testBit q) := by
  rw [Bool.eq_iff_iff, Bool.and_eq_true, decide_eq_true_eq]
  unfold onN
  rw [onPart_test]
  have hk := kind_side (at8 z i)
  constructor
  · rintro ⟨j, h1, h2, h3, h4⟩
    unfold pieceN pieceB at h3
    rw [where_test, Bool.and_eq_true, Bool.and_eq_true, decide_eq_true_eq] at h3
    obtain ⟨-, h3, h5⟩ := h3
    rw [Bool.not_eq_true', decide_eq_false_iff_not] at h5
    rw [decide_eq_true_eq] at h3
    have hr : rawF (j : Int) ≠ 0 := by
      intro e
      apply h5
      have e0 : ofF s j = 0 := if_pos e
      rw [e0, kind_zero]
    have h13 : (j : Int) ≠ 13 := by
      rintro e
      rw [e] at hr
      exact hr (by decide)
    rw [of_at s j hs hr] at h3
    rw [of_at (1 - s) j (by omega) hr, ray_flip s j hs (by omega) h13 q i n hq hi, ← h3] at h4
    refine ⟨?_, h4⟩
    rw [h3]
    exact (kind_at s j hs (by omega) h13).2
  · rintro ⟨h1, h2⟩
    obtain ⟨j, hj⟩ : ∃ j : Nat, kindF (at8 z i) = j := ⟨(kindF (at8 z i)).toNat, by omega⟩
    have hx : at8 z i = 16 * s + j := by omega
    have hr := rawF_cases (j : Int)
    have hk13 : (j : Int) ≠ 13 := by
      intro e
      rw [e] at hx
      have := kind_13 s hs
      rw [← hx] at this
      omega
    have hr0 : rawF (j : Int) ≠ 0 := by omega
    refine ⟨j, by omega, by omega, ?_, ?_⟩
    · unfold pieceN pieceB
      rw [where_test, of_at s j hs hr0, ← hx, decide_eq_true hi, decide_eq_true rfl]
      have hkn : kindF (at8 z i) ≠ 0 := by omega
      rw [decide_eq_false hkn]
      rfl
    · rw [of_at (1 - s) j (by omega) hr0, ray_flip s j hs (by omega) hk13 q i n hq hi, ← hx]
      exact h2

/-! The document's answer: a list of squares. -/
def onB (z : List Int) (q s : Int) (n : Nat) (i : Nat) : Bool := decide (sideF (at8 z i) = s) && reachF (at8 z i) i q n
def onL (z : List Int) (q s : Int) (n : Nat) (k : Nat) : List Int := ((List.range k).filter (onB z q s n)).map (fun (i : Nat) => (i : Int))
theorem onL_step (z : List Int) (q s : Int) (n k : Nat) : onL z q s n (k + 1) = if onB z q s n k = true then onL z q s n k ++ [(k : Int)] else onL z q s n k := by
  unfold onL
  rw [List.range_succ, List.filter_append, List.map_append]
  by_cases h : onB z q s n k = true
  · rw [if_pos h]; simp [h]
  · rw [if_neg h]; simp [h]
theorem onL_len (z : List Int) (q s : Int) (n k : Nat) : (onL z q s n k).length ≤ k := by
  unfold onL
  rw [List.length_map]
  have h := List.length_filter_le (onB z q s n) (List.range k)
  rwa [List.length_range] at h
theorem onL_mem (z : List Int) (q s : Int) (n k i : Nat) : ((i : Int) ∈ onL z q s n k) ↔ (i < k ∧ onB z q s n i = true) := by
  unfold onL
  rw [List.mem_map]
  constructor
  · rintro ⟨a, h, e⟩
    obtain rfl : a = i := by omega
    rw [List.mem_filter, List.mem_range] at h
    exact h
  · rintro h
    exact ⟨i, List.mem_filter.2 ⟨List.mem_range.2 h.1, h.2⟩, rfl⟩
theorem onB_test (z : List Int) (q : Nat) (s : Int) (n i : Nat) (hs : s = 0 ∨ s = 1) (hq : q < 81) (hi : i < 81) : onB z q s n i = (onN z q s n).testBit i := by
  rw [on_test z q s n i hs hq hi, ray_test _ i q hi hq n]
  rfl
/-- THE SETS GIVE JUST THE DOCUMENT'S SQUARES. -/
theorem on_list (z : List Int) (q : Int) (s : Int) (n : Nat) (hs : s = 0 ∨ s = 1) : ofN (if 0 ≤ q ∧ q < 81 then onL z q s n 81 else []) = onN z q s n := by
  by_cases hq : 0 ≤ q ∧ q < 81
  · rw [if_pos hq]
    obtain ⟨k, rfl⟩ : ∃ k : Nat, q = k := ⟨q.toNat, by omega⟩
    refine eq_of_bits81 (ofN_sq _) (onN_sq _ _ _ _) fun i hi => ?_
    rw [ofN_test, ← onB_test z k s n i hs (by omega) hi, Bool.eq_iff_iff, decide_eq_true_eq, onL_mem]
    exact ⟨fun h => h.1.2, fun h => ⟨⟨hi, h⟩, hi⟩⟩
  · rw [if_neg hq, onN_out _ _ _ _ hq]
    rfl
theorem onL_nil (z : List Int) (q : Nat) (s : Int) (n : Nat) (hs : s = 0 ∨ s = 1) (hq : q < 81) : onL z q s n 81 = [] ↔ onN z q s n = 0 := by
  have h := on_list z q s n hs
  rw [if_pos (by omega)] at h
  constructor
  · intro e
    rw [e] at h
    exact h.symm
  · intro e
    rw [List.eq_nil_iff_forall_not_mem]
    intro x hx
    have : ∃ i : Nat, x = i := by
      unfold onL at hx
      obtain ⟨i, -, rfl⟩ := List.mem_map.1 hx
      exact ⟨i, rfl⟩
    obtain ⟨i, rfl⟩ := this
    have hm := (onL_mem z q s n 81 i).1 hx
    rw [onB_test z q s n i hs hq hm.1, e, Nat.zero_testBit] at hm
    exact absurd hm.2 (by decide)

/-! What a side attacks. -/
def allPart (z : List Int) (n : Nat) (l : List Int) (k : Nat) : Nat := (l.take k).foldl (fun a q => a ||| rayN (at8 z q.toNat) q n) 0
theorem allPart_zero (z : List Int) (n : Nat) (l : List Int) : allPart z n l 0 = 0 := by simp [allPart]
theorem allPart_step (z : List Int) (n : Nat) (l : List Int) (k : Nat) (h : k < l.length) : allPart z n l (k + 1) = allPart z n l k ||| rayN (at8 z l[k].toNat) l[k] n := by
  unfold allPart
  rw [List.take_succ_eq_append_getElem h, List.foldl_append]
  rfl
theorem allPart_sq (z : List Int) (n : Nat) (l : List Int) : ∀ k, k ≤ l.length → Sq (allPart z n l k)
  | 0, _ => by rw [allPart_zero]; exact Sq.zero
  | k + 1, h => by
    rw [allPart_step z n l k h]
    exact (allPart_sq z n l k (by omega)).or (rayN_sq _ _ _)
theorem allPart_test (z : List Int) (n i : Nat) (l : List Int) : ∀ k, k ≤ l.length → ((allPart z n l k).testBit i = true ↔ ∃ j, ∃ h : j < l.length, j < k ∧ (rayN (at8 z l[j].toNat) l[j] n).testBit i = true)
  | 0, _ => by
    rw [allPart_zero, Nat.zero_testBit]
    constructor
    · intro h; cases h
    · rintro ⟨j, -, h, -⟩; omega
  | k + 1, hk => by
    rw [allPart_step z n l k hk, Nat.testBit_or, Bool.or_eq_true, allPart_test z n i l k (by omega)]
    constructor
    · rintro (⟨j, hj, h1, h2⟩ | h)
      · exact ⟨j, hj, by omega, h2⟩
      · exact ⟨k, hk, by omega, h⟩
    · rintro ⟨j, hj, h1, h2⟩
      by_cases e : j = k
      · subst e; exact .inr h2
      · exact .inl ⟨j, hj, by omega, h2⟩
def allN (z : List Int) (s : Int) : Nat := if s = 0 ∨ s = 1 then allPart z (sideN z 0 ||| sideN z 1) (sqI (sideN z s)) (sqI (sideN z s)).length else 0
theorem allN_sq (z : List Int) (s : Int) : Sq (allN z s) := by
  unfold allN
  split
  · exact allPart_sq _ _ _ _ (Nat.le_refl _)
  · exact Sq.zero
/-- A SQUARE IS ATTACKED JUST IF SOMETHING ATTACKS IT. -/
theorem all_test (z : List Int) (s : Int) (hs : s = 0 ∨ s = 1) (q : Nat) (hq : q < 81) : (allN z s).testBit q = !decide (onN z q s (sideN z 0 ||| sideN z 1) = 0) := by
  unfold allN
  rw [if_pos hs]
  generalize sideN z 0 ||| sideN z 1 = n
  rw [Bool.eq_iff_iff, allPart_test _ _ _ _ _ (Nat.le_refl _), Bool.not_eq_true', decide_eq_false_iff_not]
  constructor
  · rintro ⟨j, hj, -, h⟩ e
    have hm := List.getElem_mem hj
    generalize (sqI (sideN z s))[j] = x at h hm
    have hx : ∃ i : Nat, x = i := by
      unfold sqI at hm
      obtain ⟨i, -, rfl⟩ := List.mem_map.1 hm
      exact ⟨i, rfl⟩
    obtain ⟨i, rfl⟩ := hx
    have hi := (mem_sqI _ _).1 hm
    have ht := on_test z q s n i hs hq hi.1
    rw [e, Nat.zero_testBit] at ht
    rw [Int.toNat_natCast] at h
    have h3 := hi.2
    unfold sideN sideB at h3
    rw [where_test, Bool.and_eq_true] at h3
    rw [h3.2, h] at ht
    cases ht
  · intro hn
    have : ∃ i, (onN z q s n).testBit i = true := by
      apply Classical.byContradiction
      intro hc
      apply hn
      apply zero_of_bits
      intro i
      rw [Bool.eq_false_iff]
      exact fun h => hc ⟨i, h⟩
    obtain ⟨i, hb⟩ := this
    have hi : i < 81 := by
      apply Nat.lt_of_not_le
      intro h
      rw [test_sq (onN_sq _ _ _ _) i h] at hb
      cases hb
    rw [on_test z q s n i hs hq hi, Bool.and_eq_true] at hb
    have hm : (i : Int) ∈ sqI (sideN z s) := by
      rw [mem_sqI]
      refine ⟨hi, ?_⟩
      unfold sideN sideB
      rw [where_test, hb.1, decide_eq_true hi]
      rfl
    obtain ⟨j, hj, e⟩ := List.getElem_of_mem hm
    refine ⟨j, hj, hj, ?_⟩
    rw [e, Int.toNat_natCast]
    exact hb.2
/-- With fewer squares taken no attack is lost. -/
theorem on_more (z : List Int) (q : Nat) (s : Int) (n m : Nat) (hs : s = 0 ∨ s = 1) (hq : q < 81) (hnm : ∀ i, m.testBit i = true → n.testBit i = true) : minusN (onN z q s n) (onN z q s m) = 0 := by
  refine eq_of_bits81 (onN_sq _ _ _ _).minus Sq.zero fun i hi => ?_
  rw [test_minus, Nat.zero_testBit, on_test z q s n i hs hq hi, on_test z q s m i hs hq hi]
  cases h : (rayN (at8 z i) i n).testBit q
  · simp
  · have : (rayN (at8 z i) i m).testBit q = true := by
      rw [rayN_test] at h ⊢
      rcases h with h | ⟨j, hj, h⟩
      · exact .inl h
      · exact .inr ⟨j, hj, wayN_more n m hnm _ _ _ h⟩
    rw [this]
    simp
end Go.Proofs.YtilhicohfnaclaaDoor
