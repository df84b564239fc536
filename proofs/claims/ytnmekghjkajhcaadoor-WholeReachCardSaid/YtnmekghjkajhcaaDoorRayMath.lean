/-
  Ways on which pieces slide, as plain functions on numbers (no program is named here).
-/
import Derived.Test.YtnmekghjkajhcaaDoorStepMore
namespace Go.Proofs.YtnmekghjkajhcaaDoor
open Go.RowKit
set_option linter.unusedVariables false
set_option linter.unusedSimpArgs false

def rdirsL (k : Int) : List (Int × Int) :=
  if k = 2 then [(0, -1)] else if k = 6 ∨ k = 14 then aslantL else if k = 7 ∨ k = 15 then straightL else []
theorem rdirs_len (k : Int) : (rdirsL k).length ≤ 4 := by
  unfold rdirsL
  repeat' split
  all_goals decide
/-- The squares of a way from a square on, up to the first one that is taken, and with it. -/
def wayL (n : Nat) (d : Int × Int) : Nat → Int → List Int
  | 0, _ => []
  | f + 1, t => if t < 0 then [] else t :: (if n.testBit t.toNat then [] else wayL n d f (fromF d t))
def wayN (q : Int) (d : Int × Int) (n : Nat) : Nat := if d.1 = 0 ∧ d.2 = 0 then 0 else ofN (wayL n d 9 (fromF d q))
theorem wayN_sq (q : Int) (d : Int × Int) (n : Nat) : Sq (wayN q d n) := by
  unfold wayN
  split
  · exact Sq.zero
  · exact ofN_sq _
/-- How many squares there can be on a way from a square on, it with them. -/
def pot (d : Int × Int) (t : Int) : Nat := if t < 0 then 0 else if 0 < d.1 then (9 - t / 9).toNat else if d.1 < 0 then (t / 9 + 1).toNat else if 0 < d.2 then (9 - t % 9).toNat else (t % 9 + 1).toNat

def I64 (x : Int) : Prop := -9223372036854775808 ≤ x ∧ x ≤ 9223372036854775807
theorem from_where (d : Int × Int) (q : Int) (h1 : I64 d.1) (h2 : I64 d.2) :
    fromF d q = -1 ∨ (0 ≤ q ∧ q < 81 ∧ 0 ≤ fromF d q ∧ fromF d q < 81 ∧ fromF d q / 9 - q / 9 = d.1 ∧ fromF d q % 9 - q % 9 = d.2) := by
  unfold I64 at h1 h2
  by_cases hq : 0 ≤ q ∧ q < 81
  · have e1 : fromF d q = squareF (wrap64 (q / 9 + d.1)) (wrap64 (q % 9 + d.2)) := if_pos hq
    by_cases hs : 0 ≤ wrap64 (q / 9 + d.1) ∧ wrap64 (q / 9 + d.1) ≤ 8 ∧ 0 ≤ wrap64 (q % 9 + d.2) ∧ wrap64 (q % 9 + d.2) ≤ 8
    · right
      have e2 : squareF (wrap64 (q / 9 + d.1)) (wrap64 (q % 9 + d.2)) = wrap64 (q / 9 + d.1) * 9 + wrap64 (q % 9 + d.2) := if_pos hs
      rw [e1, e2]
      have w1 : wrap64 (q / 9 + d.1) = q / 9 + d.1 := by
        have := hs
        unfold wrap64 at this ⊢
        omega
      have w2 : wrap64 (q % 9 + d.2) = q % 9 + d.2 := by
        have := hs
        unfold wrap64 at this ⊢
        omega
      rw [w1, w2] at hs ⊢
      omega
    · left
      rw [e1]
      exact if_neg hs
  · left
    exact if_neg hq
theorem pot_pos (d : Int × Int) (t : Int) (ht : 0 ≤ t) : pot d t = if 0 < d.1 then (9 - t / 9).toNat else if d.1 < 0 then (t / 9 + 1).toNat else if 0 < d.2 then (9 - t % 9).toNat else (t % 9 + 1).toNat := by
  unfold pot
  exact if_neg (by omega)
theorem pot_step (d : Int × Int) (t : Int) (h1 : I64 d.1) (h2 : I64 d.2) (hd : ¬ (d.1 = 0 ∧ d.2 = 0)) (ht : 0 ≤ t ∧ t < 81) : pot d (fromF d t) < pot d t := by
  rw [pot_pos d t ht.1]
  rcases from_where d t h1 h2 with e | ⟨-, -, a, b, c, f⟩
  · rw [e]
    have e0 : pot d (-1) = 0 := if_pos (by omega)
    rw [e0]
    by_cases c1 : 0 < d.1
    · rw [if_pos c1]; omega
    · rw [if_neg c1]
      by_cases c2 : d.1 < 0
      · rw [if_pos c2]; omega
      · rw [if_neg c2]
        by_cases c3 : 0 < d.2
        · rw [if_pos c3]; omega
        · rw [if_neg c3]; omega
  · rw [pot_pos d _ a]
    generalize fromF d t = u at a b c f
    by_cases c1 : 0 < d.1
    · rw [if_pos c1, if_pos c1]; omega
    · rw [if_neg c1, if_neg c1]
      by_cases c2 : d.1 < 0
      · rw [if_pos c2, if_pos c2]; omega
      · rw [if_neg c2, if_neg c2]
        by_cases c3 : 0 < d.2
        · rw [if_pos c3, if_pos c3]; omega
        · rw [if_neg c3, if_neg c3]; omega
theorem pot_le (d : Int × Int) (t : Int) (ht : t < 81) : pot d t ≤ 9 := by
  unfold pot
  split
  · omega
  · split
    · omega
    · split
      · omega
      · split <;> omega

/-- Each square of a way is a square, and lies farther on than where it began. -/
theorem wayL_mem (n : Nat) (d : Int × Int) (h1 : I64 d.1) (h2 : I64 d.2) (hd : ¬ (d.1 = 0 ∧ d.2 = 0)) : ∀ (f : Nat) (t : Int), (t < 0 ∨ (0 ≤ t ∧ t < 81)) → ∀ u ∈ wayL n d f t, 0 ≤ u ∧ u < 81 ∧ pot d u ≤ pot d t
  | 0, t, _, u, hu => by cases hu
  | f + 1, t, ht, u, hu => by
    unfold wayL at hu
    split at hu
    · cases hu
    · rename_i h
      have ht' : 0 ≤ t ∧ t < 81 := by omega
      rcases List.mem_cons.1 hu with rfl | hu
      · exact ⟨ht'.1, ht'.2, Nat.le_refl _⟩
      · split at hu
        · cases hu
        · have hp := pot_step d t h1 h2 hd ht'
          have hw := from_where d t h1 h2
          have ih := wayL_mem n d h1 h2 hd f (fromF d t) (by omega) u hu
          exact ⟨ih.1, ih.2.1, by omega⟩
theorem wayN_self (n : Nat) (d : Int × Int) (h1 : I64 d.1) (h2 : I64 d.2) (q : Nat) (hq : q < 81) : (wayN q d n).testBit q = false := by
  unfold wayN
  by_cases hd : d.1 = 0 ∧ d.2 = 0
  · rw [if_pos hd, Nat.zero_testBit]
  · rw [if_neg hd, ofN_test]
    rw [decide_eq_false_iff_not]
    rintro ⟨hm, -⟩
    have hw := from_where d q h1 h2
    have h := wayL_mem n d h1 h2 hd 9 (fromF d q) (by omega) q hm
    have hp := pot_step d q h1 h2 hd (by omega)
    omega
/-- With less taken no way is shorter. -/
theorem wayL_more (n m : Nat) (hnm : ∀ i, m.testBit i = true → n.testBit i = true) (d : Int × Int) : ∀ (f : Nat) (t : Int), ∀ u ∈ wayL n d f t, u ∈ wayL m d f t
  | 0, t, u, hu => by cases hu
  | f + 1, t, u, hu => by
    unfold wayL at hu ⊢
    split at hu
    · cases hu
    · rename_i h
      rw [if_neg h]
      rcases List.mem_cons.1 hu with rfl | hu
      · exact List.mem_cons_self
      · split at hu
        · cases hu
        · rename_i hb
          have hb' : ¬ m.testBit t.toNat = true := fun h2 => hb (hnm _ h2)
          rw [if_neg hb']
          exact List.mem_cons_of_mem _ (wayL_more n m hnm d f (fromF d t) u hu)
theorem wayN_more (n m : Nat) (hnm : ∀ i, m.testBit i = true → n.testBit i = true) (q : Int) (d : Int × Int) (i : Nat) (h : (wayN q d n).testBit i = true) : (wayN q d m).testBit i = true := by
  unfold wayN at h ⊢
  by_cases hd : d.1 = 0 ∧ d.2 = 0
  · rw [if_pos hd] at h
    simp at h
  · rw [if_neg hd, ofN_test] at h ⊢
    rw [decide_eq_true_eq] at h ⊢
    exact ⟨wayL_more n m hnm d 9 _ _ h.1, h.2⟩

/-- What a piece reaches: its steps, and the ways on which it slides: the first k of them. -/
def rayPart (l : List (Int × Int)) (s q : Int) (n b : Nat) (k : Nat) : Nat := (l.take k).foldl (fun a d => a ||| wayN q (turnF s d) n) b
theorem rayPart_zero (l : List (Int × Int)) (s q : Int) (n b : Nat) : rayPart l s q n b 0 = b := by simp [rayPart]
theorem rayPart_step (l : List (Int × Int)) (s q : Int) (n b k : Nat) (h : k < l.length) : rayPart l s q n b (k + 1) = rayPart l s q n b k ||| wayN q (turnF s l[k]) n := by
  unfold rayPart
  rw [List.take_succ_eq_append_getElem h, List.foldl_append]
  rfl
theorem rayPart_sq (l : List (Int × Int)) (s q : Int) (n b : Nat) (hb : Sq b) : ∀ k, k ≤ l.length → Sq (rayPart l s q n b k)
  | 0, _ => by rw [rayPart_zero]; exact hb
  | k + 1, h => by
    rw [rayPart_step l s q n b k h]
    exact (rayPart_sq l s q n b hb k (by omega)).or (wayN_sq _ _ _)
def rayN (p q : Int) (n : Nat) : Nat := rayPart (rdirsL (kindF p)) (sideF p) q n (stepN p q) (rdirsL (kindF p)).length
theorem rayN_sq (p q : Int) (n : Nat) : Sq (rayN p q n) := rayPart_sq _ _ _ _ _ (stepN_sq p q) _ (Nat.le_refl _)
theorem rayPart_test (l : List (Int × Int)) (s q : Int) (n b i : Nat) : ∀ k, k ≤ l.length → ((rayPart l s q n b k).testBit i = true ↔ (b.testBit i = true ∨ ∃ j, ∃ h : j < l.length, j < k ∧ (wayN q (turnF s l[j]) n).testBit i = true))
  | 0, _ => by
    rw [rayPart_zero]
    constructor
    · exact .inl
    · rintro (h | ⟨j, -, h, -⟩)
      · exact h
      · omega
  | k + 1, hk => by
    rw [rayPart_step l s q n b k hk, Nat.testBit_or, Bool.or_eq_true, rayPart_test l s q n b i k (by omega)]
    constructor
    · rintro ((h | ⟨j, hj, h1, h2⟩) | h)
      · exact .inl h
      · exact .inr ⟨j, hj, by omega, h2⟩
      · exact .inr ⟨k, hk, by omega, h⟩
    · rintro (h | ⟨j, hj, h1, h2⟩)
      · exact .inl (.inl h)
      · by_cases e : j = k
        · subst e
          exact .inr h2
        · exact .inl (.inr ⟨j, hj, by omega, h2⟩)
theorem rayN_test (p q : Int) (n i : Nat) : (rayN p q n).testBit i = true ↔ ((stepN p q).testBit i = true ∨ ∃ j, ∃ h : j < (rdirsL (kindF p)).length, (wayN q (turnF (sideF p) (rdirsL (kindF p))[j]) n).testBit i = true) := by
  unfold rayN
  rw [rayPart_test _ _ _ _ _ _ _ (Nat.le_refl _)]
  constructor
  · rintro (h | ⟨j, hj, -, h2⟩)
    · exact .inl h
    · exact .inr ⟨j, hj, h2⟩
  · rintro (h | ⟨j, hj, h2⟩)
    · exact .inl h
    · exact .inr ⟨j, hj, hj, h2⟩
end Go.Proofs.YtnmekghjkajhcaaDoor
