/-
  Ways on which pieces slide, as plain functions on numbers (no program is named here).
-/
import Derived.Test.YtilhicohfnaclaaDoorStepAll
namespace Go.Proofs.YtilhicohfnaclaaDoor
set_option maxRecDepth 100000
open Go.RowKit
set_option linter.unusedVariables false
set_option linter.unusedSimpArgs false

def rdirsL (k : Int) : List (Int × Int) :=
  if k = 2 then [(0, -1)] else if k = 6 ∨ k = 14 then aslantL else if k = 7 ∨ k = 15 then straightL else []
theorem rdirs_len (k : Int) : (rdirsL k).length ≤ 4 := by
  unfold rdirsL
  repeat' split
  all_goals decide
/-- The squares of a way from a square on, up to the first one that is taken, and with it. -/
def wayL (n : Nat) (d : Int × Int) : Nat → Int → List Int
  | 0, _ => []
  | f + 1, t => if t < 0 then [] else t :: (if n.testBit t.toNat then [] else wayL n d f (fromF d t))
def wayN (q : Int) (d : Int × Int) (n : Nat) : Nat := if d.1 = 0 ∧ d.2 = 0 then 0 else ofN (wayL n d 9 (fromF d q))
theorem wayN_sq (q : Int) (d : Int × Int) (n : Nat) : Sq (wayN q d n) := by
  unfold wayN
  split
  · exact Sq.zero
  · exact ofN_sq _
/-- How many squares there can be on a way from a square on, it with them. -/
def pot (d : Int × Int) (t : Int) : Nat := if t < 0 then 0 else if 0 < d.1 then (9 - t / 9).toNat else if d.1 < 0 then (t / 9 + 1).toNat else if 0 < d.2 then (9 - t % 9).toNat else (t % 9 + 1).toNat

def I64 (x : Int) : Prop := -9223372036854775808 ≤ x ∧ x ≤ 9223372036854775807
theorem from_where (d : Int × Int) (q : Int) (h1 : I64 d.1) (h2 : I64 d.2) :
    fromF d q = -1 ∨ (0 ≤ q ∧ q < 81 ∧ 0 ≤ fromF d q ∧ fromF d q < 81 ∧ fromF d q / 9 - q / 9 = d.1 ∧ fromF d q % 9 - q % 9 = d.2) := by
  unfold I64 at h1 h2
  by_cases hq : 0 ≤ q ∧ q < 81
  · have e1 : fromF d q = squareF (wrap64 (q / 9 + d.1)) (wrap64 (q % 9 + d.2)) := if_pos hq
    by_cases hs : 0 ≤ wrap64 (q / 9 + d.1) ∧ wrap64 (q / 9 + d.1) ≤ 8 ∧ 0 ≤ wrap64 (q % 9 + d.2) ∧ wrap64 (q % 9 + d.2) ≤ 8
    · right
      have e2 : squareF (wrap64 (q / 9 + d.1)) (wrap64 (q % 9 + d.2)) = wrap64 (q / 9 + d.1) * 9 + wrap64 (q % 9 + d.2) := if_pos hs
      rw [e1, e2]
      have w1 : wrap64 (q / 9 + d.1) = q / 9 + d.1 := by
        have := hs
        unfold wrap64 at this ⊢
        omega
      have w2 : wrap64 (q % 9 + d.2) = q % 9 + d.2 := by
        have := hs
        unfold wrap64 at this ⊢
        omega
      rw [w1, w2] at hs ⊢
      omega
    · left
      rw [e1]
      exact if_neg hs
  · left
    exact if_neg hq
theorem pot_pos (d : Int × Int) (t : Int) (ht : 0 ≤ t) : pot d t = if 0 < d.1 then (9 - t / 9).toNat else if d.1 < 0 then (t / 9 + 1).toNat else if 0 < d.2 then (9 - t % 9).toNat else (t % 9 + 1).toNat := by
  unfold pot
  exact if_neg (by omega)
theorem pot_step (d : Int × Int) (t : Int) (h1 : I64 d.1) (h2 : I64 d.2) (hd : ¬ (d.1 = 0 ∧ d.2 = 0)) (ht : 0 ≤ t ∧ t < 81) : pot d (fromF d t) < pot d t := by
  rw [pot_pos d t ht.1]
  rcases from_where d t h1 h2 with e | ⟨-, -, a, b, c, f⟩
  · rw [e]
    have e0 : pot d (-1) = 0 := if_pos (by omega)
    rw [e0]
    by_cases c1 : 0 < d.1
    · rw [if_pos c1]; omega
    · rw [if_neg c1]
      by_cases c2 : d.1 < 0
      · rw [if_pos c2]; omega
      · rw [if_neg c2]
        by_cases c3 : 0 < d.2
        · rw [if_pos c3]; omega
        · rw [if_neg c3]; omega
  · rw [pot_pos d _ a]
    generalize fromF d t = u at a b c f
    by_cases c1 : 0 < d.1
    · rw [if_pos c1, if_pos c1]; omega
    · rw [if_neg c1, if_neg c1]
      by_cases c2 : d.1 < 0
      · rw [if_pos c2, if_pos c2]; omega
      · rw [if_neg c2, if_neg c2]
        by_cases c3 : 0 < d.2
        · rw [if_pos c3, if_pos c3]; omega
        · rw [if_neg c3, if_neg c3]; omega
theorem pot_le (d : Int × Int) (t : Int) (ht : t < 81) : pot d t ≤ 9 := by
  unfold pot
  split
  · omega
  · split
    · omega
    · split
      · omega
      · split <;> omega

/-- Each square of a way is a square, and lies farther on than where it began. -/
theorem wayL_mem (n : Nat) (d : Int × Int) (h1 : I64 d.1) (h2 : I64 d.2) (hd : ¬ (d.1 = 0 ∧ d.2 = 0)) : ∀ (f : Nat) (t : Int), (t < 0 ∨ (0 ≤ t ∧ t < 81)) → ∀ u ∈ wayL n d f t, 0 ≤ u ∧ u < 81 ∧ pot d u ≤ pot d t
  | 0, t, _, u, hu => by cases hu
  | f + 1, t, ht, u, hu => by
    unfold wayL at hu
    split at hu
    · cases hu
    · rename_i h
      have ht' : 0 ≤ t ∧ t < 81 := by omega
      rcases List.mem_cons.1 hu with rfl | hu
      · exact ⟨ht'.1, ht'.2, Nat.le_refl _⟩
      · split at hu
        · cases hu
        · have hp := pot_step d t h1 h2 hd ht'
          have hw := from_where d t h1 h2
          have ih := wayL_mem n d h1 h2 hd f (fromF d t) (by omega) u hu
          exact ⟨ih.1, ih.2.1, by omega⟩
theorem wayN_self (n : Nat) (d : Int × Int) (h1 : I64 d.1) (h2 : I64 d.2) (q : Nat) (hq : q < 81) : (wayN q d n).testBit q = false := by
  unfold wayN
  by_cases hd : d.1 = 0 ∧ d.2 = 0
  · rw [if_pos hd, Nat.zero_testBit]
  · rw [if_neg hd, ofN_test]
    rw [decide_eq_false_iff_not]
    rintro ⟨hm, -⟩
    have hw := from_where d q h1 h2
    have h := wayL_mem n d h1 h2 hd 9 (fromF d q) (by omega) q hm
    have hp := pot_step d q h1 h2 hd (by omega)
    omega
/-- With less taken no way is shorter. -/
theorem wayL_more (n m : Nat) (hnm : ∀ i, m.testBit i = true → n.testBit i = true) (d : Int × Int) : ∀ (f : Nat) (t : Int), ∀ u ∈ wayL n d f t, u ∈ wayL m d f t
  | 0, t, u, hu => by cases hu
  | f + 1, t, u, hu => by
    unfold wayL at hu ⊢
    split at hu
    · cases hu
    · rename_i h
      rw [if_neg h]
      rcases List.mem_cons.1 hu with rfl | hu
      · exact List.mem_cons_self
      · split at hu
        · cases hu
        · rename_i hb
          have hb' : ¬ m.testBit t.toNat = true := fun h2 => hb (hnm _ h2)
          rw [if_neg hb']
          exact List.mem_cons_of_mem _ (wayL_more n m hnm d f (fromF d t) u hu)
theorem wayN_more (n m : Nat) (hnm : ∀ i, m.testBit i = true → n.testBit i = true) (q : Int) (d : Int × Int) (i : Nat) (h : (wayN q d n).testBit i = true) : (wayN q d m).testBit i = true := by
  unfold wayN at h ⊢
  by_cases hd : d.1 = 0 ∧ d.2 = 0
  · rw [if_pos hd] at h
    simp at h
  · rw [if_neg hd, ofN_test] at h ⊢
    rw [decide_eq_true_eq] at h ⊢
    exact ⟨wayL_more n m hnm d 9 _ _ h.1, h.2⟩

/-- What a piece reaches: its steps, and the ways on which it slides: the first k of them. -/
def rayPart (l : List (Int × Int)) (s q : Int) (n b : Nat) (k : Nat) : Nat := (l.take k).foldl (fun a d => a ||| wayN q (turnF s d) n) b
theorem rayPart_zero (l : List (Int × Int)) (s q : Int) (n b : Nat) : rayPart l s q n b 0 = b := by simp [rayPart]
theorem rayPart_step (l : List (Int × Int)) (s q : Int) (n b k : Nat) (h : k < l.length) : rayPart l s q n b (k + 1) = rayPart l s q n b k ||| wayN q (turnF s l[k]) n := by
  unfold rayPart
  rw [List.take_succ_eq_append_getElem h, List.foldl_append]
  rfl
theorem rayPart_sq (l : List (Int × Int)) (s q : Int) (n b : Nat) (hb : Sq b) : ∀ k, k ≤ l.length → Sq (rayPart l s q n b k)
  | 0, _ => by rw [rayPart_zero]; exact hb
  | k + 1, h => by
    rw [rayPart_step l s q n b k h]
    exact (rayPart_sq l s q n b hb k (by omega)).or (wayN_sq _ _ _)
def rayN (p q : Int) (n : Nat) : Nat := rayPart (rdirsL (kindF p)) (sideF p) q n (stepN p q) (rdirsL (kindF p)).length
theorem rayN_sq (p q : Int) (n : Nat) : Sq (rayN p q n) := rayPart_sq _ _ _ _ _ (stepN_sq p q) _ (Nat.le_refl _)
theorem rayPart_test (l : List (Int × Int)) (s q : Int) (n b i : Nat) : ∀ k, k ≤ l.length → ((rayPart l s q n b k).testBit i = true ↔ (b.testBit i = true ∨ ∃ j, ∃ h : j < l.length, j < k ∧ (wayN q (turnF s l[j]) n).testBit i = true))
  | 0, _ => by
    rw [rayPart_zero]
    constructor
    · exact .inl
    · rintro (h | ⟨j, -, h, -⟩)
      · exact h
      · omega
  | k + 1, hk => by
    rw [rayPart_step l s q n b k hk, Nat.testBit_or, Bool.or_eq_true, rayPart_test l s q n b i k (by omega)]
    constructor
    · rintro ((h | ⟨j, hj, h1, h2⟩) | h)
      · exact .inl h
      · exact .inr ⟨j, hj, by omega, h2⟩
      · exact .inr ⟨k, hk, by omega, h⟩
    · rintro (h | ⟨j, hj, h1, h2⟩)
      · exact .inl (.inl h)
      · by_cases e : j = k
        · subst e
          exact .inr h2
        · exact .inl (.inr ⟨j, hj, by omega, h2⟩)
theorem rayN_test (p q : Int) (n i : Nat) : (rayN p q n).testBit i = true ↔ ((stepN p q).testBit i = true ∨ ∃ j, ∃ h : j < (rdirsL (kindF p)).length, (wayN q (turnF (sideF p) (rdirsL (kindF p))[j]) n).testBit i = true) := by
  unfold rayN
  rw [rayPart_test _ _ _ _ _ _ _ (Nat.le_refl _)]
  constructor
  · rintro (h | ⟨j, hj, -, h2⟩)
    · exact .inl h
    · exact .inr ⟨j, hj, h2⟩
  · rintro (h | ⟨j, hj, h2⟩)
    · exact .inl h
    · exact .inr ⟨j, hj, hj, h2⟩
end Go.Proofs.YtilhicohfnaclaaDoor

/-
  How two squares lie from each other, the squares between, and the way there; plain facts on numbers (no program is named here).
-/
namespace Go.Proofs.YtilhicohfnaclaaDoor
set_option maxRecDepth 100000
open Go.RowKit
set_option linter.unusedVariables false
set_option linter.unusedSimpArgs false

def lineF (a b : Int) : Int :=
  if a < 0 ∨ 80 < a ∨ b < 0 ∨ 80 < b ∨ a = b then 0
  else if b / 9 - a / 9 = 0 ∨ b % 9 - a % 9 = 0 then 1
  else if b / 9 - a / 9 = b % 9 - a % 9 ∨ b / 9 - a / 9 = -(b % 9 - a % 9) then 2 else 0
def sgnF (n : Int) : Int := if n < 0 then -1 else if 0 < n then 1 else 0
def dirF (a b : Int) : Int × Int := (sgnF (b / 9 - a / 9), sgnF (b % 9 - a % 9))
/-- How many steps there are from a square to another one. -/
def distF (a b : Int) : Nat := max (b / 9 - a / 9).natAbs (b % 9 - a % 9).natAbs
def awayF (a b : Int) : Int := 9 * sgnF (b / 9 - a / 9) + sgnF (b % 9 - a % 9)
def betweenP (a b : Int) (k : Nat) : List Int := (List.range k).map (fun (j : Nat) => a + (j + 1) * awayF a b)
def betweenL (a b : Int) : List Int := if lineF a b = 0 then [] else betweenP a b (distF a b - 1)
def eightL : List (Int × Int) := [(0, -1), (-1, 0), (1, 0), (0, 1), (-1, -1), (1, -1), (-1, 1), (1, 1)]
/-- The squares of a way to the edge. -/
def pathL (d : Int × Int) : Nat → Int → List Int
  | 0, _ => []
  | f + 1, t => if t < 0 then [] else t :: pathL d f (fromF d t)
def okPath (q : Int) (d : Int × Int) : List Int → List Int → Bool
  | _, [] => true
  | pre, t :: l => decide (lineF q t ≠ 0) && decide (dirF q t = d) && decide (betweenL q t = pre) && okPath q d (pre ++ [t]) l
theorem path_ok : ∀ q : Nat, q < 81 → ∀ d ∈ eightL, okPath (q : Int) d [] (pathL d 9 (fromF d q)) = true := by decide +kernel
theorem path_in : ∀ q : Nat, q < 81 → ∀ t : Nat, t < 81 → lineF (q : Int) t = 0 ∨ ((t : Int) ∈ pathL (dirF q t) 9 (fromF (dirF q t) q) ∧ dirF q t ∈ eightL ∧ decide (lineF q t = 1) = decide (dirF q t ∈ [((0 : Int), (-1 : Int)), (-1, 0), (1, 0), (0, 1)]) ∧ decide (lineF q t = 2) = decide (dirF q t ∈ [((-1 : Int), (-1 : Int)), (1, -1), (-1, 1), (1, 1)])) := by decide +kernel
def towardF (a b : Int) : Int × Int :=
  if b / 9 - a / 9 ≠ 0 ∧ b % 9 - a % 9 ≠ 0 ∧ b / 9 - a / 9 ≠ b % 9 - a % 9 ∧ b / 9 - a / 9 ≠ -(b % 9 - a % 9) then (0, 0) else dirF a b
theorem between_ok : ∀ a : Nat, a < 81 → ∀ b : Nat, b < 81 → minusN (wayN a (towardF a b) (oneN b)) (oneN b) = ofN (betweenL a b) ∧ ofN (betweenL b a) = ofN (betweenL a b) ∧ (betweenL a b = [] ∨ pop 81 (ofN (betweenL a b)) = (betweenL a b).length) := by decide +kernel

end Go.Proofs.YtilhicohfnaclaaDoor

/-
  What a piece reaches is the document's answer, by what lies between.
-/
namespace Go.Proofs.YtilhicohfnaclaaDoor
set_option maxRecDepth 100000
open Go.RowKit
set_option linter.unusedVariables false
set_option linter.unusedSimpArgs false

/-- A way up to the first square that is taken, and with it. -/
def cutL (n : Nat) : List Int → List Int
  | [] => []
  | x :: l => x :: (if n.testBit x.toNat then [] else cutL n l)
theorem way_cut (n : Nat) (d : Int × Int) : ∀ (f : Nat) (t : Int), wayL n d f t = cutL n (pathL d f t)
  | 0, _ => rfl
  | f + 1, t => by
    unfold wayL pathL
    by_cases h : t < 0
    · rw [if_pos h, if_pos h]; rfl
    · rw [if_neg h, if_neg h, way_cut n d f (fromF d t)]; rfl
theorem ok_head {q t : Int} {d : Int × Int} {pre l : List Int} (h : okPath q d pre (t :: l) = true) : lineF q t ≠ 0 ∧ dirF q t = d ∧ betweenL q t = pre ∧ okPath q d (pre ++ [t]) l = true := by
  unfold okPath at h
  simp only [Bool.and_eq_true, decide_eq_true_eq] at h
  exact ⟨h.1.1.1, h.1.1.2, h.1.2, h.2⟩
theorem ok_mem {q : Int} {d : Int × Int} : ∀ (l pre : List Int), okPath q d pre l = true → ∀ t ∈ l, lineF q t ≠ 0 ∧ dirF q t = d ∧ ∀ u ∈ pre, u ∈ betweenL q t
  | [], _, _, _, h => by cases h
  | x :: l, pre, hok, t, ht => by
    obtain ⟨h1, h2, h3, h4⟩ := ok_head hok
    rcases List.mem_cons.1 ht with rfl | ht
    · exact ⟨h1, h2, fun u hu => by rw [h3]; exact hu⟩
    · obtain ⟨a, b, c⟩ := ok_mem l _ h4 t ht
      exact ⟨a, b, fun u hu => c u (List.mem_append_left _ hu)⟩
theorem cut_mem {q : Int} {d : Int × Int} (n : Nat) : ∀ (l pre : List Int), okPath q d pre l = true → (∀ u ∈ pre, n.testBit u.toNat = false) → ∀ t, t ∈ cutL n l ↔ (t ∈ l ∧ ∀ u ∈ betweenL q t, n.testBit u.toNat = false)
  | [], _, _, _, t => by simp [cutL]
  | x :: l, pre, hok, hpre, t => by
    obtain ⟨h1, h2, h3, h4⟩ := ok_head hok
    unfold cutL
    constructor
    · intro h
      rcases List.mem_cons.1 h with rfl | h
      · exact ⟨List.mem_cons_self, by rw [h3]; exact hpre⟩
      · by_cases hb : n.testBit x.toNat = true
        · rw [if_pos hb] at h
          cases h
        · rw [if_neg hb] at h
          have hp2 : ∀ u ∈ pre ++ [x], n.testBit u.toNat = false := fun u hu => by
            rcases List.mem_append.1 hu with h5 | h5
            · exact hpre u h5
            · rw [List.mem_singleton.1 h5]; simpa using hb
          obtain ⟨a, b⟩ := (cut_mem n l _ h4 hp2 t).1 h
          exact ⟨List.mem_cons_of_mem _ a, b⟩
    · rintro ⟨h, hf⟩
      rcases List.mem_cons.1 h with rfl | h
      · exact List.mem_cons_self
      · have hx : n.testBit x.toNat = false := hf x ((ok_mem l _ h4 t h).2.2 x (by simp))
        have hp2 : ∀ u ∈ pre ++ [x], n.testBit u.toNat = false := fun u hu => by
          rcases List.mem_append.1 hu with h5 | h5
          · exact hpre u h5
          · rw [List.mem_singleton.1 h5]; exact hx
        rw [if_neg (by rw [hx]; decide)]
        exact List.mem_cons_of_mem _ ((cut_mem n l _ h4 hp2 t).2 ⟨h, hf⟩)
def freeF (q t : Int) (n : Nat) : Bool := (betweenL q t).all fun u => !n.testBit u.toNat
theorem freeF_iff (q t : Int) (n : Nat) : freeF q t n = true ↔ ∀ u ∈ betweenL q t, n.testBit u.toNat = false := by
  unfold freeF
  rw [List.all_eq_true]
  constructor
  · intro h u hu
    simpa using h u hu
  · intro h u hu
    simpa using h u hu
theorem eight_ne : ∀ d ∈ eightL, ¬ (d.1 = 0 ∧ d.2 = 0) := by decide
/-- A WAY REACHES JUST THE SQUARES THAT LIE ON IT WITH NOTHING BETWEEN. -/
theorem way_test (q t : Nat) (hq : q < 81) (ht : t < 81) (d : Int × Int) (hd : d ∈ eightL) (n : Nat) : (wayN q d n).testBit t = true ↔ (lineF q t ≠ 0 ∧ dirF q t = d ∧ freeF q t n = true) := by
  unfold wayN
  rw [if_neg (eight_ne d hd), ofN_test, decide_eq_true_eq, way_cut, freeF_iff]
  have hok := path_ok q hq d hd
  rw [cut_mem n _ _ hok (fun u hu => by cases hu) t]
  constructor
  · rintro ⟨⟨hm, hf⟩, -⟩
    obtain ⟨a, b, -⟩ := ok_mem _ _ hok t hm
    exact ⟨a, b, hf⟩
  · rintro ⟨hl, rfl, hf⟩
    rcases path_in q hq t ht with h | ⟨hm, -⟩
    · exact absurd h hl
    · exact ⟨⟨hm, hf⟩, ht⟩
/-- The document's answer: does a piece slide from a square to another one? -/
def slidesF (p q t : Int) : Bool :=
  if kindF p = 2 then decide (lineF q t = 1) && decide (q / 9 = t / 9) && decide (0 < aheadF (sideF p) q t)
  else if kindF p = 6 ∨ kindF p = 14 then decide (lineF q t = 2) else if kindF p = 7 ∨ kindF p = 15 then decide (lineF q t = 1) else false
def reachF (p q t : Int) (n : Nat) : Bool := refStepF p q t || (slidesF p q t && freeF q t n)
theorem turn_eight (s : Int) : ∀ d ∈ eightL, turnF s d ∈ eightL := by
  intro d hd
  unfold turnF
  split
  · revert d; decide +kernel
  · exact hd
theorem eight_lance (q t : Nat) (hq : q < 81) (ht : t < 81) (s : Int) : (lineF q t ≠ 0 ∧ dirF q t = turnF s (0, -1)) ↔ (lineF q t = 1 ∧ (q : Int) / 9 = (t : Int) / 9 ∧ 0 < aheadF s q t) := by
  have e : turnF s (0, -1) = if s = 1 then (0, 1) else (0, -1) := by
    unfold turnF
    split <;> first | rfl | decide +kernel
  rw [e]
  unfold lineF dirF sgnF aheadF
  by_cases hs : s = 1
  · rw [if_pos hs, if_pos hs]
    simp only [Prod.mk.injEq]
    repeat' split
    all_goals omega
  · rw [if_neg hs, if_neg hs]
    simp only [Prod.mk.injEq]
    repeat' split
    all_goals omega
theorem turn_mem_aslant (s : Int) (d : Int × Int) : (∃ e ∈ aslantL, turnF s e = d) ↔ d ∈ aslantL := by
  unfold turnF
  split
  · constructor
    · rintro ⟨e, he, rfl⟩
      revert e; decide +kernel
    · intro h
      revert d; decide +kernel
  · constructor
    · rintro ⟨e, he, rfl⟩; exact he
    · intro h; exact ⟨d, h, rfl⟩
theorem turn_mem_straight (s : Int) (d : Int × Int) : (∃ e ∈ straightL, turnF s e = d) ↔ d ∈ straightL := by
  unfold turnF
  split
  · constructor
    · rintro ⟨e, he, rfl⟩
      revert e; decide +kernel
    · intro h
      revert d; decide +kernel
  · constructor
    · rintro ⟨e, he, rfl⟩; exact he
    · intro h; exact ⟨d, h, rfl⟩
theorem aslant_eight : ∀ d ∈ aslantL, d ∈ eightL := by decide
theorem straight_eight : ∀ d ∈ straightL, d ∈ eightL := by decide
theorem rdirs_eight (k : Int) : ∀ d ∈ rdirsL k, d ∈ eightL := by
  unfold rdirsL
  repeat' split
  all_goals decide
/-- WHAT A PIECE REACHES IS THE DOCUMENT's ANSWER. -/
theorem ray_test (p : Int) (q t : Nat) (hq : q < 81) (ht : t < 81) (n : Nat) : (rayN p q n).testBit t = reachF p q t n := by
  rw [Bool.eq_iff_iff, rayN_test, stepN_test p q t ht]
  unfold reachF
  rw [Bool.or_eq_true, Bool.and_eq_true]
  refine or_congr Iff.rfl ?_
  have h1 : (∃ j, ∃ h : j < (rdirsL (kindF p)).length, (wayN q (turnF (sideF p) (rdirsL (kindF p))[j]) n).testBit t = true) ↔ (∃ d ∈ rdirsL (kindF p), lineF q t ≠ 0 ∧ dirF q t = turnF (sideF p) d ∧ freeF q t n = true) := by
    constructor
    · rintro ⟨j, hj, h⟩
      exact ⟨_, List.getElem_mem hj, (way_test q t hq ht _ (turn_eight _ _ (rdirs_eight _ _ (List.getElem_mem hj))) n).1 h⟩
    · rintro ⟨d, hd, h⟩
      obtain ⟨j, hj, rfl⟩ := List.mem_iff_getElem.1 hd
      exact ⟨j, hj, (way_test q t hq ht _ (turn_eight _ _ (rdirs_eight _ _ hd)) n).2 h⟩
  rw [h1]
  have hin := path_in q hq t ht
  unfold slidesF rdirsL
  generalize kindF p = k
  generalize sideF p = s
  by_cases k2 : k = 2
  · rw [if_pos k2, if_pos k2]
    have := eight_lance q t hq ht s
    simp only [List.mem_singleton, exists_eq_left, Bool.and_eq_true, decide_eq_true_eq]
    constructor
    · rintro ⟨a, b, c⟩
      have := this.1 ⟨a, b⟩
      exact ⟨⟨⟨this.1, this.2.1⟩, this.2.2⟩, c⟩
    · rintro ⟨⟨⟨a, b⟩, c⟩, d⟩
      have := this.2 ⟨a, b, c⟩
      exact ⟨this.1, this.2, d⟩
  · rw [if_neg k2, if_neg k2]
    by_cases k6 : k = 6 ∨ k = 14
    · rw [if_pos k6, if_pos k6, decide_eq_true_eq]
      constructor
      · rintro ⟨d, hd, hl, he, hf⟩
        rcases hin with h | ⟨-, -, -, h2⟩
        · exact absurd h hl
        · refine ⟨?_, hf⟩
          have : dirF q t ∈ aslantL := (turn_mem_aslant s _).1 ⟨d, hd, he.symm⟩
          have := h2.trans (decide_eq_true this)
          exact of_decide_eq_true this
      · rintro ⟨hl, hf⟩
        rcases hin with h | ⟨-, -, -, h2⟩
        · omega
        · have hm : dirF q t ∈ aslantL := of_decide_eq_true (h2.symm.trans (decide_eq_true hl))
          obtain ⟨d, hd, he⟩ := (turn_mem_aslant s _).2 hm
          exact ⟨d, hd, by omega, he.symm, hf⟩
    · rw [if_neg k6, if_neg k6]
      by_cases k7 : k = 7 ∨ k = 15
      · rw [if_pos k7, if_pos k7, decide_eq_true_eq]
        constructor
        · rintro ⟨d, hd, hl, he, hf⟩
          rcases hin with h | ⟨-, -, h2, -⟩
          · exact absurd h hl
          · refine ⟨?_, hf⟩
            have : dirF q t ∈ straightL := (turn_mem_straight s _).1 ⟨d, hd, he.symm⟩
            have := h2.trans (decide_eq_true this)
            exact of_decide_eq_true this
        · rintro ⟨hl, hf⟩
          rcases hin with h | ⟨-, -, h2, -⟩
          · omega
          · have hm : dirF q t ∈ straightL := of_decide_eq_true (h2.symm.trans (decide_eq_true hl))
            obtain ⟨d, hd, he⟩ := (turn_mem_straight s _).2 hm
            exact ⟨d, hd, by omega, he.symm, hf⟩
      · rw [if_neg k7, if_neg k7]
        simp
end Go.Proofs.YtilhicohfnaclaaDoor

/-
  A plain fact on ways (no program is named here): what lies between two squares are squares.
-/
namespace Go.Proofs.YtilhicohfnaclaaDoor
set_option maxRecDepth 100000
open Go.RowKit
set_option linter.unusedVariables false
set_option linter.unusedSimpArgs false

theorem line_rng (a b : Int) (h : lineF a b ≠ 0) : 0 ≤ a ∧ a ≤ 80 ∧ 0 ≤ b ∧ b ≤ 80 := by
  unfold lineF at h
  by_cases hc : a < 0 ∨ 80 < a ∨ b < 0 ∨ 80 < b ∨ a = b
  · rw [if_pos hc] at h
    exact absurd rfl h
  · omega
theorem sgn_rng (n : Int) : -1 ≤ sgnF n ∧ sgnF n ≤ 1 := by
  unfold sgnF
  repeat' split
  all_goals omega
theorem between_inside (a b : Int) : ∀ u ∈ betweenL a b, 0 ≤ u ∧ u < 81 := by
  intro u hu
  by_cases hl : lineF a b = 0
  · unfold betweenL at hu
    rw [if_pos hl] at hu
    cases hu
  · obtain ⟨a0, a1, b0, b1⟩ := line_rng a b hl
    have hok := path_in a.toNat (by omega) b.toNat (by omega)
    rw [show ((a.toNat : Nat) : Int) = a by omega, show ((b.toNat : Nat) : Int) = b by omega] at hok
    rcases hok with h | ⟨hm, he, -⟩
    · exact absurd h hl
    · have hp := path_ok a.toNat (by omega) (dirF a b) he
      rw [show ((a.toNat : Nat) : Int) = a by omega] at hp
      have key : ∀ (l pre : List Int), okPath a (dirF a b) pre l = true → (∀ v ∈ l, 0 ≤ v ∧ v < 81) → (∀ v ∈ pre, 0 ≤ v ∧ v < 81) → b ∈ l → ∀ v ∈ betweenL a b, 0 ≤ v ∧ v < 81 := by
        intro l
        induction l with
        | nil => intro pre _ _ _ hb; cases hb
        | cons x l ih =>
          intro pre hok hl2 hpre hb v hv
          obtain ⟨h1, h2, h3, h4⟩ := ok_head hok
          rcases List.mem_cons.1 hb with rfl | hb
          · rw [h3] at hv
            exact hpre v hv
          · exact ih (pre ++ [x]) h4 (fun v hv => hl2 v (List.mem_cons_of_mem _ hv)) (fun v hv => by
              rcases List.mem_append.1 hv with h5 | h5
              · exact hpre v h5
              · rw [List.mem_singleton.1 h5]; exact hl2 x List.mem_cons_self) hb v hv
      refine key _ [] hp ?_ (fun v hv => by cases hv) hm u hu
      intro v hv
      have : wayL 0 (dirF a b) 9 (fromF (dirF a b) a) = pathL (dirF a b) 9 (fromF (dirF a b) a) := by
        have cz : ∀ l : List Int, cutL 0 l = l := by
          intro l
          induction l with
          | nil => rfl
          | cons x l ih => unfold cutL; rw [Nat.zero_testBit, if_neg (by decide), ih]
        rw [way_cut, cz]
      rw [← this] at hv
      have hne := eight_ne _ he
      have hsm : I64 (dirF a b).1 ∧ I64 (dirF a b).2 := by
        have := sgn_rng (b / 9 - a / 9)
        have := sgn_rng (b % 9 - a % 9)
        unfold I64 dirF
        omega
      have hw := from_where (dirF a b) a hsm.1 hsm.2
      have := wayL_mem 0 (dirF a b) hsm.1 hsm.2 hne 9 _ (by omega) v hv
      exact ⟨this.1, this.2.1⟩
end Go.Proofs.YtilhicohfnaclaaDoor

/-
  More plain facts on ways and what pieces reach (no program is named here): for RayWays, RayTurns and WholeReach.
-/
namespace Go.Proofs.YtilhicohfnaclaaDoor
set_option maxRecDepth 100000
open Go.RowKit
set_option linter.unusedVariables false
set_option linter.unusedSimpArgs false

/-! ### RayWays -/
theorem zero_of_bits {n : Nat} (h : ∀ i, n.testBit i = false) : n = 0 := by
  apply Nat.eq_of_testBit_eq
  intro i
  rw [h i, Nat.zero_testBit]
theorem way_less (n m : Nat) (hnm : ∀ i, m.testBit i = true → n.testBit i = true) (q : Int) (d : Int × Int) : minusN (wayN q d n) (wayN q d m) = 0 := by
  apply zero_of_bits
  intro i
  rw [test_minus]
  cases h : (wayN q d n).testBit i with
  | false => rfl
  | true => rw [wayN_more n m hnm q d i h]; rfl
theorem pop_one_le (n : Nat) : ∀ k, (∀ i j, i < k → j < k → n.testBit i = true → n.testBit j = true → i = j) → pop k n ≤ 1
  | 0, _ => Nat.zero_le _
  | k + 1, h => by
    unfold pop
    by_cases h0 : n.testBit 0 = true
    · have hz : pop k (n / 2) = 0 := by
        have : ∀ (j x : Nat), (∀ i, i < j → x.testBit i = false) → pop j x = 0 := by
          intro j
          induction j with
          | zero => intro x _; rfl
          | succ j ih =>
            intro x hx
            unfold pop
            have e0 := hx 0 (by omega)
            rw [Nat.testBit_zero] at e0
            have e1 : x % 2 = 0 := by
              have := of_decide_eq_false e0
              omega
            rw [e1, ih (x / 2) (fun i hi => by
              have := hx (i + 1) (by omega)
              rwa [Nat.testBit_succ] at this)]
        apply this
        intro i hi
        cases hb : (n / 2).testBit i with
        | false => rfl
        | true =>
          have h2 : n.testBit (i + 1) = true := by rw [Nat.testBit_succ]; exact hb
          have := h 0 (i + 1) (by omega) (by omega) h0 h2
          omega
      rw [hz]
      omega
    · have e1 : n % 2 = 0 := by
        rw [Nat.testBit_zero] at h0
        have := of_decide_eq_false (by simpa using h0 : decide (n % 2 = 1) = false)
        omega
      have := pop_one_le (n / 2) k (fun i j hi hj a b => by
        have := h (i + 1) (j + 1) (by omega) (by omega) (by rw [Nat.testBit_succ]; exact a) (by rw [Nat.testBit_succ]; exact b)
        omega)
      omega
/-- A way has at most one taken square: its last. -/
theorem wayL_one (n : Nat) (d : Int × Int) : ∀ (f : Nat) (t : Int), ∀ u ∈ wayL n d f t, ∀ v ∈ wayL n d f t, n.testBit u.toNat = true → n.testBit v.toNat = true → u = v
  | 0, t, u, hu, _, _, _, _ => by cases hu
  | f + 1, t, u, hu, v, hv, a, b => by
    unfold wayL at hu hv
    by_cases h : t < 0
    · rw [if_pos h] at hu
      cases hu
    · rw [if_neg h] at hu hv
      by_cases hb : n.testBit t.toNat = true
      · rw [if_pos hb] at hu hv
        rw [List.mem_singleton.1 hu, List.mem_singleton.1 hv]
      · rw [if_neg hb] at hu hv
        rcases List.mem_cons.1 hu with rfl | hu
        · exact absurd a hb
        · rcases List.mem_cons.1 hv with rfl | hv
          · exact absurd b hb
          · exact wayL_one n d f _ u hu v hv a b
theorem way_taken (q : Int) (d : Int × Int) (n : Nat) : pop 81 (wayN q d n &&& n) ≤ 1 := by
  apply pop_one_le
  intro i j hi hj a b
  rw [Nat.testBit_and, Bool.and_eq_true] at a b
  unfold wayN at a b
  by_cases h : d.1 = 0 ∧ d.2 = 0
  · rw [if_pos h, Nat.zero_testBit] at a
    exact absurd a.1 (by decide)
  · rw [if_neg h, ofN_test, decide_eq_true_eq] at a b
    have := wayL_one n d 9 _ _ a.1.1 _ b.1.1 (by simpa using a.2) (by simpa using b.2)
    omega
/-- From each square of a way the same way turned about leads back to the one ahead. -/
theorem from_back (d : Int × Int) (p : Int) (h1 : I64 d.1) (h2 : I64 d.2) (h : 0 ≤ fromF d p) : fromF (wrap64 (-d.1), wrap64 (-d.2)) (fromF d p) = p ∧ 0 ≤ p ∧ p < 81 := by
  rcases from_where d p h1 h2 with e | ⟨a, b, c, e, f, g⟩
  · omega
  · have w1 : wrap64 (-d.1) = -d.1 := by unfold wrap64; omega
    have w2 : wrap64 (-d.2) = -d.2 := by unfold wrap64; omega
    rw [w1, w2]
    refine ⟨?_, a, b⟩
    rw [fromF_eq (-d.1, -d.2) (fromF d p) p ⟨c, e⟩ ⟨a, b⟩ ⟨by show -100 ≤ -d.1; omega, by show -d.1 ≤ 100; omega⟩ ⟨by show -100 ≤ -d.2; omega, by show -d.2 ≤ 100; omega⟩]
    exact ⟨by show _ = -d.1; omega, by show _ = -d.2; omega⟩
theorem wayL_back (n : Nat) (d : Int × Int) (h1 : I64 d.1) (h2 : I64 d.2) : ∀ (f : Nat) (p : Int), ∀ x ∈ wayL n d f (fromF d p), fromF (wrap64 (-d.1), wrap64 (-d.2)) x = p ∨ fromF (wrap64 (-d.1), wrap64 (-d.2)) x ∈ wayL n d f (fromF d p)
  | 0, p, x, hx => by cases hx
  | f + 1, p, x, hx => by
    unfold wayL at hx ⊢
    by_cases h : fromF d p < 0
    · rw [if_pos h] at hx
      cases hx
    · rw [if_neg h] at hx ⊢
      rcases List.mem_cons.1 hx with rfl | hx
      · exact .inl (from_back d p h1 h2 (by omega)).1
      · by_cases hb : n.testBit (fromF d p).toNat = true
        · rw [if_pos hb] at hx
          cases hx
        · rw [if_neg hb] at hx ⊢
          rcases wayL_back n d h1 h2 f (fromF d p) x hx with h3 | h3
          · exact .inr (by rw [h3]; exact List.mem_cons_self)
          · exact .inr (List.mem_cons_of_mem _ h3)
theorem way_back (q : Int) (d : Int × Int) (n i : Nat) (h1 : I64 d.1) (h2 : I64 d.2) (h : (wayN q d n).testBit i = true) :
    fromF (wrap64 (-d.1), wrap64 (-d.2)) i = q ∨ (0 ≤ fromF (wrap64 (-d.1), wrap64 (-d.2)) i ∧ fromF (wrap64 (-d.1), wrap64 (-d.2)) i < 81 ∧ (wayN q d n).testBit (fromF (wrap64 (-d.1), wrap64 (-d.2)) i).toNat = true) := by
  unfold wayN at h ⊢
  by_cases hd : d.1 = 0 ∧ d.2 = 0
  · rw [if_pos hd, Nat.zero_testBit] at h
    exact absurd h (by decide)
  · rw [if_neg hd] at h ⊢
    rw [ofN_test, decide_eq_true_eq] at h
    rcases wayL_back n d h1 h2 9 q i h.1 with h3 | h3
    · exact .inl h3
    · right
      have hw := from_where d q h1 h2
      have hm := wayL_mem n d h1 h2 hd 9 _ (by omega) _ h3
      refine ⟨hm.1, hm.2.1, ?_⟩
      rw [ofN_test, decide_eq_true_eq]
      refine ⟨?_, by omega⟩
      rw [show (((fromF (wrap64 (-d.1), wrap64 (-d.2)) (i : Int)).toNat : Nat) : Int) = fromF (wrap64 (-d.1), wrap64 (-d.2)) (i : Int) by omega]
      exact h3

/-! ### RayTurns -/
theorem between_turn : ∀ a : Nat, a < 81 → ∀ b : Nat, b < 81 → betweenL (80 - (a : Int)) (80 - (b : Int)) = (betweenL a b).map (fun u => 80 - u) ∧ betweenL b a = (betweenL a b).reverse ∧ lineF (80 - (a : Int)) (80 - (b : Int)) = lineF a b ∧ lineF b a = lineF a b := by decide +kernel
theorem free_turn (a b : Nat) (ha : a < 81) (hb : b < 81) (n m : Nat) (hm : ∀ i, i < 81 → m.testBit (80 - i) = n.testBit i) (hin : ∀ u ∈ betweenL a b, 0 ≤ u ∧ u < 81) : freeF (80 - (a : Int)) (80 - (b : Int)) m = freeF a b n := by
  unfold freeF
  rw [(between_turn a ha b hb).1, List.all_map]
  rw [Bool.eq_iff_iff, List.all_eq_true, List.all_eq_true]
  constructor
  · intro h u hu
    have := h u hu
    have hi := hin u hu
    simp only [Function.comp] at this
    rw [show (80 - u).toNat = 80 - u.toNat by omega, hm u.toNat (by omega)] at this
    exact this
  · intro h u hu
    have := h u hu
    have hi := hin u hu
    simp only [Function.comp]
    rw [show (80 - u).toNat = 80 - u.toNat by omega, hm u.toNat (by omega)]
    exact this
theorem free_back (a b : Nat) (ha : a < 81) (hb : b < 81) (n : Nat) : freeF b a n = freeF a b n := by
  unfold freeF
  rw [(between_turn a ha b hb).2.1, List.all_reverse]
theorem slides_turn (k : Int) (hk : 1 ≤ k ∧ k ≤ 15) (a b : Nat) (ha : a < 81) (hb : b < 81) : slidesF (k + 16) (80 - (a : Int)) (80 - (b : Int)) = slidesF k a b := by
  have hl := (between_turn a ha b hb).2.2.1
  have h0 : kindF (k + 16) = kindF k ∧ (k = 13 ∨ (sideF (k + 16) = 1 ∧ sideF k = 0)) := by
    by_cases h13 : k = 13
    · subst h13
      exact ⟨by decide +kernel, .inl rfl⟩
    · have e1 := kind_at 1 k (.inr rfl) hk h13
      have e0 := kind_at 0 k (.inl rfl) hk h13
      rw [show 16 * 1 + k = k + 16 by omega] at e1
      rw [show 16 * 0 + k = k by omega] at e0
      exact ⟨e1.1.trans e0.1.symm, .inr ⟨e1.2, e0.2⟩⟩
  unfold slidesF
  rw [h0.1, hl]
  by_cases k2 : kindF k = 2
  · rw [if_pos k2, if_pos k2]
    have hs : sideF (k + 16) = 1 ∧ sideF k = 0 := by
      rcases h0.2 with h | h
      · subst h
        exact absurd k2 (by decide +kernel)
      · exact h
    have e1 : ((80 - (a : Int)) / 9 = (80 - (b : Int)) / 9) ↔ ((a : Int) / 9 = (b : Int) / 9) := by omega
    have e2 : (0 < aheadF (sideF (k + 16)) (80 - (a : Int)) (80 - (b : Int))) ↔ (0 < aheadF (sideF k) a b) := by
      rw [hs.1, hs.2]
      unfold aheadF
      rw [if_pos rfl, if_neg (by decide)]
      omega
    rw [decide_eq_decide.2 e1, decide_eq_decide.2 e2]
  · rw [if_neg k2, if_neg k2]
/-- WHITE's REACH IS BLACK's, TURNED ABOUT. -/
theorem ray_turn (k : Int) (hk : 1 ≤ k ∧ k ≤ 15) (q t : Nat) (hq : q < 81) (ht : t < 81) (n m : Nat) (hm : ∀ i, i < 81 → m.testBit (80 - i) = n.testBit i) (hin : ∀ u ∈ betweenL q t, 0 ≤ u ∧ u < 81) :
    (rayN (k + 16) (80 - (q : Int)) m).testBit (80 - t) = (rayN k q n).testBit t := by
  have h1 := ray_test (k + 16) (80 - q) (80 - t) (by omega) (by omega) m
  rw [show ((80 - q : Nat) : Int) = 80 - (q : Int) by omega, show ((80 - t : Nat) : Int) = 80 - (t : Int) by omega] at h1
  rw [h1, ray_test k q t hq ht n]
  unfold reachF
  rw [slides_turn k hk q t hq ht, free_turn q t hq ht n m hm hin]
  congr 1
  have s1 := stepN_test (k + 16) (80 - (q : Int)) (80 - t) (by omega)
  have s0 := stepN_test k q t ht
  rw [show ((80 - t : Nat) : Int) = 80 - (t : Int) by omega] at s1
  rw [← s1, ← s0]
  exact turn_test k q hk ⟨by omega, by omega⟩ t ht
/-- Sliding pieces and kings reach back. -/
theorem ray_back (k : Int) (hk : k = 6 ∨ k = 7 ∨ k = 8 ∨ k = 14 ∨ k = 15) (q t : Nat) (hq : q < 81) (ht : t < 81) (n : Nat) (h : (rayN k q n).testBit t = true) : (rayN k t n).testBit q = true := by
  rw [ray_test k q t hq ht n] at h
  rw [ray_test k t q ht hq n]
  unfold reachF at h ⊢
  rw [free_back q t hq ht n]
  have hl := (between_turn q hq t ht).2.2.2
  have hs : slidesF k t q = slidesF k q t := by
    unfold slidesF
    rw [hl]
    rcases hk with rfl | rfl | rfl | rfl | rfl
    · rw [show kindF 6 = 6 by decide +kernel]; rfl
    · rw [show kindF 7 = 7 by decide +kernel]; rfl
    · rw [show kindF 8 = 8 by decide +kernel]; rfl
    · rw [show kindF 14 = 14 by decide +kernel]; rfl
    · rw [show kindF 15 = 15 by decide +kernel]; rfl
  have hst : refStepF k t q = refStepF k q t := by
    unfold refStepF
    by_cases c : (q : Int) < 0 ∨ 80 < (q : Int) ∨ (t : Int) < 0 ∨ 80 < (t : Int) ∨ (q : Int) = t
    · rw [if_pos c, if_pos (by omega)]
    · rw [if_neg c, if_neg (by omega)]
      have e1 : sizeF ((q : Int) / 9 - (t : Int) / 9) = sizeF ((t : Int) / 9 - (q : Int) / 9) := by
        unfold sizeF
        repeat' split
        all_goals omega
      rw [e1]
      have e2 : aheadF (sideF k) t q = -aheadF (sideF k) q t := by
        unfold aheadF
        split <;> omega
      rw [e2]
      generalize sizeF ((t : Int) / 9 - (q : Int) / 9) = f
      generalize aheadF (sideF k) q t = u
      rcases hk with rfl | rfl | rfl | rfl | rfl
      · rw [show kindF 6 = 6 by decide +kernel]; rfl
      · rw [show kindF 7 = 7 by decide +kernel]; rfl
      all_goals
        first
          | rw [show kindF 8 = 8 by decide +kernel]
          | rw [show kindF 14 = 14 by decide +kernel]
          | rw [show kindF 15 = 15 by decide +kernel]
        have e3 : sizeF (-u) = sizeF u := by
          unfold sizeF
          repeat' split
          all_goals omega
        unfold kindStep
        simp [e3]
  rw [hs, hst]
  exact h
end Go.Proofs.YtilhicohfnaclaaDoor

/-
  Plain facts on what pieces reach together (no program is named here): for WholeReach.
-/
namespace Go.Proofs.YtilhicohfnaclaaDoor
set_option maxRecDepth 100000
open Go.RowKit
set_option linter.unusedVariables false
set_option linter.unusedSimpArgs false

/-- What a side's piece of a kind reaches, told by steps and slides. -/
theorem reach_at (s k : Int) (hs : s = 0 ∨ s = 1) (hk : 1 ≤ k ∧ k ≤ 15) (h13 : k ≠ 13) (q t n : Nat) (hq : q < 81) (ht : t < 81) :
    (rayN (16 * s + k) q n).testBit t = ((!decide ((q : Int) = t) && kindStep k (sizeF ((t : Int) / 9 - (q : Int) / 9)) (aheadF s q t)) || ((if k = 2 then decide (lineF q t = 1) && decide ((q : Int) / 9 = (t : Int) / 9) && decide (0 < aheadF s q t) else if k = 6 ∨ k = 14 then decide (lineF q t = 2) else if k = 7 ∨ k = 15 then decide (lineF q t = 1) else false) && freeF q t n)) := by
  have hkd := kind_at s k hs hk h13
  rw [ray_test _ q t hq ht n]
  unfold reachF refStepF slidesF
  rw [hkd.1, hkd.2]
  by_cases h : (q : Int) = t
  · rw [if_pos (by omega), decide_eq_true h]
    rfl
  · rw [if_neg (by omega), decide_eq_false h]
    rfl
theorem near_free (q t : Nat) (s : Int) (n : Nat) (hf : sizeF ((t : Int) / 9 - (q : Int) / 9) ≤ 1) (hu : sizeF (aheadF s q t) ≤ 1) : betweenL q t = [] := by
  unfold betweenL
  split
  · rfl
  · have : distF q t - 1 = 0 := by
      unfold distF
      unfold sizeF at hf hu
      unfold aheadF at hu
      have h1 : ((t : Int) / 9 - (q : Int) / 9).natAbs ≤ 1 := by split at hf <;> omega
      have h2 : ((t : Int) % 9 - (q : Int) % 9).natAbs ≤ 1 := by
        split at hu
        · split at hu <;> omega
        · split at hu <;> omega
      omega
    rw [this]
    rfl
theorem near_line (q t : Nat) (hq : q < 81) (ht : t < 81) (s : Int) (ne : (q : Int) ≠ t) (hf : sizeF ((t : Int) / 9 - (q : Int) / 9) ≤ 1) (hu : sizeF (aheadF s q t) ≤ 1) :
    (lineF q t = 1 ∧ (sizeF ((t : Int) / 9 - (q : Int) / 9) = 0 ∨ aheadF s q t = 0)) ∨ (lineF q t = 2 ∧ sizeF ((t : Int) / 9 - (q : Int) / 9) = 1 ∧ aheadF s q t ≠ 0) := by
  unfold sizeF at *
  unfold aheadF at *
  unfold lineF
  rw [if_neg (by omega)]
  by_cases hs : s = 1
  · rw [if_pos hs] at *
    repeat' split at hf
    all_goals (repeat' split at hu)
    all_goals (repeat' split)
    all_goals omega
  · rw [if_neg hs] at *
    repeat' split at hf
    all_goals (repeat' split at hu)
    all_goals (repeat' split)
    all_goals omega
theorem free_nil (q t n : Nat) (h : betweenL q t = []) : freeF q t n = true := by
  unfold freeF
  rw [h]
  rfl
theorem eq_of_bits81 {n m : Nat} (hn : Sq n) (hm : Sq m) (h : ∀ i, i < 81 → n.testBit i = m.testBit i) : n = m := by
  apply Nat.eq_of_testBit_eq
  intro i
  by_cases hi : i < 81
  · exact h i hi
  · rw [test_sq hn i (by omega), test_sq hm i (by omega)]
theorem size_nonneg (n : Int) : 0 ≤ sizeF n := by
  unfold sizeF
  split <;> omega
/-- PROMOTED PAWNS, LANCES, KNIGHTS AND SILVERS REACH WHAT A GOLD DOES. -/
theorem reach_gold (s k : Int) (hs : s = 0 ∨ s = 1) (hk : k = 9 ∨ k = 10 ∨ k = 11 ∨ k = 12) (q n : Nat) (hq : q < 81) : rayN (16 * s + k) q n = rayN (16 * s + 5) q n := by
  refine eq_of_bits81 (rayN_sq _ _ _) (rayN_sq _ _ _) fun t ht => ?_
  rw [reach_at s k hs (by omega) (by omega) q t n hq ht, reach_at s 5 hs (by omega) (by omega) q t n hq ht]
  rcases hk with rfl | rfl | rfl | rfl <;> rfl
/-- A PROMOTED BISHOP REACHES WHAT A BISHOP DOES, AND WHAT A KING DOES STRAIGHT. -/
theorem reach_horse (s : Int) (hs : s = 0 ∨ s = 1) (q n : Nat) (hq : q < 81) : rayN (16 * s + 14) q n = rayN (16 * s + 6) q n ||| (rayN (16 * s + 8) q n &&& rayN (16 * s + 7) q n) := by
  refine eq_of_bits81 (rayN_sq _ _ _) ((rayN_sq _ _ _).or (rayN_sq _ _ _).and) fun t ht => ?_
  rw [Nat.testBit_or, Nat.testBit_and, reach_at s 14 hs (by omega) (by omega) q t n hq ht, reach_at s 6 hs (by omega) (by omega) q t n hq ht, reach_at s 7 hs (by omega) (by omega) q t n hq ht, reach_at s 8 hs (by omega) (by omega) q t n hq ht]
  have hl := near_line q t hq ht s
  have hf := near_free q t s n
  have hz := size_nonneg ((t : Int) / 9 - (q : Int) / 9)
  unfold kindStep
  generalize sizeF ((t : Int) / 9 - (q : Int) / 9) = f at *
  generalize hU : aheadF s q t = u at *
  by_cases ne : (q : Int) = t
  · simp [ne]
  · by_cases hn : f ≤ 1 ∧ sizeF u ≤ 1
    · have h1 := hl ne hn.1 hn.2
      have h2 := free_nil q t n (hf hn.1 hn.2)
      rw [h2]
      rcases h1 with ⟨h3, h4⟩ | ⟨h3, h4, h5⟩
      · have h6 : f = 0 ∨ u = 0 := h4
        simp [h3, hn, ne, h6]
      · have h6 : ¬ (f = 0 ∨ u = 0) := by omega
        simp [h3, hn, ne, h6]
    · simp [hn]
/-- A PROMOTED ROOK REACHES WHAT A ROOK DOES, AND WHAT A KING DOES ASLANT. -/
theorem reach_dragon (s : Int) (hs : s = 0 ∨ s = 1) (q n : Nat) (hq : q < 81) : rayN (16 * s + 15) q n = rayN (16 * s + 7) q n ||| (rayN (16 * s + 8) q n &&& rayN (16 * s + 6) q n) := by
  refine eq_of_bits81 (rayN_sq _ _ _) ((rayN_sq _ _ _).or (rayN_sq _ _ _).and) fun t ht => ?_
  rw [Nat.testBit_or, Nat.testBit_and, reach_at s 15 hs (by omega) (by omega) q t n hq ht, reach_at s 6 hs (by omega) (by omega) q t n hq ht, reach_at s 7 hs (by omega) (by omega) q t n hq ht, reach_at s 8 hs (by omega) (by omega) q t n hq ht]
  have hl := near_line q t hq ht s
  have hf := near_free q t s n
  have hz := size_nonneg ((t : Int) / 9 - (q : Int) / 9)
  unfold kindStep
  generalize sizeF ((t : Int) / 9 - (q : Int) / 9) = f at *
  generalize hU : aheadF s q t = u at *
  by_cases ne : (q : Int) = t
  · simp [ne]
  · by_cases hn : f ≤ 1 ∧ sizeF u ≤ 1
    · have h1 := hl ne hn.1 hn.2
      have h2 := free_nil q t n (hf hn.1 hn.2)
      rw [h2]
      rcases h1 with ⟨h3, h4⟩ | ⟨h3, h4, h5⟩
      · have h6 : ¬ (f = 1 ∧ u ≠ 0) := by omega
        simp [h3, hn, ne, h6]
      · simp [h3, hn, ne, h4, h5]
    · simp [hn]
/-- A KING GOES NOWHERE BUT WHERE A PROMOTED BISHOP DOES. -/
theorem reach_king (s : Int) (hs : s = 0 ∨ s = 1) (q n : Nat) (hq : q < 81) : minusN (rayN (16 * s + 8) q n) (rayN (16 * s + 14) q n) = 0 := by
  refine eq_of_bits81 (rayN_sq _ _ _).minus Sq.zero fun t ht => ?_
  rw [test_minus, Nat.zero_testBit, reach_at s 14 hs (by omega) (by omega) q t n hq ht, reach_at s 8 hs (by omega) (by omega) q t n hq ht]
  have hl := near_line q t hq ht s
  have hf := near_free q t s n
  have hz := size_nonneg ((t : Int) / 9 - (q : Int) / 9)
  unfold kindStep
  generalize sizeF ((t : Int) / 9 - (q : Int) / 9) = f at *
  generalize hU : aheadF s q t = u at *
  by_cases ne : (q : Int) = t
  · simp [ne]
  · by_cases hn : f ≤ 1 ∧ sizeF u ≤ 1
    · have h1 := hl ne hn.1 hn.2
      have h2 := free_nil q t n (hf hn.1 hn.2)
      rw [h2]
      rcases h1 with ⟨h3, h4⟩ | ⟨h3, h4, h5⟩
      · have h6 : f = 0 ∨ u = 0 := h4
        simp [h3, hn, ne, h6]
      · have h6 : ¬ (f = 0 ∨ u = 0) := by omega
        simp [h3, hn, ne, h6]
    · simp [hn]
/-- A LANCE GOES NOWHERE BUT WHERE A ROOK DOES. -/
theorem reach_lance (s : Int) (hs : s = 0 ∨ s = 1) (q n : Nat) (hq : q < 81) : minusN (rayN (16 * s + 2) q n) (rayN (16 * s + 7) q n) = 0 := by
  refine eq_of_bits81 (rayN_sq _ _ _).minus Sq.zero fun t ht => ?_
  rw [test_minus, Nat.zero_testBit, reach_at s 2 hs (by omega) (by omega) q t n hq ht, reach_at s 7 hs (by omega) (by omega) q t n hq ht]
  unfold kindStep
  cases freeF q t n <;> by_cases h : lineF q t = 1 <;> simp [h]
/-- A PAWN GOES NOWHERE BUT WHERE A LANCE DOES. -/
theorem reach_pawn (s : Int) (hs : s = 0 ∨ s = 1) (q n : Nat) (hq : q < 81) : minusN (rayN (16 * s + 1) q n) (rayN (16 * s + 2) q n) = 0 := by
  refine eq_of_bits81 (rayN_sq _ _ _).minus Sq.zero fun t ht => ?_
  rw [test_minus, Nat.zero_testBit, reach_at s 1 hs (by omega) (by omega) q t n hq ht, reach_at s 2 hs (by omega) (by omega) q t n hq ht]
  have hl := near_line q t hq ht s
  have hf := near_free q t s n
  have hz : sizeF ((t : Int) / 9 - (q : Int) / 9) = 0 → (q : Int) / 9 = (t : Int) / 9 := by
    unfold sizeF
    split <;> omega
  unfold kindStep
  generalize sizeF ((t : Int) / 9 - (q : Int) / 9) = f at *
  generalize hU : aheadF s q t = u at *
  by_cases ne : (q : Int) = t
  · simp [ne]
  · by_cases hn : f = 0 ∧ u = 1
    · have hs1 : sizeF u ≤ 1 := by rw [hn.2]; decide
      have h1 := hl ne (by omega) hs1
      have h2 := free_nil q t n (hf (by omega) hs1)
      have h3 : lineF q t = 1 := by
        rcases h1 with h | h
        · exact h.1
        · omega
      simp [h2, h3, hn, ne, hz hn.1]
    · simp [hn]
/-- WHAT IS REACHED BY A PROMOTED BISHOP OR ROOK HAS NOTHING TAKEN BETWEEN. -/
theorem reach_free (s k : Int) (hs : s = 0 ∨ s = 1) (hk : k = 14 ∨ k = 15) (q t n : Nat) (hq : q < 81) (ht : t < 81) (h : (rayN (16 * s + k) q n).testBit t = true) : freeF q t n = true := by
  rw [reach_at s k hs (by omega) (by omega) q t n hq ht] at h
  rw [Bool.or_eq_true, Bool.and_eq_true, Bool.and_eq_true] at h
  rcases h with ⟨h1, h2⟩ | ⟨_, h2⟩
  · refine free_nil q t n (near_free q t s n ?_ ?_)
    · unfold kindStep at h2
      rcases hk with rfl | rfl
      · simp at h2; omega
      · simp at h2; omega
    · unfold kindStep at h2
      rcases hk with rfl | rfl
      · simp at h2; omega
      · simp at h2; omega
  · exact h2
theorem between_apart (q t n : Nat) (h : freeF q t n = true) (hin : ∀ u ∈ betweenL q t, 0 ≤ u ∧ u < 81) : ofN (betweenL q t) &&& n = 0 := by
  apply zero_of_bits
  intro i
  rw [Nat.testBit_and, ofN_test]
  by_cases hi : ((i : Int) ∈ betweenL q t) ∧ i < 81
  · have := (freeF_iff q t n).1 h i hi.1
    rw [show ((i : Int)).toNat = i by omega] at this
    rw [this, Bool.and_false]
  · rw [decide_eq_false hi, Bool.false_and]
end Go.Proofs.YtilhicohfnaclaaDoor
