/-
  What a piece reaches is the document's answer, by what lies between.
-/
import Derived.Test.YtnmekghjkajhcaaDoorLine0
namespace Go.Proofs.YtnmekghjkajhcaaDoor
open Go.RowKit
set_option linter.unusedVariables false
set_option linter.unusedSimpArgs false

/-- A way up to the first square that is taken, and with it. -/
def cutL (n : Nat) : List Int → List Int
  | [] => []
  | x :: l => x :: (if n.testBit x.toNat then [] else cutL n l)
theorem way_cut (n : Nat) (d : Int × Int) : ∀ (f : Nat) (t : Int), wayL n d f t = cutL n (pathL d f t)
  | 0, _ => rfl
  | f + 1, t => by
    unfold wayL pathL
    by_cases h : t < 0
    · rw [if_pos h, if_pos h]; rfl
    · rw [if_neg h, if_neg h, way_cut n d f (fromF d t)]; rfl
theorem ok_head {q t : Int} {d : Int × Int} {pre l : List Int} (h : okPath q d pre (t :: l) = true) : lineF q t ≠ 0 ∧ dirF q t = d ∧ betweenL q t = pre ∧ okPath q d (pre ++ [t]) l = true := by
  unfold okPath at h
  simp only [Bool.and_eq_true, decide_eq_true_eq] at h
  exact ⟨h.1.1.1, h.1.1.2, h.1.2, h.2⟩
theorem ok_mem {q : Int} {d : Int × Int} : ∀ (l pre : List Int), okPath q d pre l = true → ∀ t ∈ l, lineF q t ≠ 0 ∧ dirF q t = d ∧ ∀ u ∈ pre, u ∈ betweenL q t
  | [], _, _, _, h => by cases h
  | x :: l, pre, hok, t, ht => by
    obtain ⟨h1, h2, h3, h4⟩ := ok_head hok
    rcases List.mem_cons.1 ht with rfl | ht
    · exact ⟨h1, h2, fun u hu => by rw [h3]; exact hu⟩
    · obtain ⟨a, b, c⟩ := ok_mem l _ h4 t ht
      exact ⟨a, b, fun u hu => c u (List.mem_append_left _ hu)⟩
theorem cut_mem {q : Int} {d : Int × Int} (n : Nat) : ∀ (l pre : List Int), okPath q d pre l = true → (∀ u ∈ pre, n.testBit u.toNat = false) → ∀ t, t ∈ cutL n l ↔ (t ∈ l ∧ ∀ u ∈ betweenL q t, n.testBit u.toNat = false)
  | [], _, _, _, t => by simp [cutL]
  | x :: l, pre, hok, hpre, t => by
    obtain ⟨h1, h2, h3, h4⟩ := ok_head hok
    unfold cutL
    constructor
    · intro h
      rcases List.mem_cons.1 h with rfl | h
      · exact ⟨List.mem_cons_self, by rw [h3]; exact hpre⟩
      · by_cases hb : n.testBit x.toNat = true
        · rw [if_pos hb] at h
          cases h
        · rw [if_neg hb] at h
          have hp2 : ∀ u ∈ pre ++ [x], n.testBit u.toNat = false := fun u hu => by
            rcases List.mem_append.1 hu with h5 | h5
            · exact hpre u h5
            · rw [List.mem_singleton.1 h5]; simpa using hb
          obtain ⟨a, b⟩ := (cut_mem n l _ h4 hp2 t).1 h
          exact ⟨List.mem_cons_of_mem _ a, b⟩
    · rintro ⟨h, hf⟩
      rcases List.mem_cons.1 h with rfl | h
      · exact List.mem_cons_self
      · have hx : n.testBit x.toNat = false := hf x ((ok_mem l _ h4 t h).2.2 x (by simp))
        have hp2 : ∀ u ∈ pre ++ [x], n.testBit u.toNat = false := fun u hu => by
          rcases List.mem_append.1 hu with h5 | h5
          · exact hpre u h5
          · rw [List.mem_singleton.1 h5]; exact hx
        rw [if_neg (by rw [hx]; decide)]
        exact List.mem_cons_of_mem _ ((cut_mem n l _ h4 hp2 t).2 ⟨h, hf⟩)
def freeF (q t : Int) (n : Nat) : Bool := (betweenL q t).all fun u => !n.testBit u.toNat
theorem freeF_iff (q t : Int) (n : Nat) : freeF q t n = true ↔ ∀ u ∈ betweenL q t, n.testBit u.toNat = false := by
  unfold freeF
  rw [List.all_eq_true]
  constructor
  · intro h u hu
    simpa using h u hu
  · intro h u hu
    simpa using h u hu
theorem eight_ne : ∀ d ∈ eightL, ¬ (d.1 = 0 ∧ d.2 = 0) := by decide
/-- A WAY REACHES JUST THE SQUARES THAT LIE ON IT WITH NOTHING BETWEEN. -/
theorem way_test (q t : Nat) (hq : q < 81) (ht : t < 81) (d : Int × Int) (hd : d ∈ eightL) (n : Nat) : (wayN q d n).testBit t = true ↔ (lineF q t ≠ 0 ∧ dirF q t = d ∧ freeF q t n = true) := by
  unfold wayN
  rw [if_neg (eight_ne d hd), ofN_test, decide_eq_true_eq, way_cut, freeF_iff]
  have hok := path_ok q hq d hd
  rw [cut_mem n _ _ hok (fun u hu => by cases hu) t]
  constructor
  · rintro ⟨⟨hm, hf⟩, -⟩
    obtain ⟨a, b, -⟩ := ok_mem _ _ hok t hm
    exact ⟨a, b, hf⟩
  · rintro ⟨hl, rfl, hf⟩
    rcases path_in q hq t ht with h | ⟨hm, -⟩
    · exact absurd h hl
    · exact ⟨⟨hm, hf⟩, ht⟩
/-- The document's answer: does a piece slide from a square to another one? -/
def slidesF (p q t : Int) : Bool :=
  if kindF p = 2 then decide (lineF q t = 1) && decide (q / 9 = t / 9) && decide (0 < aheadF (sideF p) q t)
  else if kindF p = 6 ∨ kindF p = 14 then decide (lineF q t = 2) else if kindF p = 7 ∨ kindF p = 15 then decide (lineF q t = 1) else false
def reachF (p q t : Int) (n : Nat) : Bool := refStepF p q t || (slidesF p q t && freeF q t n)
theorem turn_eight (s : Int) : ∀ d ∈ eightL, turnF s d ∈ eightL := by
  intro d hd
  unfold turnF
  split
  · revert d; decide +kernel
  · exact hd
theorem eight_lance (q t : Nat) (hq : q < 81) (ht : t < 81) (s : Int) : (lineF q t ≠ 0 ∧ dirF q t = turnF s (0, -1)) ↔ (lineF q t = 1 ∧ (q : Int) / 9 = (t : Int) / 9 ∧ 0 < aheadF s q t) := by
  have e : turnF s (0, -1) = if s = 1 then (0, 1) else (0, -1) := by
    unfold turnF
    split <;> first | rfl | decide +kernel
  rw [e]
  unfold lineF dirF sgnF aheadF
  by_cases hs : s = 1
  · rw [if_pos hs, if_pos hs]
    simp only [Prod.mk.injEq]
    repeat' split
    all_goals omega
  · rw [if_neg hs, if_neg hs]
    simp only [Prod.mk.injEq]
    repeat' split
    all_goals omega
theorem turn_mem_aslant (s : Int) (d : Int × Int) : (∃ e ∈ aslantL, turnF s e = d) ↔ d ∈ aslantL := by
  unfold turnF
  split
  · constructor
    · rintro ⟨e, he, rfl⟩
      revert e; decide +kernel
    · intro h
      revert d; decide +kernel
  · constructor
    · rintro ⟨e, he, rfl⟩; exact he
    · intro h; exact ⟨d, h, rfl⟩
theorem turn_mem_straight (s : Int) (d : Int × Int) : (∃ e ∈ straightL, turnF s e = d) ↔ d ∈ straightL := by
  unfold turnF
  split
  · constructor
    · rintro ⟨e, he, rfl⟩
      revert e; decide +kernel
    · intro h
      revert d; decide +kernel
  · constructor
    · rintro ⟨e, he, rfl⟩; exact he
    · intro h; exact ⟨d, h, rfl⟩
theorem aslant_eight : ∀ d ∈ aslantL, d ∈ eightL := by decide
theorem straight_eight : ∀ d ∈ straightL, d ∈ eightL := by decide
theorem rdirs_eight (k : Int) : ∀ d ∈ rdirsL k, d ∈ eightL := by
  unfold rdirsL
  repeat' split
  all_goals decide
/-- WHAT A PIECE REACHES IS THE DOCUMENT's ANSWER. -/
theorem ray_test (p : Int) (q t : Nat) (hq : q < 81) (ht : t < 81) (n : Nat) : (rayN p q n).testBit t = reachF p q t n := by
  rw [Bool.eq_iff_iff, rayN_test, stepN_test p q t ht]
  unfold reachF
  rw [Bool.or_eq_true, Bool.and_eq_true]
  refine or_congr Iff.rfl ?_
  have h1 : (∃ j, ∃ h : j < (rdirsL (kindF p)).length, (wayN q (turnF (sideF p) (rdirsL (kindF p))[j]) n).testBit t = true) ↔ (∃ d ∈ rdirsL (kindF p), lineF q t ≠ 0 ∧ dirF q t = turnF (sideF p) d ∧ freeF q t n = true) := by
    constructor
    · rintro ⟨j, hj, h⟩
      exact ⟨_, List.getElem_mem hj, (way_test q t hq ht _ (turn_eight _ _ (rdirs_eight _ _ (List.getElem_mem hj))) n).1 h⟩
    · rintro ⟨d, hd, h⟩
      obtain ⟨j, hj, rfl⟩ := List.mem_iff_getElem.1 hd
      exact ⟨j, hj, (way_test q t hq ht _ (turn_eight _ _ (rdirs_eight _ _ hd)) n).2 h⟩
  rw [h1]
  have hin := path_in q hq t ht
  unfold slidesF rdirsL
  generalize kindF p = k
  generalize sideF p = s
  by_cases k2 : k = 2
  · rw [if_pos k2, if_pos k2]
    have := eight_lance q t hq ht s
    simp only [List.mem_singleton, exists_eq_left, Bool.and_eq_true, decide_eq_true_eq]
    constructor
    · rintro ⟨a, b, c⟩
      have := this.1 ⟨a, b⟩
      exact ⟨⟨⟨this.1, this.2.1⟩, this.2.2⟩, c⟩
    · rintro ⟨⟨⟨a, b⟩, c⟩, d⟩
      have := this.2 ⟨a, b, c⟩
      exact ⟨this.1, this.2, d⟩
  · rw [if_neg k2, if_neg k2]
    by_cases k6 : k = 6 ∨ k = 14
    · rw [if_pos k6, if_pos k6, decide_eq_true_eq]
      constructor
      · rintro ⟨d, hd, hl, he, hf⟩
        rcases hin with h | ⟨-, -, -, h2⟩
        · exact absurd h hl
        · refine ⟨?_, hf⟩
          have : dirF q t ∈ aslantL := (turn_mem_aslant s _).1 ⟨d, hd, he.symm⟩
          have := h2.trans (decide_eq_true this)
          exact of_decide_eq_true this
      · rintro ⟨hl, hf⟩
        rcases hin with h | ⟨-, -, -, h2⟩
        · omega
        · have hm : dirF q t ∈ aslantL := of_decide_eq_true (h2.symm.trans (decide_eq_true hl))
          obtain ⟨d, hd, he⟩ := (turn_mem_aslant s _).2 hm
          exact ⟨d, hd, by omega, he.symm, hf⟩
    · rw [if_neg k6, if_neg k6]
      by_cases k7 : k = 7 ∨ k = 15
      · rw [if_pos k7, if_pos k7, decide_eq_true_eq]
        constructor
        · rintro ⟨d, hd, hl, he, hf⟩
          rcases hin with h | ⟨-, -, h2, -⟩
          · exact absurd h hl
          · refine ⟨?_, hf⟩
            have : dirF q t ∈ straightL := (turn_mem_straight s _).1 ⟨d, hd, he.symm⟩
            have := h2.trans (decide_eq_true this)
            exact of_decide_eq_true this
        · rintro ⟨hl, hf⟩
          rcases hin with h | ⟨-, -, h2, -⟩
          · omega
          · have hm : dirF q t ∈ straightL := of_decide_eq_true (h2.symm.trans (decide_eq_true hl))
            obtain ⟨d, hd, he⟩ := (turn_mem_straight s _).2 hm
            exact ⟨d, hd, by omega, he.symm, hf⟩
      · rw [if_neg k7, if_neg k7]
        simp
end Go.Proofs.YtnmekghjkajhcaaDoor
