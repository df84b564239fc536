/-
  Some blocks of a call's own, of several types, laid and filled in an order that is drawn.
-/
import Derived.Test.YtmnkbckjhkegaaaDoorBlkg
namespace Go.Proofs.YtmnkbckjhkegaaaDoor
open Go.RowKit
set_option linter.unusedVariables false
set_option linter.unusedSimpArgs false

structure Blgt (T : Nat → TypeId) (Z : Nat → Array Value) (wc w : World) (N : Nat → Array Value) (ls : Array Bool) (A S c : Nat) (g : Nat → Nat) : Prop where
  blk : ∀ j, j < c → ls.getD (A + j) false = true → Blg (T j) wc w (g j) (if ls.getD (S + j) false then N j else Z j)
  ne : ∀ i j, i < c → j < c → i ≠ j → ls.getD (A + i) false = true → ls.getD (A + j) false = true → g i ≠ g j
  st : ∀ j, j < c → ls.getD (S + j) false = true → ls.getD (A + j) false = true

theorem Blgt.other {T : Nat → TypeId} {Z : Nat → Array Value} {wc w w' : World} {N : Nat → Array Value} {ls : Array Bool} {A S c : Nat} {g : Nat → Nat} (h : Blgt T Z wc w N ls A S c g) (hb : Below w.heap.size w w') (i : Nat) (hi : i < ls.size) (hA : ∀ j, j < c → i ≠ A + j) (hS : ∀ j, j < c → i ≠ S + j) :
    Blgt T Z wc w' N (ls.setIfInBounds i true) A S c g := by
  have eA : ∀ j, j < c → (ls.setIfInBounds i true).getD (A + j) false = ls.getD (A + j) false := fun j hj => (getF hi).trans (if_neg (hA j hj))
  have eS : ∀ j, j < c → (ls.setIfInBounds i true).getD (S + j) false = ls.getD (S + j) false := fun j hj => (getF hi).trans (if_neg (hS j hj))
  refine ⟨fun j hj => ?_, fun a b ha hb' => ?_, fun j hj => ?_⟩
  · rw [eA j hj, eS j hj]
    exact fun h1 => (h.blk j hj h1).grow hb
  · rw [eA a ha, eA b hb']
    exact h.ne a b ha hb'
  · rw [eS j hj, eA j hj]
    exact h.st j hj

theorem Blgt.laid {T : Nat → TypeId} {Z : Nat → Array Value} {wc w : World} {N : Nat → Array Value} {ls : Array Bool} {A S c : Nat} {g : Nat → Nat} (h : Blgt T Z wc w N ls A S c g) (hb : Below wc.heap.size wc w) (j0 : Nat) (hj0 : j0 < c) (hi : A + j0 < ls.size) (hu : ls.getD (A + j0) false = false) (hAS : ∀ i j, i < c → j < c → A + i ≠ S + j) :
    Blgt T Z wc (w.alloc (.cells (Z j0) (T j0))) N (ls.setIfInBounds (A + j0) true) A S c (fun k => if k = j0 then w.heap.size else g k) := by
  have eA : ∀ j, (ls.setIfInBounds (A + j0) true).getD (A + j) false = if j = j0 then true else ls.getD (A + j) false := fun j => by
    rw [getF hi]
    by_cases e : j = j0
    · subst e
      simp
    · rw [if_neg (by omega), if_neg e]
  have eS : ∀ j, j < c → (ls.setIfInBounds (A + j0) true).getD (S + j) false = ls.getD (S + j) false := fun j hj => (getF hi).trans (if_neg (hAS j0 j hj0 hj))
  refine ⟨fun j hj => ?_, fun a b ha hb' hab => ?_, fun j hj => ?_⟩
  · rw [eA j, eS j hj]
    by_cases e : j = j0
    · subst e
      intro _
      have hs : ls.getD (S + j) false = false := by
        cases hc : ls.getD (S + j) false with
        | false => rfl
        | true =>
          have := h.st j hj hc
          rw [hu] at this
          cases this
      rw [hs]
      simp only [if_true, Bool.false_eq_true, if_false]
      exact ⟨hb.size, by simpa using heap_alloc_new w _⟩
    · simp only [if_neg e]
      exact fun h1 => (h.blk j hj h1).grow (ball (bref w) _)
  · rw [eA a, eA b]
    by_cases e : a = j0
    · have e' : ¬ b = j0 := fun h => hab (e.trans h.symm)
      simp only [if_pos e, if_neg e']
      intro _ h2
      have := (h.blk b hb' h2).lt
      omega
    · by_cases e' : b = j0
      · simp only [if_neg e, if_pos e']
        intro h1 _
        have := (h.blk a ha h1).lt
        omega
      · simp only [if_neg e, if_neg e']
        exact h.ne a b ha hb' hab
  · rw [eS j hj, eA j]
    intro h1
    split
    · rfl
    · exact h.st j hj h1

theorem Blgt.filled {T : Nat → TypeId} {Z : Nat → Array Value} {wc w : World} {N : Nat → Array Value} {ls : Array Bool} {A S c : Nat} {g : Nat → Nat} (h : Blgt T Z wc w N ls A S c g) (j0 : Nat) (hj0 : j0 < c) (hi : S + j0 < ls.size) (hd : ls.getD (A + j0) false = true) (hAS : ∀ i j, i < c → j < c → A + i ≠ S + j) :
    Blgt T Z wc (w.setRow (g j0) (N j0)) N (ls.setIfInBounds (S + j0) true) A S c g := by
  have eS : ∀ j, (ls.setIfInBounds (S + j0) true).getD (S + j) false = if j = j0 then true else ls.getD (S + j) false := fun j => by
    rw [getF hi]
    by_cases e : j = j0
    · subst e
      simp
    · rw [if_neg (by omega), if_neg e]
  have eA : ∀ j, j < c → (ls.setIfInBounds (S + j0) true).getD (A + j) false = ls.getD (A + j) false := fun j hj => (getF hi).trans (if_neg (Ne.symm (hAS j j0 hj hj0)))
  have hB0 := h.blk j0 hj0 hd
  refine ⟨fun j hj => ?_, fun a b ha hb' => ?_, fun j hj => ?_⟩
  · rw [eA j hj, eS j]
    intro h1
    by_cases e : j = j0
    · subst e
      simp only [if_true]
      exact ⟨hB0.le, setRow_heap _ _ _ _ _ _ hB0.row⟩
    · simp only [if_neg e]
      exact ⟨(h.blk j hj h1).le, (setRow_other _ _ _ _ (h.ne j j0 hj hj0 e h1 hd)).trans (h.blk j hj h1).row⟩
  · rw [eA a ha, eA b hb']
    exact h.ne a b ha hb'
  · rw [eS j, eA j hj]
    by_cases e : j = j0
    · subst e
      exact fun _ => hd
    · simp only [if_neg e]
      exact h.st j hj
end Go.Proofs.YtmnkbckjhkegaaaDoor
