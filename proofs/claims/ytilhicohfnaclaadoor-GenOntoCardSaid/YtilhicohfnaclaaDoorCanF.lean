/-
  Whether a move can be made, as a plain function; a move's and a call's cells.
-/
import Derived.Test.YtilhicohfnaclaaDoorBrdAll
namespace Go.Proofs.YtilhicohfnaclaaDoor
set_option maxRecDepth 100000
open Go.RowKit
set_option linter.unusedVariables false
set_option linter.unusedSimpArgs false

/-- The error's number of a move. -/
def checkM (f t d : Int) (p : Bool) : Int :=
  if 0 ≤ t ∧ t < 81 then (if d = 0 then (if 0 ≤ f ∧ f < 81 then (if f = t then 70 else 0) else 1) else if 1 ≤ d ∧ d ≤ 7 ∧ f = 0 ∧ p = false then 0 else 70) else 1
theorem checkM_zero (f t d : Int) (p : Bool) : checkM f t d p = 0 ↔ (0 ≤ t ∧ t < 81) ∧ ((d = 0 ∧ 0 ≤ f ∧ f < 81 ∧ f ≠ t) ∨ (1 ≤ d ∧ d ≤ 7 ∧ f = 0 ∧ p = false)) := by
  unfold checkM
  by_cases ht : 0 ≤ t ∧ t < 81
  · rw [if_pos ht]
    by_cases hd : d = 0
    · rw [if_pos hd]
      by_cases hf : 0 ≤ f ∧ f < 81
      · rw [if_pos hf]
        by_cases he : f = t
        · rw [if_pos he]; constructor
          · intro h; omega
          · rintro ⟨_, h | h⟩ <;> omega
        · rw [if_neg he]; exact ⟨fun _ => ⟨ht, Or.inl ⟨hd, hf.1, hf.2, he⟩⟩, fun _ => rfl⟩
      · rw [if_neg hf]; constructor
        · intro h; omega
        · rintro ⟨_, h | h⟩ <;> omega
    · rw [if_neg hd]
      by_cases hg : 1 ≤ d ∧ d ≤ 7 ∧ f = 0 ∧ p = false
      · rw [if_pos hg]; exact ⟨fun _ => ⟨ht, Or.inr hg⟩, fun _ => rfl⟩
      · rw [if_neg hg]; constructor
        · intro h; omega
        · rintro ⟨_, h | h⟩
          · omega
          · exact absurd h hg
  · rw [if_neg ht]; constructor
    · intro h; omega
    · rintro ⟨h, _⟩; exact absurd h ht
theorem checkM_cases (f t d : Int) (p : Bool) : checkM f t d p = 0 ∨ checkM f t d p = 1 ∨ checkM f t d p = 70 := by
  unfold checkM
  split
  · split
    · split
      · split <;> simp
      · simp
    · split <;> simp
  · simp

/-- Whether a piece x goes onto a square on which y stands. -/
def goB (s x y : Int) (p : Bool) : Bool := if sideF x ≠ s ∨ sideF y = s ∨ kindF y = 8 then false else (!p || upF (kindF x) != 0)
/-- Whether a move can be made at a position. -/
def canF (z : List Int) (f t d : Int) (p : Bool) : Bool :=
  if checkM f t d p = 0 then
    (if at8 z 97 = 0 ∨ at8 z 97 = 1 then
      (if d = 0 then goB (at8 z 97) (at8 z f.toNat) (at8 z t.toNat) p else decide (0 < handF z (at8 z 97) d ∧ at8 z t.toNat = 0))
    else false)
  else false
theorem mv_cells' {W : World} {b : Nat} {x0 x1 x2 x3 : Value} (h : W.heap[b]? = some (.cells #[x0, x1, x2, x3] 70)) :
    W.cell? ⟨b, 0, none⟩ = some x0 ∧ W.cell? ⟨b, 1, none⟩ = some x1 ∧ W.cell? ⟨b, 2, none⟩ = some x2 ∧ W.cell? ⟨b, 3, none⟩ = some x3 := by
  refine ⟨?_, ?_, ?_, ?_⟩ <;> simp [World.cell?, h]
theorem rowA {w w1 : World} {A : Obj} (hb : Below (w.alloc A).heap.size (w.alloc A) w1) : w1.heap[w.heap.size]? = some A :=
  (hb.block _ (show w.heap.size < (w.alloc A).heap.size by simp)).trans (heap_alloc_new w A)
theorem szA {w w1 : World} {A : Obj} (hb : Below (w.alloc A).heap.size (w.alloc A) w1) : w.heap.size < w1.heap.size := by
  have := hb.size
  simp at this
  omega
end Go.Proofs.YtilhicohfnaclaaDoor
