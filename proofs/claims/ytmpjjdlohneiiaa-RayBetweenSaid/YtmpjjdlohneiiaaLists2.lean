/-
  Lists of squares: the set package's Squares, the reference's List, and the statements' same.
-/
import Derived.Test.YtmpjjdlohneiiaaLists
namespace Go.Proofs.Ytmpjjdlohneiiaa
open Go.RowKit
set_option linter.unusedVariables false

theorem Own.parts {w : World} {B : Nat} {v : Value} {l : List Int} (h : Own w B v l) :
    (v = .slice none 0 0 ∧ l = []) ∨ ∃ g cap, v = .slice (some ⟨g, 0, none⟩) l.length cap ∧ B ≤ g ∧ g < w.heap.size ∧ ∀ (j : Nat) (hj : j < l.length), w.cell? ⟨g, 0 + j, none⟩ = some (.int .i64 l[j]) := by
  rcases h.2 with ⟨h1, h2⟩ | ⟨g, cap, cur, hv, hb, hg, -⟩
  · exact .inl ⟨h1, List.length_eq_zero_iff.1 h2⟩
  · have ho : v.ownBlock = some g := by rw [hv]; rfl
    refine .inr ⟨g, cap, hv, hb, (h.lt g ho).2, fun j hj => ?_⟩
    have := h.cells ho j (.int .i64 l[j]) (by simp [hj])
    rw [Nat.zero_add]
    have e : (⟨g, 0, none⟩ : Addr).add j = ⟨g, j, none⟩ := by unfold Addr.add; split <;> simp_all
    rw [e] at this
    exact this
theorem Own.mono {w : World} {B C : Nat} {v : Value} {l : List Int} (h : Own w B v l) (hc : C ≤ B) : Own w C v l :=
  ⟨h.1, h.2.imp id (fun ⟨g, cap, cur, hv, hb, r⟩ => ⟨g, cap, cur, hv, Nat.le_trans hc hb, r⟩)⟩
theorem Own.grow {w w' : World} {B : Nat} {v : Value} {l : List Int} (h : Own w B v l) (hb : Below w.heap.size w w') : Own w' B v l := by
  refine ⟨h.1, ?_⟩
  rcases h.2 with h1 | ⟨g, cap, cur, hv, hB, hg, r⟩
  · exact .inl h1
  · have hlt : g < w.heap.size := (Array.getElem?_eq_some_iff.1 hg).1
    exact .inr ⟨g, cap, cur, hv, hB, (hb.block g hlt).trans hg, r⟩

def upL (n k : Nat) : List Int := ((List.range k).filter (fun i => n.testBit i)).map (fun (i : Nat) => (i : Int))
theorem upL_len (n k : Nat) : (upL n k).length ≤ k := by
  unfold upL
  rw [List.length_map]
  exact Nat.le_trans (List.length_filter_le _ _) (by simp)
theorem upL_step (n k : Nat) : upL n (k + 1) = if n.testBit k then upL n k ++ [(k : Int)] else upL n k := by
  unfold upL
  rw [List.range_succ, List.filter_append, List.map_append]
  by_cases h : n.testBit k = true
  · simp [h]
  · simp [h]
theorem upL_all (n : Nat) : upL n 81 = sqI n := rfl

end Go.Proofs.Ytmpjjdlohneiiaa
