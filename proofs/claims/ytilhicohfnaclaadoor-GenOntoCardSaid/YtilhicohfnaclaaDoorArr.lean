/-
  Arrays by value: an element of one cell, a row of several; cells of a box.
-/
import Derived.Test.YtilhicohfnaclaaDoorBase
import Derived.ChangeKeysEq
import Derived.WalkKit
import Derived.Deep.MidRow
import Derived.Below
namespace Go.Proofs.YtilhicohfnaclaaDoor
open Go.RowKit
set_option linter.unusedVariables false
set_option linter.unusedSimpArgs false

theorem run_index_cell {P : Program} (w : World) (t e : TypeId) (n : Nat) (cs : Array Value) (j : Nat) (v : Value) (h : P.underlying t = some (.array n e)) (he : P.plainKey e = true) (hi : (P.info? e).map (·.size) = some 1) (hj : j < n) (hv : cs[j]? = some v) :
    (Instr.index t (.agg cs) (.int .i64 (j : Int))).run P w = .ok v w := by
  cases hq : P.info? e with
  | none => simp [hq] at hi
  | some i =>
    have hs : i.size = 1 := by simpa [hq] using hi
    have c1 : (0 : Int) ≤ (j : Int) ∧ (j : Int) < (n : Int) := by omega
    have hsz : (sizeOf e).run P w = .ok 1 w := by
      rw [run_sizeOf w hq]
      simp [Program.cellsOf, hq, hs]
    have hagg : ∀ w, (isAgg e).run P w = .ok false w := by
      intro w
      unfold Program.plainKey at he
      cases hu : P.underlying e with
      | none => simp [hu] at he
      | some d => cases d <;> simp [hu] at he <;> simp [isAgg, run_underlying hu]
    simp [Instr.index, run_underlying h, asIntOf, c1, hsz, part, hagg, hv, hj, go_sem]
theorem run_index_row {P : Program} (w : World) (t e : TypeId) (n s : Nat) (d : TypeDesc) (cs : Array Value) (j : Nat) (h : P.underlying t = some (.array n e)) (hu : P.underlying e = some d) (hd : d.isRow = true) (hi : (P.info? e).map (·.size) = some s) (hj : j < n) :
    (Instr.index t (.agg cs) (.int .i64 (j : Int))).run P w = .ok (.agg (cs.extract (j * s) (j * s + s))) w := by
  cases hq : P.info? e with
  | none => simp [hq] at hi
  | some i =>
    have hs : i.size = s := by simpa [hq] using hi
    have c1 : (0 : Int) ≤ (j : Int) ∧ (j : Int) < (n : Int) := by omega
    have hsz : ∀ w, (sizeOf e).run P w = .ok s w := by
      intro w
      rw [run_sizeOf w hq]
      simp [Program.cellsOf, hq, hs]
    have hagg : ∀ w, (isAgg e).run P w = .ok true w := by
      intro w
      unfold isAgg
      rw [Sem.run_bind, run_underlying hu w]
      cases d <;> simp_all
    simp [Instr.index, run_underlying h, asIntOf, c1, hsz, part, hagg, hj, go_sem]
theorem extract_row (hs : List Value) (a n : Nat) : hs.toArray.extract a (a + n) = ((hs.drop a).take n).toArray := by
  simp [List.extract_eq_take_drop]
/-- A box: what lies in it, and a part of it. -/
theorem box_cell (w : World) (cs : List Value) (t : TypeId) (j : Nat) (v : Value) (h : cs[j]? = some v) : (w.alloc (.cells cs.toArray t)).cell? ⟨w.heap.size, j, none⟩ = some v := by
  have e : (w.alloc (.cells cs.toArray t)).heap[w.heap.size]? = some (.cells cs.toArray t) := heap_alloc_new w _
  unfold World.cell?
  simp only [e]
  simpa using h
theorem part_range {w : World} {b : Nat} {cs : List Value} (h : w.rangeAt b 0 cs) (o n : Nat) : w.rangeAt b o ((cs.drop o).take n) := by
  intro j v hv
  rw [List.getElem?_take] at hv
  split at hv
  · rw [List.getElem?_drop] at hv
    have := h (o + j) v hv
    rwa [Nat.zero_add] at this
  · cases hv
theorem box_range (w : World) (cs : List Value) (t : TypeId) : (w.alloc (.cells cs.toArray t)).rangeAt w.heap.size 0 cs := by
  intro j v hv
  rw [Nat.zero_add]
  exact box_cell w cs t j v hv
theorem range_grow {w w' : World} {b o : Nat} {cs : List Value} (h : w.rangeAt b o cs) (hb : b < w.heap.size) (hB : Below w.heap.size w w') : w'.rangeAt b o cs :=
  fun j v hv => (hB.cell (p := ⟨b, o + j, none⟩) hb).trans (h j v hv)
theorem drop_get {cs : List Value} {o n j : Nat} {v : Value} (h : cs[o + j]? = some v) (hj : j < n) : ((cs.drop o).take n)[j]? = some v := by
  rw [List.getElem?_take, if_pos hj, List.getElem?_drop]
  exact h
end Go.Proofs.YtilhicohfnaclaaDoor
