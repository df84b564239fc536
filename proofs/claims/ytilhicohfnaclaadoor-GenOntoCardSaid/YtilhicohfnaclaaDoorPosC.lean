/-
  Raw positions: their cells, in memory, equal to themselves.
-/
import Derived.Test.YtilhicohfnaclaaDoorArr
import Derived.Test.YtilhicohfnaclaaDoorRows
import Derived.Deep.WholeRow
import Derived.Deep.RegionHeld3
import Derived.Laws.StructEq
namespace Go.Proofs.YtilhicohfnaclaaDoor
open Go.RowKit
set_option linter.unusedVariables false
set_option linter.unusedSimpArgs false

/-- A raw position's cells: 81 squares, 16 hands, the side. -/
def posC (z : List Int) : List Value := z.map (Value.int .i8)
def at8 (z : List Int) (j : Nat) : Int := z.getD j 0
theorem posC_get (z : List Int) (j : Nat) (h : j < z.length) : (posC z)[j]? = some (.int .i8 (at8 z j)) := by
  unfold posC at8
  rw [List.getElem?_map, List.getElem?_eq_getElem h, List.getD_eq_getElem?_getD, List.getElem?_eq_getElem h]
  rfl
def I8s (z : List Int) : Prop := ∀ x ∈ z, -128 ≤ x ∧ x ≤ 127
theorem I8s.at {z : List Int} (h : I8s z) (j : Nat) : -128 ≤ at8 z j ∧ at8 z j ≤ 127 := by
  unfold at8
  rw [List.getD_eq_getElem?_getD]
  by_cases hj : j < z.length
  · rw [List.getElem?_eq_getElem hj]
    exact h _ (List.getElem_mem hj)
  · rw [List.getElem?_eq_none (by omega)]
    exact ⟨by decide, by decide⟩
theorem at8_set (z : List Int) (j : Nat) (v : Int) (i : Nat) (hj : j < z.length) : at8 (z.set j v) i = if i = j then v else at8 z i := by
  unfold at8
  rw [List.getD_eq_getElem?_getD, List.getD_eq_getElem?_getD, List.getElem?_set]
  by_cases h : j = i
  · subst h
    rw [if_pos rfl, if_pos hj, if_pos rfl]
    rfl
  · rw [if_neg h, if_neg (fun e => h e.symm)]
theorem set_8 {z : List Int} (h : I8s z) (j : Nat) {v : Int} (hv : -128 ≤ v ∧ v ≤ 127) : I8s (z.set j v) := by
  intro x hx
  rcases List.mem_or_eq_of_mem_set hx with h1 | h1
  · exact h x h1
  · rw [h1]
    exact hv
/-! In memory -/
def PosAt (w : World) (b : Nat) (z : List Int) : Prop := w.heap[b]? = some (.cells (posC z).toArray 28)
theorem PosAt.lt {w : World} {b : Nat} {z : List Int} (h : PosAt w b z) : b < w.heap.size := (Array.getElem?_eq_some_iff.1 h).1
theorem PosAt.grow {w w' : World} {b : Nat} {z : List Int} (h : PosAt w b z) (hb : Below w.heap.size w w') : PosAt w' b z := (hb.block b h.lt).trans h
theorem PosAt.new (w : World) (z : List Int) : PosAt (w.alloc (.cells (posC z).toArray 28)) w.heap.size z := heap_alloc_new w _
theorem PosAt.cell {w : World} {b : Nat} {z : List Int} (h : PosAt w b z) (j : Nat) (hj : j < z.length) : w.cell? ⟨b, j, none⟩ = some (.int .i8 (at8 z j)) := by
  rw [cell_of_row w b j _ _ _ h]
  simpa using posC_get z j hj
theorem PosAt.frozen {w : World} {b : Nat} {z : List Int} (h : PosAt w b z) (j : Nat) : w.frozen? ⟨b, j, none⟩ = false := frozen_of_row _ _ _ _ _ h
theorem PosAt.range {w : World} {b : Nat} {z : List Int} (h : PosAt w b z) : w.rangeAt b 0 (posC z) := by
  intro j v hv
  have hj : j < z.length := by
    have := (List.getElem?_eq_some_iff.1 hv).1
    simpa [posC] using this
  rw [Nat.zero_add, h.cell j hj, ← posC_get z j hj, hv]
theorem posC_set (z : List Int) (j : Nat) (v : Int) : (posC z).toArray.setIfInBounds j (.int .i8 v) = (posC (z.set j v)).toArray := by
  unfold posC
  rw [List.setIfInBounds_toArray, List.map_set]
theorem PosAt.set {w : World} {b : Nat} {z : List Int} (h : PosAt w b z) (j : Nat) (v : Int) : PosAt (w.setCell ⟨b, j, none⟩ (.int .i8 v)) b (z.set j v) := by
  unfold PosAt
  rw [heap_setCell_same _ _ _ _ _ _ h, posC_set]
theorem PosAt.other {w : World} {b g : Nat} {z : List Int} (h : PosAt w b z) (hg : b ≠ g) (j : Nat) (v : Value) : PosAt (w.setCell ⟨g, j, none⟩ v) b z := by
  unfold PosAt
  rw [heap_setCell_other _ _ _ _ hg]
  exact h
theorem PosAt.drew {w : World} {b : Nat} {z : List Int} (h : PosAt w b z) : PosAt w.drew b z := h
theorem posC_len (z : List Int) : (posC z).length = z.length := by simp [posC]
theorem posC_one (z : List Int) : (posC z).toArray.all (·.oneCell') = true := all_oneCell_toArray (fun v hv => by
  obtain ⟨x, _, rfl⟩ := List.mem_map.1 hv
  rfl)
theorem infoPos : (Tryd.prog.info? 28).map (·.size) = some 98 := by kernel_rfl
theorem zeroPos_size : Tryd.zeroCells28.size = 98 := by kernel_rfl
theorem items_true {P : Program} (d : Nat) (e : TypeId) (c : Nat) (xs : Array Value) (W : World) : ∀ is : List Nat, (∀ i ∈ is, ∃ v, (part e xs (i * c)).run P W = .ok v W ∧ (Op.equalIn d e v v).run P W = .ok true W) → (Op.eqItems d e c xs xs is).run P W = .ok true W
  | [], _ => by simp [Op.eqItems]
  | i :: is, h => by
    obtain ⟨v, hp, he⟩ := h i (by simp)
    have ih := items_true d e c xs W is (fun j hj => h j (by simp [hj]))
    simp only [Op.eqItems, Sem.run_bind, hp, he, Result.andThen_ok, Bool.not_true, Bool.false_eq_true, if_false]
    exact ih
/-- A row of whole numbers is equal to itself. -/
theorem row_true {P : Program} (d : Nat) (t e : TypeId) (n : Nat) (k : IntKind) (xs : Array Value) (W : World) (ht : P.underlying t = some (.array n e)) (he : P.underlying e = some (.int k)) (hpk : P.plainKey e = true) (hi : (P.info? e).map (·.size) = some 1)
    (h : ∀ i, i < n → ∃ a, xs[i]? = some (.int k a)) : (Op.equalIn (d + 2) t (.agg xs) (.agg xs)).run P W = .ok true W := by
  cases hq : P.info? e with
  | none => simp [hq] at hi
  | some i =>
    have hs : P.cellsOf e = 1 := by
      have : i.size = 1 := by simpa [hq] using hi
      simp [Program.cellsOf, hq, this]
    rw [run_equalIn_array W (d + 1) _ _ ht hq, hs]
    refine items_true _ _ _ _ _ _ fun j hj => ?_
    obtain ⟨a, ha⟩ := h j (by simpa using hj)
    refine ⟨.int k a, run_part_plain (P := P) W hpk (by rw [Nat.mul_one]; exact ha), ?_⟩
    rw [run_equalIn_int W d e k k a a he]
    simp
theorem run_part_row {P : Program} (W : World) (e : TypeId) (s : Nat) (D : TypeDesc) (xs : Array Value) (o : Nat) (hu : P.underlying e = some D) (hd : D.isRow = true) (hi : (P.info? e).map (·.size) = some s) :
    (part e xs o).run P W = .ok (.agg (xs.extract o (o + s))) W := by
  cases hq : P.info? e with
  | none => simp [hq] at hi
  | some i =>
    have hs : i.size = s := by simpa [hq] using hi
    have hsz : (sizeOf e).run P W = .ok s W := by
      rw [run_sizeOf W hq]
      simp [Program.cellsOf, hq, hs]
    have hagg : (isAgg e).run P W = .ok true W := by
      unfold isAgg
      rw [Sem.run_bind, run_underlying hu W]
      cases D <;> simp_all
    simp [part, hagg, hsz]
theorem ext_int (cs : List Value) (o n j : Nat) (hj : j < n) {v : Value} (h : cs[o + j]? = some v) : (cs.toArray.extract o (o + n))[j]? = some v := by
  rw [extract_row]
  simpa using drop_get h hj
theorem fieldsPos : (Tryd.prog.fieldsOf 28).toList.map (fun f => (f.name, f.type, f.offset)) = [("Board", 24, 0), ("Hands", 26, 81), ("Side", 22, 97)] := by decide +kernel
theorem stoodPos : Tryd.prog.stoodInHeld 28 = false := by kernel_rfl
theorem underPos : Tryd.prog.underlying 28 = some (.struct (Tryd.prog.fieldsOf 28)) := by kernel_rfl
theorem infoPiece : (Tryd.prog.info? 23).map (·.size) = some 1 := by kernel_rfl
theorem infoI8 : (Tryd.prog.info? 22).map (·.size) = some 1 := by kernel_rfl
theorem infoB81 : (Tryd.prog.info? 24).map (·.size) = some 81 := by kernel_rfl
theorem infoH16 : (Tryd.prog.info? 26).map (·.size) = some 16 := by kernel_rfl
theorem infoH8 : (Tryd.prog.info? 25).map (·.size) = some 8 := by kernel_rfl
theorem plainPiece : Tryd.prog.plainKey 23 = true := by kernel_rfl
theorem plainI8 : Tryd.prog.plainKey 22 = true := by kernel_rfl
theorem fields_step {P : Program} (d : Nat) (xs : Array Value) (f : Field) (fs : List Field) (W : World) (v : Value) (hn : f.name ≠ "_") (hp : (part f.type xs f.offset).run P W = .ok v W) (he : (Op.equalIn d f.type v v).run P W = .ok true W) (rest : (Op.eqFields d xs xs fs).run P W = .ok true W) :
    (Op.eqFields d xs xs (f :: fs)).run P W = .ok true W := by
  rw [Op.eqFields, if_pos hn]
  simp only [Sem.run_bind, hp, he, Result.andThen_ok, Bool.not_true, Bool.false_eq_true, if_false]
  exact rest
theorem list_three {α : Type} (l : List α) (h : l.length = 3) : ∃ a b c, l = [a, b, c] := by
  match l, h with
  | [a, b, c], _ => exact ⟨a, b, c, rfl⟩
theorem pos_eq (z : List Int) (hz : z.length = 98) (W : World) : (Op.equalIn 10000 28 (.agg (posC z).toArray) (.agg (posC z).toArray)).run Tryd.prog W = .ok true W := by
  have hC : ∀ j, j < 98 → (posC z)[j]? = some (.int .i8 (at8 z j)) := fun j hj => posC_get z j (by omega)
  generalize posC z = cs at hC
  rw [show (10000 : Nat) = 9999 + 1 from rfl, run_equalIn_struct W 9999 _ _ _ underPos stoodPos]
  have f0 : (Op.equalIn 9999 24 (.agg (cs.toArray.extract 0 81)) (.agg (cs.toArray.extract 0 81))).run Tryd.prog W = .ok true W :=
    row_true 9997 _ _ 81 .i8 _ W Tryd.underlying24 Tryd.underlying23 plainPiece infoPiece (fun i hi => ⟨_, ext_int cs 0 81 i hi (by rw [Nat.zero_add]; exact hC i (by omega))⟩)
  have f1 : (Op.equalIn 9999 26 (.agg (cs.toArray.extract 81 97)) (.agg (cs.toArray.extract 81 97))).run Tryd.prog W = .ok true W := by
    rw [show (97 : Nat) = 81 + 16 from rfl, extract_row]
    have h8 := infoH8
    cases hq : Tryd.prog.info? 25 with
    | none => simp [hq] at h8
    | some i =>
      clear h8
      rw [show (9999 : Nat) = 9998 + 1 from rfl, run_equalIn_array W 9998 _ _ Tryd.underlying26 hq, show Tryd.prog.cellsOf 25 = 8 by kernel_rfl]
      refine items_true _ _ _ _ _ _ fun j hj => ?_
      have hj2 : j < 2 := by simpa using hj
      refine ⟨_, run_part_row W _ 8 _ _ _ Tryd.underlying25 rfl infoH8, ?_⟩
      exact row_true 9996 _ _ 8 .i8 _ W Tryd.underlying25 Tryd.underlying22 plainI8 infoI8 (fun i hi => ⟨_, ext_int _ (j * 8) 8 i hi (drop_get (hC (81 + (j * 8 + i)) (by omega)) (by omega))⟩)
  have f2 : (Op.equalIn 9999 22 (.int .i8 (at8 z 97)) (.int .i8 (at8 z 97))).run Tryd.prog W = .ok true W := by
    rw [run_equalIn_int W 9998 22 .i8 .i8 _ _ Tryd.underlying22]
    simp
  have p0 : (part 24 cs.toArray 0).run Tryd.prog W = .ok (.agg (cs.toArray.extract 0 81)) W := run_part_row (P := Tryd.prog) W 24 81 _ cs.toArray 0 Tryd.underlying24 rfl infoB81
  have p1 : (part 26 cs.toArray 81).run Tryd.prog W = .ok (.agg (cs.toArray.extract 81 97)) W := run_part_row (P := Tryd.prog) W 26 16 _ cs.toArray 81 Tryd.underlying26 rfl infoH16
  have p2 : (part 22 cs.toArray 97).run Tryd.prog W = .ok (.int .i8 (at8 z 97)) W := run_part_plain (P := Tryd.prog) W plainI8 (by simpa using hC 97 (by omega))
  have hf := fieldsPos
  generalize (Tryd.prog.fieldsOf 28).toList = fs at hf ⊢
  obtain ⟨a, b, c, rfl⟩ := list_three fs (by have := congrArg List.length hf; simpa using this)
  · simp only [List.map_cons, List.map_nil, List.cons.injEq, Prod.mk.injEq, and_true] at hf
    obtain ⟨⟨a1, a2, a3⟩, ⟨b1, b2, b3⟩, c1, c2, c3⟩ := hf
    refine fields_step _ _ _ _ _ _ (by rw [a1]; decide) (by rw [a2, a3]; exact p0) (by rw [a2]; exact f0) ?_
    refine fields_step _ _ _ _ _ _ (by rw [b1]; decide) (by rw [b2, b3]; exact p1) (by rw [b2]; exact f1) ?_
    refine fields_step _ _ _ _ _ _ (by rw [c1]; decide) (by rw [c2, c3]; exact p2) (by rw [c2]; exact f2) ?_
    rfl
theorem at8_ext (l m : List Int) (hl : l.length = 98) (hm : m.length = 98) (h : ∀ i, i < 98 → at8 l i = at8 m i) : l = m := by
  apply List.ext_getElem?
  intro i
  by_cases hi : i < 98
  · have := h i hi
    unfold at8 at this
    rw [List.getD_eq_getElem?_getD, List.getD_eq_getElem?_getD, List.getElem?_eq_getElem (by omega), List.getElem?_eq_getElem (by omega)] at this
    rw [List.getElem?_eq_getElem (by omega), List.getElem?_eq_getElem (by omega)]
    exact congrArg some this
  · rw [List.getElem?_eq_none (by omega), List.getElem?_eq_none (by omega)]
end Go.Proofs.YtilhicohfnaclaaDoor
