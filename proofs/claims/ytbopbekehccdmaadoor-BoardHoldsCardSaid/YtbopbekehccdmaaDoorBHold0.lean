/-
  What the walk of BoardHolds keeps: a board, and an array of what was put to it.
-/
import Derived.Test.YtbopbekehccdmaaDoorPuts2
namespace Go.Proofs.YtbopbekehccdmaaDoor.boardHolds
open Go.RowKit
set_option linter.unusedVariables false
set_option linter.unusedSimpArgs false
set_option maxRecDepth 100000

def arrI (l : List Int) : List Value := l.map (Value.int .i64)
theorem arrI_len (l : List Int) : (arrI l).length = l.length := by simp [arrI]
theorem arrI_get (l : List Int) (j : Nat) (h : j < l.length) : (arrI l)[j]? = some (.int .i64 (at8 l j)) := by
  unfold arrI at8
  rw [List.getElem?_map, List.getElem?_eq_getElem h, List.getD_eq_getElem?_getD, List.getElem?_eq_getElem h]
  rfl
def ArrAt (W : World) (q : Nat) (l : List Int) : Prop := W.heap[q]? = some (.cells (arrI l).toArray 33)
theorem ArrAt.lt {W : World} {q : Nat} {l : List Int} (h : ArrAt W q l) : q < W.heap.size := (Array.getElem?_eq_some_iff.1 h).1
theorem ArrAt.grow {W W' : World} {q : Nat} {l : List Int} (h : ArrAt W q l) (hb : Below W.heap.size W W') : ArrAt W' q l := (hb.block q h.lt).trans h
theorem ArrAt.cell {W : World} {q : Nat} {l : List Int} (h : ArrAt W q l) (j : Nat) (hj : j < l.length) : W.cell? ⟨q, j, none⟩ = some (.int .i64 (at8 l j)) := by
  rw [cell_of_row W q j _ _ _ h]
  simpa using arrI_get l j hj
theorem ArrAt.frozen {W : World} {q : Nat} {l : List Int} (h : ArrAt W q l) (j : Nat) : W.frozen? ⟨q, j, none⟩ = false := frozen_of_row _ _ _ _ _ h
theorem ArrAt.set {W : World} {q : Nat} {l : List Int} (h : ArrAt W q l) (j : Nat) (v : Int) : ArrAt (W.setCell ⟨q, j, none⟩ (.int .i64 v)) q (l.set j v) := by
  unfold ArrAt
  rw [heap_setCell_same W q j _ _ _ h]
  unfold arrI
  rw [List.setIfInBounds_toArray, List.map_set]
theorem zeroArr : (arrI (List.replicate 81 0)).toArray = Tryd.zeroCells33 := by kernel_rfl

/-- What is kept: the position that was handed over, the board at zz, the array at l. -/
structure BInv (w W : World) (b q : Nat) (z zz l : List Int) : Prop where
  pos : PosAt W w.heap.size z
  brd : Brd W b zz
  arr : ArrAt W q l
  low : Below w.heap.size w W
  nb : w.heap.size < b
  nq : w.heap.size < q
  ne : b ≠ q
theorem BInv.grow {w W W' : World} {b q : Nat} {z zz l : List Int} (h : BInv w W b q z zz l) (hb : Below W.heap.size W W') : BInv w W' b q z zz l := ⟨h.pos.grow hb, h.brd.grow hb, h.arr.grow hb, bthen h.low hb, h.nb, h.nq, h.ne⟩
theorem BInv.put {w W W' : World} {b q : Nat} {z zz z1 l : List Int} (h : BInv w W b q z zz l) (hB : Brd W' b z1) (hb : But b W W') : BInv w W' b q z z1 l :=
  ⟨(hb.block _ h.pos.lt (by have := h.nb; omega)).trans h.pos, hB, (hb.block _ h.arr.lt (Ne.symm h.ne)).trans h.arr, h.low.trans (hb.below (by have := h.nb; omega) h.low.size), h.nb, h.nq, h.ne⟩
theorem BInv.set {w W : World} {b q : Nat} {z zz l : List Int} (h : BInv w W b q z zz l) (j : Nat) (v : Int) : BInv w (W.setCell ⟨q, j, none⟩ (.int .i64 v)) b q z zz (l.set j v) :=
  ⟨h.pos.other (by have := h.nq; omega) j _, brd_other h.brd h.ne j _, h.arr.set j v, h.low.setCell (Nat.le_of_lt h.nq) _, h.nb, h.nq, h.ne⟩
theorem BInv.drew {w W : World} {b q : Nat} {z zz l : List Int} (h : BInv w W b q z zz l) : BInv w W.drew b q z zz l := ⟨h.pos, h.brd, h.arr, h.low.drew, h.nb, h.nq, h.ne⟩
theorem BInv.other {w W : World} {b q k : Nat} {z zz l : List Int} (h : BInv w W b q z zz l) (h1 : w.heap.size < k) (h2 : b ≠ k) (h3 : q ≠ k) (j : Nat) (v : Value) : BInv w (W.setCell ⟨k, j, none⟩ v) b q z zz l :=
  ⟨(heap_setCell_other _ _ _ _ (by simp; omega)).trans h.pos, brd_other h.brd h2 j _, (heap_setCell_other _ _ _ _ h3).trans h.arr, h.low.setCell (Nat.le_of_lt h1) _, h.nb, h.nq, h.ne⟩
theorem at8_set' (l : List Int) (j : Nat) (v : Int) (i : Nat) (hj : j < l.length) : at8 (l.set j v) i = if i = j then v else at8 l i := at8_set l j v i hj

/-- The array tells what stands. -/
def Told (l zz : List Int) : Prop := l.length = 81 ∧ ∀ i, i < 81 → at8 l i = at8 zz i
/-- What a board keeps of the position that it began with. -/
structure Kept (z zz : List Int) : Prop where
  len : zz.length = 98
  i8 : I8s zz
  clean : Clean zz
  rest : ∀ j, 81 ≤ j → j < 98 → at8 zz j = at8 z j
theorem Kept.put {z zz : List Int} (h : Kept z zz) (q x : Int) (hx : -128 ≤ x ∧ x ≤ 127) : Kept z (putZ zz q x) :=
  ⟨by rw [putZ_len, h.len], putZ_8 h.i8 q x hx, putZ_clean h.clean h.len q x, fun j h1 h2 => by
    unfold putZ
    split
    · rw [at8_set _ _ _ _ (by have := h.len; omega), if_neg (by omega)]
      exact h.rest j h1 h2
    · exact h.rest j h1 h2⟩
theorem Told.no {l zz : List Int} (h : Told l zz) (q x : Int) (hq : ¬ (0 ≤ q ∧ q < 81)) : Told l (putZ zz q x) := by
  unfold putZ
  rw [if_neg hq]
  exact h
theorem Told.put0 {l zz : List Int} (h : Told l zz) (hz : zz.length = 98) (q : Nat) (x : Int) (hq : q < 81) (hk : kindF x = 0) : Told (l.set q 0) (putZ zz q x) := by
  refine ⟨by rw [List.length_set, h.1], fun i hi => ?_⟩
  rw [putZ_at8 zz q x hq hz, at8_set _ _ _ _ (by rw [h.1]; omega), if_pos hk]
  split
  · rfl
  · exact h.2 i hi
theorem Told.put1 {l zz : List Int} (h : Told l zz) (hz : zz.length = 98) (q : Nat) (x : Int) (hq : q < 81) (hk : kindF x ≠ 0) : Told ((l.set q 0).set q x) (putZ zz q x) := by
  refine ⟨by rw [List.length_set, List.length_set, h.1], fun i hi => ?_⟩
  rw [putZ_at8 zz q x hq hz, at8_set _ _ _ _ (by rw [List.length_set, h.1]; omega), if_neg hk]
  split
  · rfl
  · rw [at8_set _ _ _ _ (by rw [h.1]; omega)]
    rename_i hn
    rw [if_neg hn]
    exact h.2 i hi
end Go.Proofs.YtbopbekehccdmaaDoor.boardHolds
