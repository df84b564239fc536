/-
  A game in a loop over moves: what it keeps from move to move.
-/
import Derived.Test.YtbopbekehccdmaaDoorDeedCom
namespace Go.Proofs.YtbopbekehccdmaaDoor
open Go.RowKit
set_option linter.unusedVariables false
set_option linter.unusedSimpArgs false

/-- A game at a position z, with what was made. -/
structure GmInv (W : World) (B g b : Nat) (n : Int) (z : List Int) (v : Value) (L : List Md) : Prop where
  gk : Gk W g b z v
  past : Past W B g b v L
  ok : PosOk z n
  side : at8 z 97 = 0 ∨ at8 z 97 = 1
theorem GmInv.grow {W W' : World} {B g b : Nat} {n : Int} {z : List Int} {v : Value} {L : List Md} (h : GmInv W B g b n z v L) (hb : Below W.heap.size W W') : GmInv W' B g b n z v L := ⟨h.gk.grow hb, h.past.grow hb, h.ok, h.side⟩
theorem GmInv.lt {W : World} {B g b : Nat} {n : Int} {z : List Int} {v : Value} {L : List Md} (h : GmInv W B g b n z v L) : g < W.heap.size ∧ b < W.heap.size ∧ ∀ k, v.ownBlock = some k → B ≤ k ∧ k < W.heap.size := ⟨h.gk.1.lt, h.gk.2.1.lt, fun k e => own_lt h.past.1 k e⟩
theorem GmInv.up {W : World} {B g b : Nat} {n m : Int} {z : List Int} {v : Value} {L : List Md} (h : GmInv W B g b n z v L) (k : n ≤ m) : GmInv W B g b m z v L := ⟨h.gk, h.past, h.ok.mono k, h.side⟩
theorem made_yes (B g b : Nat) (n : Int) (z : List Int) (v : Value) (L : List Md) (m : Mv) (hn : n ≤ 126) (hL : L.length ≤ 1000) (W : World) (hB : B ≤ W.heap.size) (h : GmInv W B g b n z v L) (hcan : canF z m.f m.t m.d m.p = true) :
    Calls Tryd.prog 33 #[.pointer (some ⟨g, 0, none⟩), .agg #[.int .i64 m.f, .int .i64 m.t, .int .i64 m.d, .bool m.p]] W fun e w' => e = .returned (.bool true) ∧ ∃ v', GmInv w' B g b (n + 1) (afterZ z m.f m.t m.d m.p) v' (L ++ [mdOf z m.f m.t m.d m.p]) ∧ But3 g b v.ownBlock W w' := by
  obtain ⟨ho, h97⟩ := afterZ_ok h.ok hn hcan
  refine (make_yes B g b z v L m.f m.t m.d m.p h.ok.len h.ok.i8 h.ok.clean (fun j a b => ⟨(h.ok.hand j a b).1, Int.le_trans (h.ok.hand j a b).2 hn⟩) hL W hB h.gk h.past hcan).mono ?_
  rintro e w' ⟨rfl, v', hG, hP, hBu⟩
  exact ⟨rfl, v', ⟨hG, hP, ho, by have := h.side; omega⟩, hBu⟩
theorem made_no (B g b : Nat) (n : Int) (z : List Int) (v : Value) (L : List Md) (m : Mv) (W : World) (h : GmInv W B g b n z v L) (hcan : canF z m.f m.t m.d m.p = false) :
    Calls Tryd.prog 33 #[.pointer (some ⟨g, 0, none⟩), .agg #[.int .i64 m.f, .int .i64 m.t, .int .i64 m.d, .bool m.p]] W fun e w' => e = .returned (.bool false) ∧ Below W.heap.size W w' :=
  make_no g b z v m.f m.t m.d m.p h.ok.len h.ok.i8 W h.gk hcan
theorem but3_below {B g b n0 : Nat} {n : Int} {z : List Int} {v : Value} {L : List Md} {w W w' : World} (h : GmInv W B g b n z v L) (hw : Below n0 w W) (hb : But3 g b v.ownBlock W w') (h0 : n0 ≤ g) (h1 : n0 ≤ b) (h2 : n0 ≤ B) (h3 : n0 ≤ W.heap.size) : Below n0 w w' :=
  hw.trans (hb.below h0 h1 (fun k e => Nat.le_trans h2 (h.lt.2.2 k e).1) h3)
theorem infoMv : (Tryd.prog.info? 64).map (·.size) = some 4 := by kernel_rfl
theorem mv_one (m : Mv) : (m.cells.toArray).all (·.oneCell') = true := by simp [Mv.cells, Value.oneCell']
/-- A move that was laid into a fresh variable. -/
theorem fresh_mv (W : World) (m : Mv) : ((W.alloc (.cells #[.int .i64 0, .int .i64 0, .int .i64 0, .bool false] 64)).setRow W.heap.size m.cells.toArray).heap[W.heap.size]? = some (.cells #[.int .i64 m.f, .int .i64 m.t, .int .i64 m.d, .bool m.p] 64) := setRow_heap _ _ _ _ _ _ (heap_alloc_new W _)
end Go.Proofs.YtbopbekehccdmaaDoor
