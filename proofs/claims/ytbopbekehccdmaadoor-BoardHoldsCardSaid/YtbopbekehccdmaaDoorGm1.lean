/-
  Games in memory: a board, a key, what was made; mover, Key, turn, put.
-/
import Derived.Test.YtbopbekehccdmaaDoorBrd3
import Derived.Test.YtbopbekehccdmaaDoorKey2
import Derived.Test.YtbopbekehccdmaaDoorPos
import Derived.Deep.RegionWith
import Derived.RegionTactic
import Derived.ChangeAlike
namespace Go.Proofs.YtbopbekehccdmaaDoor
open Go.RowKit
set_option linter.unusedVariables false
set_option linter.unusedSimpArgs false

/-- What a call leaves alone that turns two blocks. -/
structure But2 (g b : Nat) (w w' : World) : Prop where
  os : w'.os = w.os
  tape : w'.tape = w.tape
  output : w'.output = w.output
  size : w.heap.size ≤ w'.heap.size
  block : ∀ k, k < w.heap.size → k ≠ g → k ≠ b → w'.heap[k]? = w.heap[k]?
theorem But2.refl (g b : Nat) (w : World) : But2 g b w w := ⟨rfl, rfl, rfl, Nat.le_refl _, fun _ _ _ _ => rfl⟩
theorem But2.of {g b : Nat} {w w' : World} (h : Below w.heap.size w w') : But2 g b w w' := ⟨h.os, h.tape, h.output, h.size, fun k hk _ _ => h.block k hk⟩
theorem But2.ofB {g b : Nat} {w w' : World} (h : But b w w') : But2 g b w w' := ⟨h.os, h.tape, h.output, h.size, fun k hk _ hb => h.block k hk hb⟩
theorem But2.ofG {g b : Nat} {w w' : World} (h : But g w w') : But2 g b w w' := ⟨h.os, h.tape, h.output, h.size, fun k hk hg _ => h.block k hk hg⟩
theorem But2.trans {g b : Nat} {x y w : World} (h : But2 g b x y) (k : But2 g b y w) : But2 g b x w :=
  ⟨k.os.trans h.os, k.tape.trans h.tape, k.output.trans h.output, Nat.le_trans h.size k.size, fun j hj h1 h2 => (k.block j (Nat.lt_of_lt_of_le hj h.size) h1 h2).trans (h.block j hj h1 h2)⟩
theorem But2.grow {g b : Nat} {x y w : World} (h : But2 g b x y) (k : Below y.heap.size y w) : But2 g b x w := h.trans (But2.of k)
theorem But2.drew {g b : Nat} {x w : World} (h : But2 g b x w) : But2 g b x w.drew := ⟨h.os, h.tape, h.output, h.size, h.block⟩
theorem But2.setG {g b : Nat} {x w : World} (h : But2 g b x w) (j : Nat) (v : Value) : But2 g b x (w.setCell ⟨g, j, none⟩ v) := h.trans (But2.ofG ((But.refl g w).setCell ⟨g, j, none⟩ rfl v))
theorem But2.setB {g b : Nat} {x w : World} (h : But2 g b x w) (j : Nat) (v : Value) : But2 g b x (w.setCell ⟨b, j, none⟩ v) := h.trans (But2.ofB ((But.refl b w).setCell ⟨b, j, none⟩ rfl v))
theorem But2.below {g b B : Nat} {w w' : World} (h : But2 g b w w') (hg : B ≤ g) (hb : B ≤ b) (hw : B ≤ w.heap.size) : Below B w w' :=
  ⟨h.os, h.tape, h.output, h.size, fun k hk => h.block k (by omega) (by omega) (by omega)⟩
theorem But2.row {g b : Nat} {w w' : World} (h : But2 g b w w') {k : Nat} {o : Obj} (hk : w.heap[k]? = some o) (hg : k ≠ g) (hb : k ≠ b) : w'.heap[k]? = some o :=
  (h.block k (Array.getElem?_eq_some_iff.1 hk).1 hg hb).trans hk

/-- A game's own three cells. -/
def GmAt (w : World) (g b : Nat) (K : Nat) (v : Value) : Prop := w.heap[g]? = some (.cells #[.pointer (some ⟨b, 0, none⟩), .int .u64 (K : Int), v] 61)
/-- A game whose board is the position z. -/
def Gm (w : World) (g b : Nat) (z : List Int) (K : Nat) (v : Value) : Prop := GmAt w g b K v ∧ Brd w b z ∧ g ≠ b
theorem GmAt.lt {w : World} {g b K : Nat} {v : Value} (h : GmAt w g b K v) : g < w.heap.size := (Array.getElem?_eq_some_iff.1 h).1
theorem GmAt.grow {w w' : World} {g b K : Nat} {v : Value} (h : GmAt w g b K v) (hb : Below w.heap.size w w') : GmAt w' g b K v := (hb.block g h.lt).trans h
theorem GmAt.drew {w : World} {g b K : Nat} {v : Value} (h : GmAt w g b K v) : GmAt w.drew g b K v := h
theorem GmAt.cells {w : World} {g b K : Nat} {v : Value} (h : GmAt w g b K v) : w.cell? ⟨g, 0, none⟩ = some (.pointer (some ⟨b, 0, none⟩)) ∧ w.cell? ⟨g, 1, none⟩ = some (.int .u64 (K : Int)) ∧ w.cell? ⟨g, 2, none⟩ = some v := by
  refine ⟨?_, ?_, ?_⟩ <;> simp [World.cell?, show w.heap[g]? = _ from h]
theorem GmAt.frozen {w : World} {g b K : Nat} {v : Value} (h : GmAt w g b K v) (j : Nat) : w.frozen? ⟨g, j, none⟩ = false := frozen_of_row _ _ _ _ _ h
theorem GmAt.setK {w : World} {g b K : Nat} {v : Value} (h : GmAt w g b K v) (K' : Nat) : GmAt (w.setCell ⟨g, 1, none⟩ (.int .u64 (K' : Int))) g b K' v := by
  unfold GmAt
  rw [heap_setCell_same _ _ _ _ _ _ h]
  rfl
theorem GmAt.setV {w : World} {g b K : Nat} {v : Value} (h : GmAt w g b K v) (v' : Value) : GmAt (w.setCell ⟨g, 2, none⟩ v') g b K v' := by
  unfold GmAt
  rw [heap_setCell_same _ _ _ _ _ _ h]
  rfl
theorem GmAt.other {w : World} {g b K : Nat} {v : Value} (h : GmAt w g b K v) {k : Nat} (hk : g ≠ k) (j : Nat) (u : Value) : GmAt (w.setCell ⟨k, j, none⟩ u) g b K v :=
  (heap_setCell_other _ _ _ _ hk).trans h
theorem GmAt.but {w w' : World} {g b K : Nat} {v : Value} (h : GmAt w g b K v) (hb : But b w w') (hg : g ≠ b) : GmAt w' g b K v := (hb.block g h.lt hg).trans h
theorem Gm.grow {w w' : World} {g b : Nat} {z : List Int} {K : Nat} {v : Value} (h : Gm w g b z K v) (hb : Below w.heap.size w w') : Gm w' g b z K v := ⟨h.1.grow hb, h.2.1.grow hb, h.2.2⟩
theorem Gm.drew {w : World} {g b : Nat} {z : List Int} {K : Nat} {v : Value} (h : Gm w g b z K v) : Gm w.drew g b z K v := h

theorem setP_brd {w : World} {b : Nat} {z : List Int} (h : Brd w b z) (hz : z.length = 98) (j : Nat) (h0 : 81 ≤ j) (hj : j < 98) (v : Int) : Brd (w.setCell ⟨b, j, none⟩ (.int .i8 v)) b (z.set j v) := by
  refine (BrdAt.setP h hz j hj v).congr fun i hi => ?_
  have hw : ∀ f : Int → Bool, whereN z f 81 = whereN (z.set j v) f 81 := fun f => where_congr _ _ _ _ fun k hk => by
    rw [at8_set z j v k (by omega), if_neg (by omega)]
  unfold setAt pieceN sideN
  rw [hw, hw]

theorem brd_other {w : World} {b k : Nat} {z : List Int} (h : Brd w b z) (hk : b ≠ k) (j : Nat) (u : Value) : Brd (w.setCell ⟨k, j, none⟩ u) b z :=
  (heap_setCell_other _ _ _ _ hk).trans h

theorem mover_any (g b : Nat) (z : List Int) (K : Nat) (v : Value) (hz : z.length = 98) (h8 : I8s z) (w : World) (h : Gm w g b z K v) :
    Calls Tryd.prog 89 #[.pointer (some ⟨g, 0, none⟩)] w fun e w' => e = .returned (.int .i64 (at8 z 97)) ∧ w = w' := by
  obtain ⟨g0, g1, g2⟩ := h.1.cells
  have c := h.2.1.cell hz 97 (by omega)
  have hb := h8.at 97
  obtain ⟨hb0, hb1⟩ := hb
  generalize at8 z 97 = s at *
  clear h hz h8
  go_enter Tryd.func89, Tryd.ntmps89
  go_wp2
  go_ret
  exact ⟨rfl, rfl⟩

set_option maxHeartbeats 1000000 in
theorem turn_any (g b : Nat) (z : List Int) (K : Nat) (v : Value) (hK : K < 18446744073709551616) (hz : z.length = 98) (hs : at8 z 97 = 0 ∨ at8 z 97 = 1) (w : World) (h : Gm w g b z K v) :
    Calls Tryd.prog 75 #[.pointer (some ⟨g, 0, none⟩)] w fun e w' => e = .returned (.tuple #[]) ∧ Gm w' g b (z.set 97 (1 - at8 z 97)) (K ^^^ sideK) v ∧ But2 g b w w' := by
  obtain ⟨g0, g1, g2⟩ := h.1.cells
  have c := h.2.1.cell hz 97 (by omega)
  have f := h.2.1.frozen 97
  have fg := h.1.frozen 1
  have S := Lib.hid (fun W => sideK_any W)
  have X := Lib.hid (u64_xor_nat K sideK hK sideK_lt)
  have P := Lib.hid (setP_brd h.2.1 hz 97 (by omega) (by omega) (1 - at8 z 97)).drew
  have HG := Lib.hid (h.1.other h.2.2 97 (.int .i8 (1 - at8 z 97))).drew
  have HN := Lib.hid h.2.2
  have B := Lib.hid ((But2.refl g b w).setB 97 (.int .i8 (1 - at8 z 97))).drew
  generalize sideK = sk at *
  have hs0 : 0 ≤ at8 z 97 ∧ at8 z 97 ≤ 1 := by omega
  generalize at8 z 97 = s at *
  obtain ⟨s0, s1⟩ := hs0
  clear h hz hK hs
  go_enter Tryd.func75, Tryd.ntmps75
  go_wp2_with fail
  go_region
  clear g0 g1 g2 c f fg
  generalize (w.setCell ⟨b, 97, none⟩ (.int .i8 (1 - s))).drew = w1 at *
  obtain ⟨g0, g1, g2⟩ := HG.out.cells
  have fg := HG.out.frozen 1
  have zg := HG.out.lt
  go_wp2_with fail
  go_region_with (go_at_call 78; refine (S.out _).mono ?_; rintro e w2 ⟨rfl, hb⟩; have HG2 := Lib.hid (HG.out.drew.grow hb); have P2 := Lib.hid (P.out.drew.grow hb); have B2 := Lib.hid (B.out.drew.grow hb); obtain ⟨d0, d1, d2⟩ := HG2.out.cells; have f2 := HG2.out.frozen 1; have x := X.out)
  all_goals
    go_end0
    exact ⟨rfl, ⟨HG2.out.setK _, brd_other P2.out (Ne.symm HN.out) _ _, HN.out⟩, B2.out.setG _ _⟩

set_option maxHeartbeats 2000000 in
theorem gput_any (g b : Nat) (z : List Int) (K : Nat) (v : Value) (q : Nat) (x : Int) (hq : q < 81) (hx : -128 ≤ x ∧ x ≤ 127) (hK : K < 18446744073709551616) (hz : z.length = 98) (h8 : I8s z) (hc : Clean z) (w : World) (h : Gm w g b z K v) :
    Calls Tryd.prog 79 #[.pointer (some ⟨g, 0, none⟩), .int .i64 q, .int .i8 x] w fun e w' => e = .returned (.tuple #[]) ∧ Gm w' g b (putZ z q x) (K ^^^ (pieceK q (at8 z q) ^^^ pieceK q x)) v ∧ But2 g b w w' := by
  obtain ⟨g0, g1, g2⟩ := h.1.cells
  have fg := h.1.frozen 1
  have zg := h.1.lt
  have A := Lib.hid (fun W (hb : Brd W b z) => at_brd b z q hz W hb)
  rw [if_pos (by omega : (0 : Int) ≤ q ∧ (q : Int) < 81), Int.toNat_natCast] at A
  have hy := h8.at q
  have K1 := Lib.hid (fun W => pieceK_any q (at8 z q) hy.1 hy.2 W)
  have K2 := Lib.hid (fun W => pieceK_any q x hx.1 hx.2 W)
  have PU := Lib.hid (fun W (hb : Brd W b z) => put_any b z q x hx hz hc W hb)
  have X1 := Lib.hid (u64_xor_nat (pieceK q (at8 z q)) (pieceK q x) (pieceK_lt _ _) (pieceK_lt _ _))
  have X2 := Lib.hid (u64_xor_nat K (pieceK q (at8 z q) ^^^ pieceK q x) hK (xor_lt64 (pieceK_lt _ _) (pieceK_lt _ _)))
  have HB := Lib.hid h.2.1
  have HG := Lib.hid h.1
  have HN := Lib.hid h.2.2
  have B0 := Lib.hid (But2.refl g b w)
  clear h hz h8 hc hK hx hy hq
  generalize at8 z q = y at *
  generalize pieceK q y = k1 at *
  generalize pieceK q x = k2 at *
  generalize k1 ^^^ k2 = k3 at *
  generalize putZ z q x = z' at *
  go_enter Tryd.func79, Tryd.ntmps79
  go_wp2_with fail
  go_region_with (first
    | (go_at_call 19; refine (A.out _ HB.out.drew).mono ?_; rintro e w1 ⟨rfl, rfl⟩)
    | (go_at_call_of 76 (Value.int .i8 y); refine (K1.out _).mono ?_; rintro e w2 ⟨rfl, hb⟩; have HG2 := Lib.hid (HG.out.drew.grow hb); have P2 := Lib.hid (HB.out.drew.grow hb); have B2 := Lib.hid (B0.out.drew.grow hb); obtain ⟨d0, d1, d2⟩ := HG2.out.cells)
    | (go_at_call_of 76 (Value.int .i8 x); refine (K2.out _).mono ?_; rintro e w3 ⟨rfl, hb⟩; have HG3 := Lib.hid (HG2.out.grow hb); have P3 := Lib.hid (P2.out.grow hb); have B3 := Lib.hid (B2.out.grow hb); obtain ⟨e0, e1, e2⟩ := HG3.out.cells; have f3 := HG3.out.frozen 1; have x1 := X1.out; have x2 := X2.out))
  all_goals
    have HG4 := Lib.hid (HG3.out.setK (K ^^^ k3))
    have P4 := Lib.hid (brd_other P3.out (Ne.symm HN.out) 1 (.int .u64 ((K ^^^ k3 : Nat) : Int)))
    have B4 := Lib.hid (B3.out.setG 1 (.int .u64 ((K ^^^ k3 : Nat) : Int)))
    clear g0 g1 g2 d0 d1 d2 e0 e1 e2 fg f3 x1 x2
    generalize w3.setCell ⟨g, 1, none⟩ (.int .u64 ((K ^^^ k3 : Nat) : Int)) = w4 at *
    obtain ⟨g0, g1, g2⟩ := HG4.out.cells
    go_wp2_with (go_at_call 18; refine (PU.out _ P4.out).mono ?_; rintro e w5 ⟨rfl, hp, hbut⟩)
    go_end0
    exact ⟨rfl, ⟨HG4.out.but hbut HN.out, hp, HN.out⟩, B4.out.trans (But2.ofB hbut)⟩
end Go.Proofs.YtbopbekehccdmaaDoor
