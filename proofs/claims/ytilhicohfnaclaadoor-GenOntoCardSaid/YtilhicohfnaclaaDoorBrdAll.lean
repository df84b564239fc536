/-
  Boards in memory: clear and Put.
-/
import Derived.Test.YtilhicohfnaclaaDoorBrdMath
import Derived.Test.YtilhicohfnaclaaDoorLeaf
import Derived.Test.YtilhicohfnaclaaDoorSetAll
import Derived.Deep.RegionWith
import Derived.OpenShut
namespace Go.Proofs.YtilhicohfnaclaaDoor
set_option maxRecDepth 100000
open Go.RowKit
set_option linter.unusedVariables false
set_option linter.unusedSimpArgs false

def BrdAt (w : World) (b : Nat) (z : List Int) (S : Nat → Nat) : Prop := w.heap[b]? = some (.cells (brdC z S).toArray 91)
theorem BrdAt.lt {w : World} {b : Nat} {z : List Int} {S : Nat → Nat} (h : BrdAt w b z S) : b < w.heap.size := (Array.getElem?_eq_some_iff.1 h).1
theorem BrdAt.grow {w w' : World} {b : Nat} {z : List Int} {S : Nat → Nat} (h : BrdAt w b z S) (hb : Below w.heap.size w w') : BrdAt w' b z S := (hb.block b h.lt).trans h
theorem BrdAt.but {w w' : World} {b g : Nat} {z : List Int} {S : Nat → Nat} (h : BrdAt w b z S) (hb : But g w w') (hg : b ≠ g) : BrdAt w' b z S := (hb.block b h.lt hg).trans h
theorem BrdAt.drew {w : World} {b : Nat} {z : List Int} {S : Nat → Nat} (h : BrdAt w b z S) : BrdAt w.drew b z S := h
theorem BrdAt.at {w : World} {b : Nat} {z : List Int} {S : Nat → Nat} (h : BrdAt w b z S) (j : Nat) (v : Value) (hv : (brdC z S)[j]? = some v) : w.cell? ⟨b, j, none⟩ = some v := by
  rw [cell_of_row w b j _ _ _ h]
  simpa using hv
theorem BrdAt.cell {w : World} {b : Nat} {z : List Int} {S : Nat → Nat} (h : BrdAt w b z S) (hz : z.length = 98) (j : Nat) (hj : j < 98) : w.cell? ⟨b, j, none⟩ = some (.int .i8 (at8 z j)) := h.at j _ (brdC_pos z S hz j hj)
theorem BrdAt.lo {w : World} {b : Nat} {z : List Int} {S : Nat → Nat} (h : BrdAt w b z S) (hz : z.length = 98) (i : Nat) (hi : i < 34) : w.cell? ⟨b, 98 + i * 2, none⟩ = some (.int .u64 (loW (S i))) := h.at _ _ (brdC_lo z S hz i hi)
theorem BrdAt.hi {w : World} {b : Nat} {z : List Int} {S : Nat → Nat} (h : BrdAt w b z S) (hz : z.length = 98) (i : Nat) (hi : i < 34) : w.cell? ⟨b, 98 + i * 2 + 1, none⟩ = some (.int .u64 (hiW (S i))) := h.at _ _ (brdC_hi z S hz i hi)
theorem BrdAt.frozen {w : World} {b : Nat} {z : List Int} {S : Nat → Nat} (h : BrdAt w b z S) (j : Nat) : w.frozen? ⟨b, j, none⟩ = false := frozen_of_row _ _ _ _ _ h
theorem BrdAt.setP {w : World} {b : Nat} {z : List Int} {S : Nat → Nat} (h : BrdAt w b z S) (hz : z.length = 98) (j : Nat) (hj : j < 98) (v : Int) : BrdAt (w.setCell ⟨b, j, none⟩ (.int .i8 v)) b (z.set j v) S := by
  unfold BrdAt
  rw [heap_setCell_same _ _ _ _ _ _ h, List.setIfInBounds_toArray, brdC_setP z S hz j hj]
theorem BrdAt.setW {w : World} {b : Nat} {z : List Int} {S : Nat → Nat} (h : BrdAt w b z S) (hz : z.length = 98) (i : Nat) (hi : i < 34) (n : Nat) :
    BrdAt ((w.setCell ⟨b, 98 + i * 2, none⟩ (.int .u64 (loW n))).setCell ⟨b, 98 + i * 2 + 1, none⟩ (.int .u64 (hiW n))) b z (upd S i n) := by
  unfold BrdAt
  rw [heap_setCell_same _ _ _ _ _ _ (heap_setCell_same _ _ _ _ _ _ h), List.setIfInBounds_toArray, List.setIfInBounds_toArray, brdC_setW z S hz i hi]
theorem BrdAt.congr {w : World} {b : Nat} {z : List Int} {S S' : Nat → Nat} (h : BrdAt w b z S) (hS : ∀ i, i < 34 → S i = S' i) : BrdAt w b z S' := by
  unfold BrdAt at *
  rw [← brdC_congr z S S' hS]
  exact h
/-- A board whose sets are those of its pieces. -/
def Brd (w : World) (b : Nat) (z : List Int) : Prop := BrdAt w b z (setAt z)

theorem _root_.Go.RowKit.Below.drew' {w w' : World} (h : Below w.drew.heap.size w.drew w') : Below w.heap.size w w' := (bref w).drew.trans h

theorem bSquare_any (q : Int) (w : World) : Calls Tryd.prog 80 #[.int .i64 q] w fun e w' => e = .returned (.bool (decide (0 ≤ q ∧ q < 81))) ∧ w = w' := by
  by_cases h0 : 0 ≤ q
  · by_cases h1 : q < 81
    · rw [decide_eq_true (And.intro h0 h1)]
      go_enter Tryd.func80, Tryd.ntmps80
      go_wp2
      go_ret
      exact ⟨rfl, rfl⟩
    · rw [decide_eq_false (fun h => h1 h.2)]
      go_enter Tryd.func80, Tryd.ntmps80
      go_wp2
      go_ret
      exact ⟨rfl, rfl⟩
  · rw [decide_eq_false (fun h => h0 h.1)]
    go_enter Tryd.func80, Tryd.ntmps80
    go_wp2
    go_ret
    exact ⟨rfl, rfl⟩
theorem bSide_any (q : Int) (w : World) : Calls Tryd.prog 78 #[.int .i64 q] w fun e w' => e = .returned (.bool (decide (q = 0 ∨ q = 1))) ∧ w = w' := by
  by_cases h0 : q = 0
  · subst h0
    go_enter Tryd.func78, Tryd.ntmps78
    go_wp2
    go_ret
    exact ⟨rfl, rfl⟩
  · by_cases h1 : q = 1
    · subst h1
      go_enter Tryd.func78, Tryd.ntmps78
      go_wp2
      go_ret
      exact ⟨rfl, rfl⟩
    · rw [decide_eq_false (fun h => h.elim h0 h1)]
      have e0 : (q == 0) = false := by simpa using h0
      have e1 : (q == 1) = false := by simpa using h1
      go_enter Tryd.func78, Tryd.ntmps78
      go_wp2
      go_ret
      exact ⟨rfl, rfl⟩

theorem set_self (z : List Int) (q : Nat) (h : at8 z q = 0) (hq : q < z.length) : z.set q 0 = z := by
  apply List.ext_getElem?
  intro i
  rw [List.getElem?_set]
  by_cases e : q = i
  · subst e
    rw [if_pos rfl, if_pos hq]
    unfold at8 at h
    rw [List.getD_eq_getElem?_getD, List.getElem?_eq_getElem hq] at h
    rw [List.getElem?_eq_getElem hq]
    exact congrArg some h.symm
  · rw [if_neg e]

set_option maxHeartbeats 1000000 in
theorem clear_any (b : Nat) (z : List Int) (q : Nat) (hq : q < 81) (hz : z.length = 98) (hc : Clean z) (w : World) (hb : Brd w b z) :
    Calls Tryd.prog 81 #[.pointer (some ⟨b, 0, none⟩), .int .i64 q] w fun e w' => e = .returned (.tuple #[]) ∧ Brd w' b (z.set q 0) ∧ But b w w' := by
  have hk := kind_side (at8 z q)
  have hcq := hc q hq
  have c0 := hb.cell hz q (by omega)
  have f0 := hb.frozen q
  have HB := Lib.hid hb
  have HZ := Lib.hid hz
  clear hb hz hc
  by_cases h0 : kindF (at8 z q) = 0
  · have hx := hcq h0
    have SS := Lib.hid (fun W => side_any 0 W (by omega) (by omega))
    rw [side_zero] at SS
    have SI := Lib.hid (fun W => bSide_any (-1) W)
    rw [show decide ((-1 : Int) = 0 ∨ (-1 : Int) = 1) = false by decide] at SI
    rw [hx] at c0
    have P1 := Lib.hid (HB.out.setP HZ.out q (by omega) 0)
    have hst := set_self z q hx (by rw [HZ.out]; omega)
    clear hk hcq h0
    go_enter Tryd.func81, Tryd.ntmps81
    go_wp2_with (first
      | (go_at_call 82; refine (SS.out _).mono ?_; rintro e w1 ⟨rfl, rfl⟩)
      | (go_at_call 78; refine (SI.out _).mono ?_; rintro e w2 ⟨rfl, rfl⟩))
    go_end0
    refine ⟨rfl, ?_, (But.refl b w).setCell _ rfl _⟩
    unfold Brd
    have P2 := P1.out
    rw [hst] at P2 ⊢
    exact P2
  · obtain ⟨x, s, hx, hs, h1, h2⟩ : ∃ x s : Nat, at8 z q = x ∧ sideF x = s ∧ 1 ≤ x ∧ x < 32 ∧ s < 2 := by
      refine ⟨(at8 z q).toNat, (sideF (at8 z q)).toNat, by omega, ?_, by omega, by omega, by omega⟩
      rw [Int.toNat_of_nonneg (by omega)]
      omega
    have sx : sideF x = s := hs
    rw [hx] at c0
    have SS := Lib.hid (fun W => side_any x W (by omega) (by omega))
    rw [sx] at SS
    have SI := Lib.hid (fun W => bSide_any s W)
    rw [decide_eq_true (show (s : Int) = 0 ∨ (s : Int) = 1 by omega)] at SI
    have P1 := Lib.hid (HB.out.setP HZ.out q (by omega) 0)
    have W1 := Lib.hid (fun W => without_any (setAt z x) q (setAt_sq _ _) W)
    have W2 := Lib.hid (fun W => without_any (setAt z (32 + s)) q (setAt_sq _ _) W)
    have HC := Lib.hid (set_clear z q hq HZ.out x s hx sx)
    have hz1 : (z.set q 0).length = 98 := by rw [List.length_set]; exact HZ.out
    have HZ1 := Lib.hid hz1
    have B1 := Lib.hid ((But.refl b w).setCell ⟨b, q, none⟩ rfl (.int .i8 0))
    obtain ⟨hx2, hs2⟩ := h2
    clear hk hcq h0 hs hx sx hz1
    go_enter Tryd.func81, Tryd.ntmps81
    go_wp2_with (first
      | (go_at_call 82; refine (SS.out _).mono ?_; rintro e w1 ⟨rfl, rfl⟩)
      | (go_at_call 78; refine (SI.out _).mono ?_; rintro e w2 ⟨rfl, rfl⟩))
    generalize w.setCell ⟨b, q, none⟩ (.int .i8 0) = w1 at *
    have a0 := P1.out.lo HZ1.out x (by omega)
    have a1 := P1.out.hi HZ1.out x (by omega)
    have fa := P1.out.frozen (98 + x * 2)
    have fb := P1.out.frozen (98 + x * 2 + 1)
    have zb := P1.out.lt
    clear c0 f0
    generalize hl1 : loW (setAt z x) = l1 at a0 W1
    generalize hl2 : hiW (setAt z x) = l2 at a1 W1
    go_region_with (go_at_call 113; refine (W1.out _).mono ?_; rintro e w3 ⟨rfl, hb3⟩; have P3 := Lib.hid (P1.out.drew.grow hb3); have g0 := P3.out.lo HZ1.out x (by omega); have g1 := P3.out.hi HZ1.out x (by omega); have fc := P3.out.frozen (98 + x * 2); have fd := P3.out.frozen (98 + x * 2 + 1); clear a0 a1 fa fb)
    have P4 := Lib.hid (P3.out.setW HZ1.out x (by omega) (minusN (setAt z x) (oneN q)))
    have B3 := Lib.hid ((((B1.out.trans (But.of hb3.drew')).setCell ⟨b, 98 + x * 2, none⟩ rfl (.int .u64 (loW (minusN (setAt z x) (oneN q))))).setCell ⟨b, 98 + x * 2 + 1, none⟩ rfl (.int .u64 (hiW (minusN (setAt z x) (oneN q))))))
    clear g0 g1 fc fd P3 P1 B1 hb3 zb W1
    generalize (w3.setCell ⟨b, 98 + x * 2, none⟩ (.int .u64 (loW (minusN (setAt z x) (oneN q))))).setCell ⟨b, 98 + x * 2 + 1, none⟩ (.int .u64 (hiW (minusN (setAt z x) (oneN q)))) = w4 at *
    have hup : upd (setAt z) x (minusN (setAt z x) (oneN q)) (32 + s) = setAt z (32 + s) := upd_ne _ _ _ _ (by omega)
    have a0 := P4.out.lo HZ1.out (32 + s) (by omega)
    have a1 := P4.out.hi HZ1.out (32 + s) (by omega)
    rw [hup, show 98 + (32 + s) * 2 = 162 + s * 2 by omega] at a0 a1
    have fa := P4.out.frozen (162 + s * 2)
    have fb := P4.out.frozen (162 + s * 2 + 1)
    have zb := P4.out.lt
    generalize hk1 : loW (setAt z (32 + s)) = k1 at a0 W2
    generalize hk2 : hiW (setAt z (32 + s)) = k2 at a1 W2
    clear hup
    go_wp2
    go_region_with (go_at_call 113; refine (W2.out _).mono ?_; rintro e w5 ⟨rfl, hb5⟩; have P5 := Lib.hid (P4.out.drew.grow hb5); have g0 := P5.out.lo HZ1.out (32 + s) (by omega); have g1 := P5.out.hi HZ1.out (32 + s) (by omega); rw [show 98 + (32 + s) * 2 = 162 + s * 2 by omega] at g0 g1; have fc := P5.out.frozen (162 + s * 2); have fd := P5.out.frozen (162 + s * 2 + 1); clear a0 a1 fa fb)
    have P6 := P5.out.setW HZ1.out (32 + s) (by omega) (minusN (setAt z (32 + s)) (oneN q))
    rw [show 98 + (32 + s) * 2 = 162 + s * 2 by omega] at P6
    go_end0
    exact ⟨rfl, P6.congr HC.out, (((B3.out.trans (But.of hb5.drew')).setCell ⟨b, 162 + s * 2, none⟩ rfl _).setCell ⟨b, 162 + s * 2 + 1, none⟩ rfl _)⟩

/-- The position when a piece, or none, is put on a square, or on what is none. -/
def putZ (z : List Int) (q x : Int) : List Int := if 0 ≤ q ∧ q < 81 then z.set q.toNat (if kindF x = 0 then 0 else x) else z
theorem putZ_at (z : List Int) (k : Nat) (x : Int) (hk : k < 81) : putZ z k x = z.set k (if kindF x = 0 then 0 else x) := by
  unfold putZ
  rw [if_pos (by omega), Int.toNat_natCast]
theorem putZ_len (z : List Int) (q x : Int) : (putZ z q x).length = z.length := by
  unfold putZ
  split
  · rw [List.length_set]
  · rfl
theorem putZ_clean {z : List Int} (h : Clean z) (hz : z.length = 98) (q x : Int) : Clean (putZ z q x) := by
  unfold putZ
  split
  · refine clean_set h hz _ _ fun hk => ?_
    split
    · rfl
    · rename_i hx
      rw [if_neg hx] at hk
      exact absurd hk hx
  · exact h
theorem putZ_8 {z : List Int} (h : I8s z) (q x : Int) (hx : -128 ≤ x ∧ x ≤ 127) : I8s (putZ z q x) := by
  unfold putZ
  split
  · exact set_8 h _ (by split <;> omega)
  · exact h

set_option maxHeartbeats 1000000 in
theorem put_any (b : Nat) (z : List Int) (q x : Int) (hx : -128 ≤ x ∧ x ≤ 127) (hz : z.length = 98) (hc : Clean z) (w : World) (hb : Brd w b z) :
    Calls Tryd.prog 43 #[.pointer (some ⟨b, 0, none⟩), .int .i64 q, .int .i8 x] w fun e w' => e = .returned (.tuple #[]) ∧ Brd w' b (putZ z q x) ∧ But b w w' := by
  by_cases hq : 0 ≤ q ∧ q < 81
  · obtain ⟨k, rfl⟩ : ∃ k : Nat, q = k := ⟨q.toNat, by omega⟩
    have hk81 : k < 81 := by omega
    have SQ := Lib.hid (fun W => bSquare_any k W)
    rw [decide_eq_true hq] at SQ
    rw [putZ_at z k x hk81]
    have hk := kind_side x
    have CL := Lib.hid (fun W (h : Brd W b z) => clear_any b z k hk81 hz hc W h)
    have SS := Lib.hid (fun W => side_any x W hx.1 hx.2)
    have hz1 : (z.set k 0).length = 98 := by rw [List.length_set]; exact hz
    have HZ1 := Lib.hid hz1
    have a8 : at8 (z.set k 0) k = 0 := by rw [at8_set z k 0 k (by omega), if_pos rfl]
    have A8 := Lib.hid a8
    have HB := Lib.hid hb
    clear hq hz hc hb hz1 a8
    by_cases h0 : kindF x = 0
    · rw [if_pos h0]
      have hs : sideF x = -1 := by omega
      rw [hs] at SS
      have SI := Lib.hid (fun W => bSide_any (-1) W)
      rw [show decide ((-1 : Int) = 0 ∨ (-1 : Int) = 1) = false by decide] at SI
      clear hk h0 hs hx
      go_enter Tryd.func43, Tryd.ntmps43
      go_wp2_with (first
        | (go_at_call 80; refine (SQ.out _).mono ?_; rintro e w1 ⟨rfl, rfl⟩)
        | (go_at_call 81; refine (CL.out _ HB.out).mono ?_; rintro e w2 ⟨rfl, P2, B2⟩; have P2 := Lib.hid P2; have B2 := Lib.hid B2)
        | (go_at_call 82; refine (SS.out _).mono ?_; rintro e w3 ⟨rfl, rfl⟩)
        | (go_at_call 78; refine (SI.out _).mono ?_; rintro e w4 ⟨rfl, rfl⟩))
      go_end0
      exact ⟨rfl, P2.out, B2.out⟩
    · rw [if_neg h0]
      obtain ⟨y, s, rfl, hs, h1, hx2, hs2⟩ : ∃ y s : Nat, x = y ∧ sideF x = s ∧ 1 ≤ y ∧ y < 32 ∧ s < 2 := by
        refine ⟨x.toNat, (sideF x).toNat, by omega, ?_, by omega, by omega, by omega⟩
        rw [Int.toNat_of_nonneg (by omega)]
      rw [hs] at SS
      have SI := Lib.hid (fun W => bSide_any s W)
      rw [decide_eq_true (show (s : Int) = 0 ∨ (s : Int) = 1 by omega)] at SI
      have W1 := Lib.hid (fun W => with_any (setAt (z.set k 0) y) k (setAt_sq _ _) W)
      have W2 := Lib.hid (fun W => with_any (setAt (z.set k 0) (32 + s)) k (setAt_sq _ _) W)
      have HC := Lib.hid (set_put (z.set k 0) k hk81 HZ1.out A8.out y s hs)
      have hz2 : ((z.set k 0).set k (y : Int)).length = 98 := by rw [List.length_set]; exact HZ1.out
      have HZ2 := Lib.hid hz2
      have HSS := Lib.hid (show (z.set k 0).set k (y : Int) = z.set k y from List.set_set ..)
      clear hk h0 hs hx hz2 A8
      generalize z.set k 0 = z1 at *
      generalize hzz : z1.set k (y : Int) = z2 at *
      go_enter Tryd.func43, Tryd.ntmps43
      go_wp2_with (first
        | (go_at_call 80; refine (SQ.out _).mono ?_; rintro e w1 ⟨rfl, rfl⟩)
        | (go_at_call 81; refine (CL.out _ HB.out).mono ?_; rintro e w2 ⟨rfl, P2, B2⟩; have c0 := P2.cell HZ1.out k (by omega); have f0 := P2.frozen k; have P2 := Lib.hid P2; have B2 := Lib.hid B2)
        | (go_at_call 82; refine (SS.out _).mono ?_; rintro e w3 ⟨rfl, rfl⟩)
        | (go_at_call 78; refine (SI.out _).mono ?_; rintro e w4 ⟨rfl, rfl⟩))
      have P1 := P2.out.setP HZ1.out k (by omega) y
      rw [hzz] at P1
      have P1 := Lib.hid P1
      have B1 := Lib.hid (B2.out.setCell ⟨b, k, none⟩ rfl (.int .i8 y))
      clear c0 f0 P2 B2 hzz
      generalize w2.setCell ⟨b, k, none⟩ (.int .i8 y) = w1 at *
      have a0 := P1.out.lo HZ2.out y (by omega)
      have a1 := P1.out.hi HZ2.out y (by omega)
      have fa := P1.out.frozen (98 + y * 2)
      have fb := P1.out.frozen (98 + y * 2 + 1)
      have zb := P1.out.lt
      generalize hn1 : setAt z1 y ||| oneN k = n1 at W1 HC
      generalize hl1 : loW (setAt z1 y) = l1 at a0 W1
      generalize hl2 : hiW (setAt z1 y) = l2 at a1 W1
      go_region_with (go_at_call 65; refine (W1.out _).mono ?_; rintro e w3 ⟨rfl, hb3⟩; have P3 := Lib.hid (P1.out.drew.grow hb3); have g0 := P3.out.lo HZ2.out y (by omega); have g1 := P3.out.hi HZ2.out y (by omega); have fc := P3.out.frozen (98 + y * 2); have fd := P3.out.frozen (98 + y * 2 + 1); clear a0 a1 fa fb)
      have P4 := Lib.hid (P3.out.setW HZ2.out y (by omega) n1)
      have B3 := Lib.hid ((((B1.out.trans (But.of hb3.drew')).setCell ⟨b, 98 + y * 2, none⟩ rfl (.int .u64 (loW n1))).setCell ⟨b, 98 + y * 2 + 1, none⟩ rfl (.int .u64 (hiW n1))))
      clear g0 g1 fc fd P3 P1 B1 hb3 zb W1
      generalize (w3.setCell ⟨b, 98 + y * 2, none⟩ (.int .u64 (loW n1))).setCell ⟨b, 98 + y * 2 + 1, none⟩ (.int .u64 (hiW n1)) = w4 at *
      have hup : upd (setAt z1) y n1 (32 + s) = setAt z1 (32 + s) := upd_ne _ _ _ _ (by omega)
      have a0 := P4.out.lo HZ2.out (32 + s) (by omega)
      have a1 := P4.out.hi HZ2.out (32 + s) (by omega)
      rw [hup, show 98 + (32 + s) * 2 = 162 + s * 2 by omega] at a0 a1
      have fa := P4.out.frozen (162 + s * 2)
      have fb := P4.out.frozen (162 + s * 2 + 1)
      have zb := P4.out.lt
      generalize hn2 : setAt z1 (32 + s) ||| oneN k = n2 at W2 HC
      generalize hk1 : loW (setAt z1 (32 + s)) = k1 at a0 W2
      generalize hk2 : hiW (setAt z1 (32 + s)) = k2 at a1 W2
      clear hup
      go_wp2
      go_region_with (go_at_call 65; refine (W2.out _).mono ?_; rintro e w5 ⟨rfl, hb5⟩; have P5 := Lib.hid (P4.out.drew.grow hb5); have g0 := P5.out.lo HZ2.out (32 + s) (by omega); have g1 := P5.out.hi HZ2.out (32 + s) (by omega); rw [show 98 + (32 + s) * 2 = 162 + s * 2 by omega] at g0 g1; have fc := P5.out.frozen (162 + s * 2); have fd := P5.out.frozen (162 + s * 2 + 1); clear a0 a1 fa fb)
      have P6 := P5.out.setW HZ2.out (32 + s) (by omega) n2
      rw [show 98 + (32 + s) * 2 = 162 + s * 2 by omega] at P6
      go_end0
      rw [← HSS.out]
      exact ⟨rfl, P6.congr HC.out, (((B3.out.trans (But.of hb5.drew')).setCell ⟨b, 162 + s * 2, none⟩ rfl _).setCell ⟨b, 162 + s * 2 + 1, none⟩ rfl _)⟩
  · have SQ := Lib.hid (fun W => bSquare_any q W)
    rw [decide_eq_false hq] at SQ
    rw [show putZ z q x = z from if_neg hq]
    clear hq
    go_enter Tryd.func43, Tryd.ntmps43
    go_wp2_with (go_at_call 80; refine (SQ.out _).mono ?_; rintro e w1 ⟨rfl, rfl⟩)
    refine bodyPost_ret (results_none rfl _ _ _) rfl ?_
    exact ⟨rfl, hb, But.refl _ _⟩
end Go.Proofs.YtilhicohfnaclaaDoor

/-
  Boards: Of, At, Pieces, Taken, King, Hand, Clone.
-/
namespace Go.Proofs.YtilhicohfnaclaaDoor
set_option maxRecDepth 100000
open Go.RowKit
set_option linter.unusedVariables false
set_option linter.unusedSimpArgs false

theorem of_nat (s k : Int) : ∃ x : Nat, ofF s k = x ∧ x < 32 := by
  have h := rawF_cases k
  unfold ofF
  refine ⟨(if rawF k = 0 then 0 else if s = 0 then k else if s = 1 then 16 + k else 0 : Int).toNat, ?_⟩
  split
  · exact ⟨rfl, by decide⟩
  · split
    · omega
    · split <;> omega

set_option maxHeartbeats 1000000 in
theorem of_brd (b : Nat) (z : List Int) (s k : Int) (hk : -9223372036854775808 ≤ k ∧ k ≤ 9223372036854775807) (hz : z.length = 98) (w : World) (hb : Brd w b z) :
    Calls Tryd.prog 60 #[.pointer (some ⟨b, 0, none⟩), .int .i64 s, .int .i64 k] w fun e w' => e = .returned (.agg #[.int .u64 (loW (pieceN z (ofF s k))), .int .u64 (hiW (pieceN z (ofF s k)))]) ∧ Below w.heap.size w w' := by
  have PO := Lib.hid (fun W => pof_any s k W hk.1 hk.2)
  obtain ⟨x, hx, hx2⟩ := of_nat s k
  rw [hx] at PO ⊢
  have e : pieceN z x = setAt z x := (if_pos hx2).symm
  rw [e]
  have a0 := hb.lo hz x (by omega)
  have a1 := hb.hi hz x (by omega)
  have zb := hb.lt
  have HB := Lib.hid hb
  clear hk hx e hb hz
  generalize loW (setAt z x) = l at a0 ⊢
  generalize hiW (setAt z x) = h at a1 ⊢
  go_enter Tryd.func60, Tryd.ntmps60
  go_wp2
  go_region_with (go_at_call 63; refine (PO.out _).mono ?_; rintro e w1 ⟨rfl, rfl⟩)
  all_goals
    go_wp2
    exact bodyPost_ret (v := .agg #[.int .u64 l, .int .u64 h]) (by simp [results, Tryd.results60, go_sem]) rfl ⟨rfl, (ball (bref w) _).drew⟩

theorem at_brd (b : Nat) (z : List Int) (q : Int) (hz : z.length = 98) (w : World) (hb : Brd w b z) :
    Calls Tryd.prog 67 #[.pointer (some ⟨b, 0, none⟩), .int .i64 q] w fun e w' => e = .returned (.int .i8 (if 0 ≤ q ∧ q < 81 then at8 z q.toNat else 0)) ∧ w = w' := by
  have SQ := Lib.hid (fun W => bSquare_any q W)
  by_cases hq : 0 ≤ q ∧ q < 81
  · rw [decide_eq_true hq] at SQ
    rw [if_pos hq]
    obtain ⟨k, rfl⟩ : ∃ k : Nat, q = k := ⟨q.toNat, by omega⟩
    have hk : k < 81 := by omega
    rw [Int.toNat_natCast]
    have c0 := hb.cell hz k (by omega)
    clear hq hb hz
    generalize at8 z k = v at c0 ⊢
    go_enter Tryd.func67, Tryd.ntmps67
    go_wp2_with (go_at_call 80; refine (SQ.out _).mono ?_; rintro e w1 ⟨rfl, rfl⟩)
    go_ret
    exact ⟨rfl, rfl⟩
  · rw [decide_eq_false hq] at SQ
    rw [if_neg hq]
    clear hq hb hz
    go_enter Tryd.func67, Tryd.ntmps67
    go_wp2_with (go_at_call 80; refine (SQ.out _).mono ?_; rintro e w1 ⟨rfl, rfl⟩)
    go_ret
    exact ⟨rfl, rfl⟩

theorem side_set (z : List Int) (s : Nat) : sideN z s = setAt z (32 + s) := by
  unfold setAt
  rw [if_neg (by omega)]
  congr 1
  omega

set_option maxHeartbeats 1000000 in
theorem pieces_brd (b : Nat) (z : List Int) (s : Int) (hz : z.length = 98) (w : World) (hb : Brd w b z) :
    Calls Tryd.prog 41 #[.pointer (some ⟨b, 0, none⟩), .int .i64 s] w fun e w' => e = .returned (.agg #[.int .u64 (loW (if s = 0 ∨ s = 1 then sideN z s else 0)), .int .u64 (hiW (if s = 0 ∨ s = 1 then sideN z s else 0))]) ∧ Below w.heap.size w w' := by
  have SI := Lib.hid (fun W => bSide_any s W)
  by_cases hs : s = 0 ∨ s = 1
  · rw [decide_eq_true hs] at SI
    rw [if_pos hs]
    obtain ⟨k, rfl⟩ : ∃ k : Nat, s = k := ⟨s.toNat, by omega⟩
    have hk : k < 2 := by omega
    rw [side_set]
    have a0 := hb.lo hz (32 + k) (by omega)
    have a1 := hb.hi hz (32 + k) (by omega)
    rw [show 98 + (32 + k) * 2 = 162 + k * 2 by omega] at a0 a1
    have zb := hb.lt
    clear hs hb hz
    generalize loW (setAt z (32 + k)) = l at a0 ⊢
    generalize hiW (setAt z (32 + k)) = h at a1 ⊢
    go_enter Tryd.func41, Tryd.ntmps41
    go_wp2_with (go_at_call 78; refine (SI.out _).mono ?_; rintro e w1 ⟨rfl, rfl⟩)
    exact bodyPost_ret (v := .agg #[.int .u64 l, .int .u64 h]) (by simp [results, Tryd.results41, go_sem]) rfl ⟨rfl, ball (bref w) _⟩
  · rw [decide_eq_false hs] at SI
    rw [if_neg hs, lo_zero, hi_zero]
    have hz0 : (zeroValue 32).run Tryd.prog w = .ok (.agg #[.int .u64 0, .int .u64 0]) w := by kernel_rfl
    clear hs hb hz
    go_enter Tryd.func41, Tryd.ntmps41
    go_wp2_with (go_at_call 78; refine (SI.out _).mono ?_; rintro e w1 ⟨rfl, rfl⟩)
    exact bodyPost_ret (v := .agg #[.int .u64 0, .int .u64 0]) (by simp [results, Tryd.results41, go_sem]) rfl ⟨rfl, ball (bref w) _⟩

def takenN (z : List Int) : Nat := sideN z 0 ||| sideN z 1
theorem takenN_sq (z : List Int) : Sq (takenN z) := (sideN_sq z 0).or (sideN_sq z 1)
set_option maxHeartbeats 2000000 in
theorem taken_brd (b : Nat) (z : List Int) (hz : z.length = 98) (w : World) (hb : Brd w b z) :
    Calls Tryd.prog 39 #[.pointer (some ⟨b, 0, none⟩)] w fun e w' => e = .returned (.agg #[.int .u64 (loW (takenN z)), .int .u64 (hiW (takenN z))]) ∧ Below w.heap.size w w' := by
  have OR := Lib.hid (fun W => or_any (setAt z 32) (setAt z 33) (setAt_sq _ _) (setAt_sq _ _) W)
  have e : takenN z = setAt z 32 ||| setAt z 33 := rfl
  rw [e]
  have a0 := hb.lo hz 32 (by omega)
  have a1 := hb.hi hz 32 (by omega)
  have b0 := hb.lo hz 33 (by omega)
  have b1 := hb.hi hz 33 (by omega)
  have zb := hb.lt
  clear e hb hz
  generalize loW (setAt z 32 ||| setAt z 33) = l at OR ⊢
  generalize hiW (setAt z 32 ||| setAt z 33) = h at OR ⊢
  generalize loW (setAt z 32) = l0 at a0 OR
  generalize hiW (setAt z 32) = h0 at a1 OR
  generalize loW (setAt z 33) = l1 at b0 OR
  generalize hiW (setAt z 33) = h1 at b1 OR
  go_enter Tryd.func39, Tryd.ntmps39
  go_wp2
  go_region_with (go_at_call 61; refine (OR.out _).mono ?_; rintro e w1 ⟨rfl, hb1⟩; obtain ⟨hc1, hf1⟩ := bcells hb1; have hz1 : w.heap.size < w1.heap.size := by (have := hb1.size; simp at this; omega))
  all_goals
    go_wp2
    exact bodyPost_ret (v := .agg #[.int .u64 l, .int .u64 h]) (by simp [results, Tryd.results39, go_sem, hc1, hz1]) rfl ⟨rfl, ((bthen ((ball (bref w) _).drew) hb1).setCell (by simp) _).setCell (by simp) _⟩

def kingF (z : List Int) (s : Int) : Int := firstF (pieceN z (ofF s 8))
theorem king_brd (b : Nat) (z : List Int) (s : Int) (hz : z.length = 98) (w : World) (hb : Brd w b z) (hT : Tab w) :
    Calls Tryd.prog 40 #[.pointer (some ⟨b, 0, none⟩), .int .i64 s] w fun e w' => e = .returned (.int .i64 (kingF z s)) ∧ Below w.heap.size w w' := by
  have OF := Lib.hid (fun W (h : Brd W b z) => of_brd b z s 8 (by omega) hz W h)
  have FI := Lib.hid (fun W (h : Tab W) => first_any (pieceN z (ofF s 8)) (pieceN_sq _ _) W h)
  have HB := Lib.hid hb
  have HT := Lib.hid hT
  unfold kingF
  clear hb hT hz
  generalize firstF (pieceN z (ofF s 8)) = f at FI ⊢
  generalize loW (pieceN z (ofF s 8)) = l at OF FI
  generalize hiW (pieceN z (ofF s 8)) = h at OF FI
  go_enter Tryd.func40, Tryd.ntmps40
  go_wp2_with (first
    | (go_at_call 60; refine (OF.out _ HB.out).mono ?_; rintro e w1 ⟨rfl, hb1⟩)
    | (go_at_call 76; refine (FI.out _ (HT.out.grow hb1)).mono ?_; rintro e w2 ⟨rfl, hb2⟩))
  go_ret
  exact ⟨rfl, bthen hb1 hb2⟩

def handF (z : List Int) (s k : Int) : Int := if (s = 0 ∨ s = 1) ∧ 1 ≤ k ∧ k ≤ 7 then at8 z (81 + s.toNat * 8 + k.toNat) else 0
set_option maxHeartbeats 1000000 in
theorem hand_brd (b : Nat) (z : List Int) (s k : Int) (hz : z.length = 98) (h8 : I8s z) (w : World) (hb : Brd w b z) :
    Calls Tryd.prog 58 #[.pointer (some ⟨b, 0, none⟩), .int .i64 s, .int .i64 k] w fun e w' => e = .returned (.int .i64 (handF z s k)) ∧ w = w' := by
  have SI := Lib.hid (fun W => bSide_any s W)
  unfold handF
  by_cases hs : s = 0 ∨ s = 1
  · rw [decide_eq_true hs] at SI
    obtain ⟨n, rfl⟩ : ∃ n : Nat, s = n := ⟨s.toNat, by omega⟩
    have hn : n < 2 := by omega
    by_cases hk : 1 ≤ k ∧ k ≤ 7
    · rw [if_pos ⟨hs, hk⟩]
      obtain ⟨m, rfl⟩ : ∃ m : Nat, k = m := ⟨k.toNat, by omega⟩
      have hm : m < 8 := by omega
      have c1 : ¬ (m : Int) < 1 := by omega
      have c2 : ¬ 7 < (m : Int) := by omega
      rw [Int.toNat_natCast, Int.toNat_natCast]
      have c0 := hb.cell hz (81 + n * 8 + m) (by omega)
      have hv := h8.at (81 + n * 8 + m)
      have hw : wrap64 (at8 z (81 + n * 8 + m)) = at8 z (81 + n * 8 + m) := by unfold wrap64; omega
      clear hs hb hz hk hv h8
      generalize at8 z (81 + n * 8 + m) = v at c0 hw ⊢
      go_enter Tryd.func58, Tryd.ntmps58
      go_wp2_with (go_at_call 78; refine (SI.out _).mono ?_; rintro e w1 ⟨rfl, rfl⟩)
      go_ret
      rw [hw]
      exact ⟨rfl, rfl⟩
    · rw [if_neg (fun h => hk h.2)]
      clear hs hb hz h8
      by_cases h1 : k < 1
      · go_enter Tryd.func58, Tryd.ntmps58
        go_wp2_with (go_at_call 78; refine (SI.out _).mono ?_; rintro e w1 ⟨rfl, rfl⟩)
        go_ret
        exact ⟨rfl, rfl⟩
      · have h2 : 7 < k := by omega
        go_enter Tryd.func58, Tryd.ntmps58
        go_wp2_with (go_at_call 78; refine (SI.out _).mono ?_; rintro e w1 ⟨rfl, rfl⟩)
        go_ret
        exact ⟨rfl, rfl⟩
  · rw [decide_eq_false hs] at SI
    rw [if_neg (fun h => hs h.1)]
    clear hs hb hz h8
    go_enter Tryd.func58, Tryd.ntmps58
    go_wp2_with (go_at_call 78; refine (SI.out _).mono ?_; rintro e w1 ⟨rfl, rfl⟩)
    go_ret
    exact ⟨rfl, rfl⟩
end Go.Proofs.YtilhicohfnaclaaDoor

/-
  Boards: New and Clone.
-/
namespace Go.Proofs.YtilhicohfnaclaaDoor
set_option maxRecDepth 100000
open Go.RowKit
set_option linter.unusedVariables false
set_option linter.unusedSimpArgs false

theorem infoBrd : (Tryd.prog.info? 91).map (·.size) = some 166 := by kernel_rfl
theorem zeroBrd_size : Tryd.zeroCells91.size = 166 := by kernel_rfl
theorem brdC_one (z : List Int) (S : Nat → Nat) : (brdC z S).toArray.all (·.oneCell') = true := all_oneCell_toArray (fun v hv => by
  unfold brdC posC at hv
  rcases List.mem_append.1 hv with h | h
  · obtain ⟨x, _, rfl⟩ := List.mem_map.1 h
    rfl
  · obtain ⟨x, _, rfl⟩ := List.mem_map.1 h
    rfl)
theorem BrdAt.range {w : World} {b : Nat} {z : List Int} {S : Nat → Nat} (h : BrdAt w b z S) : w.rangeAt b 0 (brdC z S) := fun j v hv => by
  rw [Nat.zero_add]
  exact h.at j v hv
theorem BrdAt.new (w : World) (z : List Int) (S : Nat → Nat) : BrdAt (w.alloc (.cells (brdC z S).toArray 91)) w.heap.size z S := heap_alloc_new w _

/-- The position of a board that is made of a raw one: what is no piece isn't put. -/
def nz (z : List Int) : Nat → List Int
  | 0 => List.replicate 81 0 ++ z.drop 81
  | k + 1 => putZ (nz z k) k (at8 z k)
def newZ (z : List Int) : List Int := nz z 81
theorem nz_len (z : List Int) (hz : z.length = 98) : ∀ k, (nz z k).length = 98
  | 0 => by unfold nz; rw [List.length_append, List.length_replicate, List.length_drop, hz]
  | k + 1 => by unfold nz; rw [putZ_len, nz_len z hz k]
theorem nz_at (z : List Int) (hz : z.length = 98) : ∀ k, k ≤ 81 → ∀ i, i < 98 → at8 (nz z k) i = if i < 81 then (if i < k ∧ kindF (at8 z i) ≠ 0 then at8 z i else 0) else at8 z i
  | 0, _, i, hi => by
    unfold nz at8
    rw [List.getD_eq_getElem?_getD, List.getD_eq_getElem?_getD]
    by_cases h : i < 81
    · rw [if_pos h, List.getElem?_append_left (by rw [List.length_replicate]; exact h), List.getElem?_replicate, if_pos h, if_neg (by omega)]
      rfl
    · rw [if_neg h, List.getElem?_append_right (by rw [List.length_replicate]; omega), List.length_replicate, List.getElem?_drop, show 81 + (i - 81) = i by omega]
  | k + 1, hk, i, hi => by
    unfold nz
    rw [putZ_at _ k _ (by omega), at8_set _ _ _ _ (by rw [nz_len z hz]; omega), nz_at z hz k (by omega) i hi]
    by_cases h : i = k
    · subst h
      rw [if_pos rfl]
      by_cases h0 : kindF (at8 z i) = 0
      · rw [if_pos h0, if_pos (show i < 81 by omega), if_neg (fun h => h.2 h0)]
      · rw [if_neg h0, if_pos (show i < 81 by omega), if_pos ⟨by omega, h0⟩]
    · rw [if_neg h]
      by_cases h2 : i < k
      · simp only [h2, show i < k + 1 by omega, true_and]
      · simp only [h2, show ¬ i < k + 1 by omega, false_and]
theorem nz_clean (z : List Int) (hz : z.length = 98) : ∀ k, Clean (nz z k)
  | 0 => fun q hq _ => by
    rw [nz_at z hz 0 (by omega) q (by omega), if_pos hq, if_neg (by omega)]
  | k + 1 => by unfold nz; exact putZ_clean (nz_clean z hz k) (nz_len z hz k) _ _
theorem nz_8 (z : List Int) (h8 : I8s z) : ∀ k, I8s (nz z k)
  | 0 => by
    intro x hx
    rcases List.mem_append.1 hx with h | h
    · rw [List.eq_of_mem_replicate h]; omega
    · exact h8 x (List.mem_of_mem_drop h)
  | k + 1 => by unfold nz; exact putZ_8 (nz_8 z h8 k) _ _ (h8.at k)
theorem newZ_len (z : List Int) (hz : z.length = 98) : (newZ z).length = 98 := nz_len z hz 81
theorem newZ_at (z : List Int) (hz : z.length = 98) (i : Nat) (hi : i < 98) : at8 (newZ z) i = if i < 81 ∧ kindF (at8 z i) = 0 then 0 else at8 z i := by
  unfold newZ
  rw [nz_at z hz 81 (by omega) i hi]
  by_cases h : i < 81
  · rw [if_pos h]
    by_cases h0 : kindF (at8 z i) = 0
    · rw [if_neg (fun h => h.2 h0), if_pos ⟨h, h0⟩]
    · rw [if_pos ⟨h, h0⟩, if_neg (fun h => h0 h.2)]
  · rw [if_neg h, if_neg (fun h2 => h h2.1)]
theorem newZ_clean (z : List Int) (hz : z.length = 98) : Clean (newZ z) := nz_clean z hz 81
theorem newZ_8 (z : List Int) (h8 : I8s z) : I8s (newZ z) := nz_8 z h8 81
theorem newZ_self (z : List Int) (hz : z.length = 98) (hc : Clean z) : newZ z = z := by
  refine at8_ext _ _ (newZ_len z hz) hz fun i hi => ?_
  rw [newZ_at z hz i hi]
  split
  · rename_i h
    exact (hc i h.1 h.2).symm
  · rfl

/-! The board that New builds first: nothing stands on it. -/
theorem seventeen {α : Type} (l : List α) (h : l.length = 17) : ∃ a0 a1 a2 a3 a4 a5 a6 a7 b0 b1 b2 b3 b4 b5 b6 b7 c, l = [a0, a1, a2, a3, a4, a5, a6, a7, b0, b1, b2, b3, b4, b5, b6, b7, c] := by
  match l, h with
  | [a0, a1, a2, a3, a4, a5, a6, a7, b0, b1, b2, b3, b4, b5, b6, b7, c], _ => exact ⟨a0, a1, a2, a3, a4, a5, a6, a7, b0, b1, b2, b3, b4, b5, b6, b7, c, rfl⟩
theorem set_none (z : List Int) (h : ∀ q, q < 81 → at8 z q = 0) (i : Nat) (hi : i < 34) : setAt z i = 0 := by
  have e : ∀ (f : Int → Bool), f 0 = false → whereN z f 81 = 0 := by
    intro f hf
    apply Nat.eq_of_testBit_eq
    intro j
    rw [where_test, Nat.zero_testBit]
    by_cases hj : j < 81
    · rw [h j hj, hf, Bool.and_false]
    · simp [hj]
  unfold setAt
  split
  · refine e _ ?_
    unfold pieceB
    by_cases h0 : (0 : Int) = i
    · rw [← h0, kind_zero]; rfl
    · rw [decide_eq_false h0]; rfl
  · refine e _ ?_
    unfold sideB
    rw [side_zero]
    exact decide_eq_false (by omega)
theorem built1 (a0 a1 a2 a3 a4 a5 a6 a7 b0 b1 b2 b3 b4 b5 b6 b7 : Int) :
    List.foldl (fun cs (x : Value × Nat) => cs.setIfInBounds (81 + x.snd) x.fst) Tryd.zeroCells28 (posC [a0, a1, a2, a3, a4, a5, a6, a7, b0, b1, b2, b3, b4, b5, b6, b7]).zipIdx = (posC (List.replicate 81 0 ++ [a0, a1, a2, a3, a4, a5, a6, a7, b0, b1, b2, b3, b4, b5, b6, b7, 0])).toArray := by kernel_rfl
theorem built2 (a0 a1 a2 a3 a4 a5 a6 a7 b0 b1 b2 b3 b4 b5 b6 b7 c : Int) :
    (posC (List.replicate 81 0 ++ [a0, a1, a2, a3, a4, a5, a6, a7, b0, b1, b2, b3, b4, b5, b6, b7, 0])).set 97 (.int .i8 c) = posC (List.replicate 81 0 ++ [a0, a1, a2, a3, a4, a5, a6, a7, b0, b1, b2, b3, b4, b5, b6, b7, c]) := by kernel_rfl
theorem built3 (a0 a1 a2 a3 a4 a5 a6 a7 b0 b1 b2 b3 b4 b5 b6 b7 c : Int) :
    List.foldl (fun cs (x : Value × Nat) => cs.setIfInBounds x.snd x.fst) Tryd.zeroCells91 (posC (List.replicate 81 0 ++ [a0, a1, a2, a3, a4, a5, a6, a7, b0, b1, b2, b3, b4, b5, b6, b7, c])).zipIdx = (brdC (List.replicate 81 0 ++ [a0, a1, a2, a3, a4, a5, a6, a7, b0, b1, b2, b3, b4, b5, b6, b7, c]) (fun _ => 0)).toArray := by kernel_rfl

set_option maxRecDepth 100000 in
set_option maxHeartbeats 1000000 in
theorem new_brd (z : List Int) (hz : z.length = 98) (h8 : I8s z) (w : World) :
    Calls Tryd.prog 19 #[.agg (posC z).toArray] w fun e w' => ∃ g : Nat, e = .returned (.pointer (some ⟨g, 0, none⟩)) ∧ w.heap.size ≤ g ∧ Brd w' g (newZ z) ∧ Below w.heap.size w w' := by
  have H8 := Lib.hid h8
  have HZ := Lib.hid hz
  have hl : (posC z).length = 98 := by rw [posC_len, hz]
  have hC : ∀ j, j < 98 → (posC z)[j]? = some (.int .i8 (at8 z j)) := fun j hj => posC_get z j (by omega)
  obtain ⟨a0, a1, a2, a3, a4, a5, a6, a7, b0, b1, b2, b3, b4, b5, b6, b7, c, hd⟩ := seventeen (z.drop 81) (by rw [List.length_drop, hz])
  have hhand : ((posC z).drop 81).take 16 = posC [a0, a1, a2, a3, a4, a5, a6, a7, b0, b1, b2, b3, b4, b5, b6, b7] := by
    unfold posC
    rw [← List.map_drop, hd]
    rfl
  have hside : at8 z 97 = c := by
    have : at8 z 97 = (z.drop 81).getD 16 0 := by
      unfold at8
      rw [List.getD_eq_getElem?_getD, List.getD_eq_getElem?_getD, List.getElem?_drop]
    rw [this, hd]
    rfl
  have hn0 : List.replicate 81 0 ++ [a0, a1, a2, a3, a4, a5, a6, a7, b0, b1, b2, b3, b4, b5, b6, b7, c] = nz z 0 := by rw [← hd]; rfl
  have B1 := built1 a0 a1 a2 a3 a4 a5 a6 a7 b0 b1 b2 b3 b4 b5 b6 b7
  have B2 := built2 a0 a1 a2 a3 a4 a5 a6 a7 b0 b1 b2 b3 b4 b5 b6 b7 c
  have B3 := built3 a0 a1 a2 a3 a4 a5 a6 a7 b0 b1 b2 b3 b4 b5 b6 b7 c
  have L1 : (posC (List.replicate 81 0 ++ [a0, a1, a2, a3, a4, a5, a6, a7, b0, b1, b2, b3, b4, b5, b6, b7, 0])).length = 98 := by kernel_rfl
  have L2 : (posC (List.replicate 81 0 ++ [a0, a1, a2, a3, a4, a5, a6, a7, b0, b1, b2, b3, b4, b5, b6, b7, c])).length = 98 := by kernel_rfl
  have L0 : (posC [a0, a1, a2, a3, a4, a5, a6, a7, b0, b1, b2, b3, b4, b5, b6, b7]).length = 16 := by kernel_rfl
  rw [hn0] at B2 B3 L2
  have HN0 := Lib.hid hn0
  have HBX := Lib.hid (box_range w (posC z) 28)
  have hr := part_range HBX.out 81 16
  rw [hhand] at hr
  have HR := Lib.hid hr
  have hr0 := part_range HBX.out 0 81
  have hb1 : ∀ j, j < 81 → (((posC z).drop 0).take 81)[j]? = some (.int .i8 (at8 z j)) := fun j hj => drop_get (by rw [Nat.zero_add]; exact hC j (by omega)) hj
  have hbl : (((posC z).drop 0).take 81).length = 81 := by rw [List.length_take, List.length_drop, hl]; rfl
  generalize ((posC z).drop 0).take 81 = bs at hr0 hb1 hbl
  have HR0 := Lib.hid hr0
  have HB1 := Lib.hid hb1
  have HBL := Lib.hid hbl
  have h97 : (w.alloc (.cells (posC z).toArray 28)).cell? ⟨w.heap.size, 97, none⟩ = some (.int .i8 (at8 z 97)) := box_cell w (posC z) _ 97 _ (hC 97 (by omega))
  rw [hside] at h97
  clear hr hr0 hb1 hbl hC hhand hside hn0 hd hl hz h8
  have hb0 : Below w.heap.size w (w.alloc (.cells (posC z).toArray 28)) := ball (bref w) _
  have hw1 : w.heap.size < (w.alloc (.cells (posC z).toArray 28)).heap.size := by simp
  have HSL := Lib.hid (show (Tryd.prog.info? 26).map (·.size) = some (posC [a0, a1, a2, a3, a4, a5, a6, a7, b0, b1, b2, b3, b4, b5, b6, b7]).length by kernel_rfl)
  generalize posC [a0, a1, a2, a3, a4, a5, a6, a7, b0, b1, b2, b3, b4, b5, b6, b7] = hs at HR B1 HSL L0
  generalize posC (List.replicate 81 0 ++ [a0, a1, a2, a3, a4, a5, a6, a7, b0, b1, b2, b3, b4, b5, b6, b7, 0]) = p1 at B1 B2 L1
  generalize posC (nz z 0) = pa at B2 B3 L2
  generalize hba : (brdC (nz z 0) (fun _ => 0)).toArray = ba at B3
  have HBA := Lib.hid hba
  clear hba
  have HR0' := Lib.hid (range_grow HR0.out hw1 (ball (bref (w.alloc (.cells (posC z).toArray 28))) (.cells ba 91)))
  go_enter Tryd.func19, Tryd.ntmps19
  go_wp2_with (first
    | (refine wpList_load_mid rfl 24 _ rfl w.heap.size 0 rfl bs _ HR0'.out Tryd.underlying24 rfl (by rw [HBL.out]; kernel_rfl) ?_)
    | (refine wpList_load_mid rfl 26 _ rfl w.heap.size 81 rfl hs _ HR.out Tryd.underlying26 rfl HSL.out ?_))
  have hP : BrdAt ((w.alloc (.cells (posC z).toArray 28)).alloc (.cells ba 91)) (w.heap.size + 1) (nz z 0) (fun _ => 0) := by
    have := heap_alloc_new (w.alloc (.cells (posC z).toArray 28)) (.cells ba 91)
    rw [show (w.alloc (.cells (posC z).toArray 28)).heap.size = w.heap.size + 1 by simp, ← HBA.out] at this
    rw [← HBA.out]
    exact this
  have hP := Lib.hid (hP.congr (S' := setAt (nz z 0)) (fun i hi => (set_none _ (fun q hq => by rw [nz_at z HZ.out 0 (by omega) q (by omega), if_pos hq, if_neg (by omega)]) i hi).symm))
  have hB := Lib.hid (ball hb0 (.cells ba 91))
  clear B1 B2 B3 L0 L1 L2 HR HR0 HR0' HBX h97 hb0 hw1 HBA HSL HN0
  generalize (w.alloc (.cells (posC z).toArray 28)).alloc (.cells ba 91) = w2 at *
  go_loopw [4, 5, 15] (fun _ _ i wr => ∃ j : Nat, j ≤ 81 ∧ i = .int .i64 j ∧ Brd wr (w.heap.size + 1) (nz z j) ∧ Below w.heap.size w wr) (fun _ _ i _ => 81 - (intOf i).toNat)
  case atStart => exact ⟨0, Nat.zero_le _, rfl, hP.out, hB.out⟩
  case round =>
    obtain ⟨j, hj, rfl, hP, hB⟩ := hrel
    have HP := Lib.hid hP
    have HB := Lib.hid hB
    clear hB hP
    by_cases hlt : j < 81
    · have hx := fun W => run_index_cell (P := Tryd.prog) W 24 23 81 bs.toArray j (.int .i8 (at8 z j)) Tryd.underlying24 (by kernel_rfl) (by kernel_rfl) hlt (by simpa using HB1.out j hlt)
      have PU := Lib.hid (fun W (h : Brd W (w.heap.size + 1) (nz z j)) => put_any (w.heap.size + 1) (nz z j) j (at8 z j) (H8.out.at j) (nz_len z HZ.out j) (nz_clean z HZ.out j) W h)
      have e : putZ (nz z j) j (at8 z j) = nz z (j + 1) := rfl
      rw [e] at PU
      clear e
      generalize at8 z j = x at hx PU
      go_wp2_with (go_at_call 43; refine (PU.out _ HP.out).mono ?_; rintro e w3 ⟨rfl, P3, B3⟩; have P3 := Lib.hid P3; have B3 := Lib.hid B3)
      go_roundw
      case rel => exact ⟨j + 1, by omega, by go_num, P3.out, HB.out.trans (B3.out.below (by omega) HB.out.size)⟩
      case measure => simp [intOf]; omega
    · obtain rfl : j = 81 := by omega
      go_wp2
      go_ret
      exact ⟨_, rfl, by omega, HP.out, HB.out⟩
end Go.Proofs.YtilhicohfnaclaaDoor
