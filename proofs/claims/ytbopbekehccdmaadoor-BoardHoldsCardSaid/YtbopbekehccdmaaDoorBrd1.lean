/-
  Boards in memory: clear and Put.
-/
import Derived.Test.YtbopbekehccdmaaDoorBrdMath
import Derived.Test.YtbopbekehccdmaaDoorLeaf
import Derived.Test.YtbopbekehccdmaaDoorSet6
import Derived.Deep.RegionWith
import Derived.OpenShut
namespace Go.Proofs.YtbopbekehccdmaaDoor
open Go.RowKit
set_option linter.unusedVariables false
set_option linter.unusedSimpArgs false

def BrdAt (w : World) (b : Nat) (z : List Int) (S : Nat → Nat) : Prop := w.heap[b]? = some (.cells (brdC z S).toArray 45)
theorem BrdAt.lt {w : World} {b : Nat} {z : List Int} {S : Nat → Nat} (h : BrdAt w b z S) : b < w.heap.size := (Array.getElem?_eq_some_iff.1 h).1
theorem BrdAt.grow {w w' : World} {b : Nat} {z : List Int} {S : Nat → Nat} (h : BrdAt w b z S) (hb : Below w.heap.size w w') : BrdAt w' b z S := (hb.block b h.lt).trans h
theorem BrdAt.but {w w' : World} {b g : Nat} {z : List Int} {S : Nat → Nat} (h : BrdAt w b z S) (hb : But g w w') (hg : b ≠ g) : BrdAt w' b z S := (hb.block b h.lt hg).trans h
theorem BrdAt.drew {w : World} {b : Nat} {z : List Int} {S : Nat → Nat} (h : BrdAt w b z S) : BrdAt w.drew b z S := h
theorem BrdAt.at {w : World} {b : Nat} {z : List Int} {S : Nat → Nat} (h : BrdAt w b z S) (j : Nat) (v : Value) (hv : (brdC z S)[j]? = some v) : w.cell? ⟨b, j, none⟩ = some v := by
  rw [cell_of_row w b j _ _ _ h]
  simpa using hv
theorem BrdAt.cell {w : World} {b : Nat} {z : List Int} {S : Nat → Nat} (h : BrdAt w b z S) (hz : z.length = 98) (j : Nat) (hj : j < 98) : w.cell? ⟨b, j, none⟩ = some (.int .i8 (at8 z j)) := h.at j _ (brdC_pos z S hz j hj)
theorem BrdAt.lo {w : World} {b : Nat} {z : List Int} {S : Nat → Nat} (h : BrdAt w b z S) (hz : z.length = 98) (i : Nat) (hi : i < 34) : w.cell? ⟨b, 98 + i * 2, none⟩ = some (.int .u64 (loW (S i))) := h.at _ _ (brdC_lo z S hz i hi)
theorem BrdAt.hi {w : World} {b : Nat} {z : List Int} {S : Nat → Nat} (h : BrdAt w b z S) (hz : z.length = 98) (i : Nat) (hi : i < 34) : w.cell? ⟨b, 98 + i * 2 + 1, none⟩ = some (.int .u64 (hiW (S i))) := h.at _ _ (brdC_hi z S hz i hi)
theorem BrdAt.frozen {w : World} {b : Nat} {z : List Int} {S : Nat → Nat} (h : BrdAt w b z S) (j : Nat) : w.frozen? ⟨b, j, none⟩ = false := frozen_of_row _ _ _ _ _ h
theorem BrdAt.setP {w : World} {b : Nat} {z : List Int} {S : Nat → Nat} (h : BrdAt w b z S) (hz : z.length = 98) (j : Nat) (hj : j < 98) (v : Int) : BrdAt (w.setCell ⟨b, j, none⟩ (.int .i8 v)) b (z.set j v) S := by
  unfold BrdAt
  rw [heap_setCell_same _ _ _ _ _ _ h, List.setIfInBounds_toArray, brdC_setP z S hz j hj]
theorem BrdAt.setW {w : World} {b : Nat} {z : List Int} {S : Nat → Nat} (h : BrdAt w b z S) (hz : z.length = 98) (i : Nat) (hi : i < 34) (n : Nat) :
    BrdAt ((w.setCell ⟨b, 98 + i * 2, none⟩ (.int .u64 (loW n))).setCell ⟨b, 98 + i * 2 + 1, none⟩ (.int .u64 (hiW n))) b z (upd S i n) := by
  unfold BrdAt
  rw [heap_setCell_same _ _ _ _ _ _ (heap_setCell_same _ _ _ _ _ _ h), List.setIfInBounds_toArray, List.setIfInBounds_toArray, brdC_setW z S hz i hi]
theorem BrdAt.congr {w : World} {b : Nat} {z : List Int} {S S' : Nat → Nat} (h : BrdAt w b z S) (hS : ∀ i, i < 34 → S i = S' i) : BrdAt w b z S' := by
  unfold BrdAt at *
  rw [← brdC_congr z S S' hS]
  exact h
/-- A board whose sets are those of its pieces. -/
def Brd (w : World) (b : Nat) (z : List Int) : Prop := BrdAt w b z (setAt z)

theorem _root_.Go.RowKit.Below.drew' {w w' : World} (h : Below w.drew.heap.size w.drew w') : Below w.heap.size w w' := (bref w).drew.trans h

theorem bSquare_any (q : Int) (w : World) : Calls Tryd.prog 66 #[.int .i64 q] w fun e w' => e = .returned (.bool (decide (0 ≤ q ∧ q < 81))) ∧ w = w' := by
  by_cases h0 : 0 ≤ q
  · by_cases h1 : q < 81
    · rw [decide_eq_true (And.intro h0 h1)]
      go_enter Tryd.func66, Tryd.ntmps66
      go_wp2
      go_ret
      exact ⟨rfl, rfl⟩
    · rw [decide_eq_false (fun h => h1 h.2)]
      go_enter Tryd.func66, Tryd.ntmps66
      go_wp2
      go_ret
      exact ⟨rfl, rfl⟩
  · rw [decide_eq_false (fun h => h0 h.1)]
    go_enter Tryd.func66, Tryd.ntmps66
    go_wp2
    go_ret
    exact ⟨rfl, rfl⟩
theorem bSide_any (q : Int) (w : World) : Calls Tryd.prog 69 #[.int .i64 q] w fun e w' => e = .returned (.bool (decide (q = 0 ∨ q = 1))) ∧ w = w' := by
  by_cases h0 : q = 0
  · subst h0
    go_enter Tryd.func69, Tryd.ntmps69
    go_wp2
    go_ret
    exact ⟨rfl, rfl⟩
  · by_cases h1 : q = 1
    · subst h1
      go_enter Tryd.func69, Tryd.ntmps69
      go_wp2
      go_ret
      exact ⟨rfl, rfl⟩
    · rw [decide_eq_false (fun h => h.elim h0 h1)]
      have e0 : (q == 0) = false := by simpa using h0
      have e1 : (q == 1) = false := by simpa using h1
      go_enter Tryd.func69, Tryd.ntmps69
      go_wp2
      go_ret
      exact ⟨rfl, rfl⟩

theorem set_self (z : List Int) (q : Nat) (h : at8 z q = 0) (hq : q < z.length) : z.set q 0 = z := by
  apply List.ext_getElem?
  intro i
  rw [List.getElem?_set]
  by_cases e : q = i
  · subst e
    rw [if_pos rfl, if_pos hq]
    unfold at8 at h
    rw [List.getD_eq_getElem?_getD, List.getElem?_eq_getElem hq] at h
    rw [List.getElem?_eq_getElem hq]
    exact congrArg some h.symm
  · rw [if_neg e]

set_option maxHeartbeats 1000000 in
theorem clear_any (b : Nat) (z : List Int) (q : Nat) (hq : q < 81) (hz : z.length = 98) (hc : Clean z) (w : World) (hb : Brd w b z) :
    Calls Tryd.prog 67 #[.pointer (some ⟨b, 0, none⟩), .int .i64 q] w fun e w' => e = .returned (.tuple #[]) ∧ Brd w' b (z.set q 0) ∧ But b w w' := by
  have hk := kind_side (at8 z q)
  have hcq := hc q hq
  have c0 := hb.cell hz q (by omega)
  have f0 := hb.frozen q
  have HB := Lib.hid hb
  have HZ := Lib.hid hz
  clear hb hz hc
  by_cases h0 : kindF (at8 z q) = 0
  · have hx := hcq h0
    have SS := Lib.hid (fun W => side_any 0 W (by omega) (by omega))
    rw [side_zero] at SS
    have SI := Lib.hid (fun W => bSide_any (-1) W)
    rw [show decide ((-1 : Int) = 0 ∨ (-1 : Int) = 1) = false by decide] at SI
    rw [hx] at c0
    have P1 := Lib.hid (HB.out.setP HZ.out q (by omega) 0)
    have hst := set_self z q hx (by rw [HZ.out]; omega)
    clear hk hcq h0
    go_enter Tryd.func67, Tryd.ntmps67
    go_wp2_with (first
      | (go_at_call 68; refine (SS.out _).mono ?_; rintro e w1 ⟨rfl, rfl⟩)
      | (go_at_call 69; refine (SI.out _).mono ?_; rintro e w2 ⟨rfl, rfl⟩))
    go_end0
    refine ⟨rfl, ?_, (But.refl b w).setCell _ rfl _⟩
    unfold Brd
    have P2 := P1.out
    rw [hst] at P2 ⊢
    exact P2
  · obtain ⟨x, s, hx, hs, h1, h2⟩ : ∃ x s : Nat, at8 z q = x ∧ sideF x = s ∧ 1 ≤ x ∧ x < 32 ∧ s < 2 := by
      refine ⟨(at8 z q).toNat, (sideF (at8 z q)).toNat, by omega, ?_, by omega, by omega, by omega⟩
      rw [Int.toNat_of_nonneg (by omega)]
      omega
    have sx : sideF x = s := hs
    rw [hx] at c0
    have SS := Lib.hid (fun W => side_any x W (by omega) (by omega))
    rw [sx] at SS
    have SI := Lib.hid (fun W => bSide_any s W)
    rw [decide_eq_true (show (s : Int) = 0 ∨ (s : Int) = 1 by omega)] at SI
    have P1 := Lib.hid (HB.out.setP HZ.out q (by omega) 0)
    have W1 := Lib.hid (fun W => without_any (setAt z x) q (setAt_sq _ _) W)
    have W2 := Lib.hid (fun W => without_any (setAt z (32 + s)) q (setAt_sq _ _) W)
    have HC := Lib.hid (set_clear z q hq HZ.out x s hx sx)
    have hz1 : (z.set q 0).length = 98 := by rw [List.length_set]; exact HZ.out
    have HZ1 := Lib.hid hz1
    have B1 := Lib.hid ((But.refl b w).setCell ⟨b, q, none⟩ rfl (.int .i8 0))
    obtain ⟨hx2, hs2⟩ := h2
    clear hk hcq h0 hs hx sx hz1
    go_enter Tryd.func67, Tryd.ntmps67
    go_wp2_with (first
      | (go_at_call 68; refine (SS.out _).mono ?_; rintro e w1 ⟨rfl, rfl⟩)
      | (go_at_call 69; refine (SI.out _).mono ?_; rintro e w2 ⟨rfl, rfl⟩))
    generalize w.setCell ⟨b, q, none⟩ (.int .i8 0) = w1 at *
    have a0 := P1.out.lo HZ1.out x (by omega)
    have a1 := P1.out.hi HZ1.out x (by omega)
    have fa := P1.out.frozen (98 + x * 2)
    have fb := P1.out.frozen (98 + x * 2 + 1)
    have zb := P1.out.lt
    clear c0 f0
    generalize hl1 : loW (setAt z x) = l1 at a0 W1
    generalize hl2 : hiW (setAt z x) = l2 at a1 W1
    go_region_with (go_at_call 104; refine (W1.out _).mono ?_; rintro e w3 ⟨rfl, hb3⟩; have P3 := Lib.hid (P1.out.drew.grow hb3); have g0 := P3.out.lo HZ1.out x (by omega); have g1 := P3.out.hi HZ1.out x (by omega); have fc := P3.out.frozen (98 + x * 2); have fd := P3.out.frozen (98 + x * 2 + 1); clear a0 a1 fa fb)
    have P4 := Lib.hid (P3.out.setW HZ1.out x (by omega) (minusN (setAt z x) (oneN q)))
    have B3 := Lib.hid ((((B1.out.trans (But.of hb3.drew')).setCell ⟨b, 98 + x * 2, none⟩ rfl (.int .u64 (loW (minusN (setAt z x) (oneN q))))).setCell ⟨b, 98 + x * 2 + 1, none⟩ rfl (.int .u64 (hiW (minusN (setAt z x) (oneN q))))))
    clear g0 g1 fc fd P3 P1 B1 hb3 zb W1
    generalize (w3.setCell ⟨b, 98 + x * 2, none⟩ (.int .u64 (loW (minusN (setAt z x) (oneN q))))).setCell ⟨b, 98 + x * 2 + 1, none⟩ (.int .u64 (hiW (minusN (setAt z x) (oneN q)))) = w4 at *
    have hup : upd (setAt z) x (minusN (setAt z x) (oneN q)) (32 + s) = setAt z (32 + s) := upd_ne _ _ _ _ (by omega)
    have a0 := P4.out.lo HZ1.out (32 + s) (by omega)
    have a1 := P4.out.hi HZ1.out (32 + s) (by omega)
    rw [hup, show 98 + (32 + s) * 2 = 162 + s * 2 by omega] at a0 a1
    have fa := P4.out.frozen (162 + s * 2)
    have fb := P4.out.frozen (162 + s * 2 + 1)
    have zb := P4.out.lt
    generalize hk1 : loW (setAt z (32 + s)) = k1 at a0 W2
    generalize hk2 : hiW (setAt z (32 + s)) = k2 at a1 W2
    clear hup
    go_wp2
    go_region_with (go_at_call 104; refine (W2.out _).mono ?_; rintro e w5 ⟨rfl, hb5⟩; have P5 := Lib.hid (P4.out.drew.grow hb5); have g0 := P5.out.lo HZ1.out (32 + s) (by omega); have g1 := P5.out.hi HZ1.out (32 + s) (by omega); rw [show 98 + (32 + s) * 2 = 162 + s * 2 by omega] at g0 g1; have fc := P5.out.frozen (162 + s * 2); have fd := P5.out.frozen (162 + s * 2 + 1); clear a0 a1 fa fb)
    have P6 := P5.out.setW HZ1.out (32 + s) (by omega) (minusN (setAt z (32 + s)) (oneN q))
    rw [show 98 + (32 + s) * 2 = 162 + s * 2 by omega] at P6
    go_end0
    exact ⟨rfl, P6.congr HC.out, (((B3.out.trans (But.of hb5.drew')).setCell ⟨b, 162 + s * 2, none⟩ rfl _).setCell ⟨b, 162 + s * 2 + 1, none⟩ rfl _)⟩

/-- The position when a piece, or none, is put on a square, or on what is none. -/
def putZ (z : List Int) (q x : Int) : List Int := if 0 ≤ q ∧ q < 81 then z.set q.toNat (if kindF x = 0 then 0 else x) else z
theorem putZ_at (z : List Int) (k : Nat) (x : Int) (hk : k < 81) : putZ z k x = z.set k (if kindF x = 0 then 0 else x) := by
  unfold putZ
  rw [if_pos (by omega), Int.toNat_natCast]
theorem putZ_len (z : List Int) (q x : Int) : (putZ z q x).length = z.length := by
  unfold putZ
  split
  · rw [List.length_set]
  · rfl
theorem putZ_clean {z : List Int} (h : Clean z) (hz : z.length = 98) (q x : Int) : Clean (putZ z q x) := by
  unfold putZ
  split
  · refine clean_set h hz _ _ fun hk => ?_
    split
    · rfl
    · rename_i hx
      rw [if_neg hx] at hk
      exact absurd hk hx
  · exact h
theorem putZ_8 {z : List Int} (h : I8s z) (q x : Int) (hx : -128 ≤ x ∧ x ≤ 127) : I8s (putZ z q x) := by
  unfold putZ
  split
  · exact set_8 h _ (by split <;> omega)
  · exact h

set_option maxHeartbeats 1000000 in
theorem put_any (b : Nat) (z : List Int) (q x : Int) (hx : -128 ≤ x ∧ x ≤ 127) (hz : z.length = 98) (hc : Clean z) (w : World) (hb : Brd w b z) :
    Calls Tryd.prog 18 #[.pointer (some ⟨b, 0, none⟩), .int .i64 q, .int .i8 x] w fun e w' => e = .returned (.tuple #[]) ∧ Brd w' b (putZ z q x) ∧ But b w w' := by
  by_cases hq : 0 ≤ q ∧ q < 81
  · obtain ⟨k, rfl⟩ : ∃ k : Nat, q = k := ⟨q.toNat, by omega⟩
    have hk81 : k < 81 := by omega
    have SQ := Lib.hid (fun W => bSquare_any k W)
    rw [decide_eq_true hq] at SQ
    rw [putZ_at z k x hk81]
    have hk := kind_side x
    have CL := Lib.hid (fun W (h : Brd W b z) => clear_any b z k hk81 hz hc W h)
    have SS := Lib.hid (fun W => side_any x W hx.1 hx.2)
    have hz1 : (z.set k 0).length = 98 := by rw [List.length_set]; exact hz
    have HZ1 := Lib.hid hz1
    have a8 : at8 (z.set k 0) k = 0 := by rw [at8_set z k 0 k (by omega), if_pos rfl]
    have A8 := Lib.hid a8
    have HB := Lib.hid hb
    clear hq hz hc hb hz1 a8
    by_cases h0 : kindF x = 0
    · rw [if_pos h0]
      have hs : sideF x = -1 := by omega
      rw [hs] at SS
      have SI := Lib.hid (fun W => bSide_any (-1) W)
      rw [show decide ((-1 : Int) = 0 ∨ (-1 : Int) = 1) = false by decide] at SI
      clear hk h0 hs hx
      go_enter Tryd.func18, Tryd.ntmps18
      go_wp2_with (first
        | (go_at_call 66; refine (SQ.out _).mono ?_; rintro e w1 ⟨rfl, rfl⟩)
        | (go_at_call 67; refine (CL.out _ HB.out).mono ?_; rintro e w2 ⟨rfl, P2, B2⟩; have P2 := Lib.hid P2; have B2 := Lib.hid B2)
        | (go_at_call 68; refine (SS.out _).mono ?_; rintro e w3 ⟨rfl, rfl⟩)
        | (go_at_call 69; refine (SI.out _).mono ?_; rintro e w4 ⟨rfl, rfl⟩))
      go_end0
      exact ⟨rfl, P2.out, B2.out⟩
    · rw [if_neg h0]
      obtain ⟨y, s, rfl, hs, h1, hx2, hs2⟩ : ∃ y s : Nat, x = y ∧ sideF x = s ∧ 1 ≤ y ∧ y < 32 ∧ s < 2 := by
        refine ⟨x.toNat, (sideF x).toNat, by omega, ?_, by omega, by omega, by omega⟩
        rw [Int.toNat_of_nonneg (by omega)]
      rw [hs] at SS
      have SI := Lib.hid (fun W => bSide_any s W)
      rw [decide_eq_true (show (s : Int) = 0 ∨ (s : Int) = 1 by omega)] at SI
      have W1 := Lib.hid (fun W => with_any (setAt (z.set k 0) y) k (setAt_sq _ _) W)
      have W2 := Lib.hid (fun W => with_any (setAt (z.set k 0) (32 + s)) k (setAt_sq _ _) W)
      have HC := Lib.hid (set_put (z.set k 0) k hk81 HZ1.out A8.out y s hs)
      have hz2 : ((z.set k 0).set k (y : Int)).length = 98 := by rw [List.length_set]; exact HZ1.out
      have HZ2 := Lib.hid hz2
      have HSS := Lib.hid (show (z.set k 0).set k (y : Int) = z.set k y from List.set_set ..)
      clear hk h0 hs hx hz2 A8
      generalize z.set k 0 = z1 at *
      generalize hzz : z1.set k (y : Int) = z2 at *
      go_enter Tryd.func18, Tryd.ntmps18
      go_wp2_with (first
        | (go_at_call 66; refine (SQ.out _).mono ?_; rintro e w1 ⟨rfl, rfl⟩)
        | (go_at_call 67; refine (CL.out _ HB.out).mono ?_; rintro e w2 ⟨rfl, P2, B2⟩; have c0 := P2.cell HZ1.out k (by omega); have f0 := P2.frozen k; have P2 := Lib.hid P2; have B2 := Lib.hid B2)
        | (go_at_call 68; refine (SS.out _).mono ?_; rintro e w3 ⟨rfl, rfl⟩)
        | (go_at_call 69; refine (SI.out _).mono ?_; rintro e w4 ⟨rfl, rfl⟩))
      have P1 := P2.out.setP HZ1.out k (by omega) y
      rw [hzz] at P1
      have P1 := Lib.hid P1
      have B1 := Lib.hid (B2.out.setCell ⟨b, k, none⟩ rfl (.int .i8 y))
      clear c0 f0 P2 B2 hzz
      generalize w2.setCell ⟨b, k, none⟩ (.int .i8 y) = w1 at *
      have a0 := P1.out.lo HZ2.out y (by omega)
      have a1 := P1.out.hi HZ2.out y (by omega)
      have fa := P1.out.frozen (98 + y * 2)
      have fb := P1.out.frozen (98 + y * 2 + 1)
      have zb := P1.out.lt
      generalize hn1 : setAt z1 y ||| oneN k = n1 at W1 HC
      generalize hl1 : loW (setAt z1 y) = l1 at a0 W1
      generalize hl2 : hiW (setAt z1 y) = l2 at a1 W1
      go_region_with (go_at_call 20; refine (W1.out _).mono ?_; rintro e w3 ⟨rfl, hb3⟩; have P3 := Lib.hid (P1.out.drew.grow hb3); have g0 := P3.out.lo HZ2.out y (by omega); have g1 := P3.out.hi HZ2.out y (by omega); have fc := P3.out.frozen (98 + y * 2); have fd := P3.out.frozen (98 + y * 2 + 1); clear a0 a1 fa fb)
      have P4 := Lib.hid (P3.out.setW HZ2.out y (by omega) n1)
      have B3 := Lib.hid ((((B1.out.trans (But.of hb3.drew')).setCell ⟨b, 98 + y * 2, none⟩ rfl (.int .u64 (loW n1))).setCell ⟨b, 98 + y * 2 + 1, none⟩ rfl (.int .u64 (hiW n1))))
      clear g0 g1 fc fd P3 P1 B1 hb3 zb W1
      generalize (w3.setCell ⟨b, 98 + y * 2, none⟩ (.int .u64 (loW n1))).setCell ⟨b, 98 + y * 2 + 1, none⟩ (.int .u64 (hiW n1)) = w4 at *
      have hup : upd (setAt z1) y n1 (32 + s) = setAt z1 (32 + s) := upd_ne _ _ _ _ (by omega)
      have a0 := P4.out.lo HZ2.out (32 + s) (by omega)
      have a1 := P4.out.hi HZ2.out (32 + s) (by omega)
      rw [hup, show 98 + (32 + s) * 2 = 162 + s * 2 by omega] at a0 a1
      have fa := P4.out.frozen (162 + s * 2)
      have fb := P4.out.frozen (162 + s * 2 + 1)
      have zb := P4.out.lt
      generalize hn2 : setAt z1 (32 + s) ||| oneN k = n2 at W2 HC
      generalize hk1 : loW (setAt z1 (32 + s)) = k1 at a0 W2
      generalize hk2 : hiW (setAt z1 (32 + s)) = k2 at a1 W2
      clear hup
      go_wp2
      go_region_with (go_at_call 20; refine (W2.out _).mono ?_; rintro e w5 ⟨rfl, hb5⟩; have P5 := Lib.hid (P4.out.drew.grow hb5); have g0 := P5.out.lo HZ2.out (32 + s) (by omega); have g1 := P5.out.hi HZ2.out (32 + s) (by omega); rw [show 98 + (32 + s) * 2 = 162 + s * 2 by omega] at g0 g1; have fc := P5.out.frozen (162 + s * 2); have fd := P5.out.frozen (162 + s * 2 + 1); clear a0 a1 fa fb)
      have P6 := P5.out.setW HZ2.out (32 + s) (by omega) n2
      rw [show 98 + (32 + s) * 2 = 162 + s * 2 by omega] at P6
      go_end0
      rw [← HSS.out]
      exact ⟨rfl, P6.congr HC.out, (((B3.out.trans (But.of hb5.drew')).setCell ⟨b, 162 + s * 2, none⟩ rfl _).setCell ⟨b, 162 + s * 2 + 1, none⟩ rfl _)⟩
  · have SQ := Lib.hid (fun W => bSquare_any q W)
    rw [decide_eq_false hq] at SQ
    rw [show putZ z q x = z from if_neg hq]
    clear hq
    go_enter Tryd.func18, Tryd.ntmps18
    go_wp2_with (go_at_call 66; refine (SQ.out _).mono ?_; rintro e w1 ⟨rfl, rfl⟩)
    refine bodyPost_ret (results_none rfl _ _ _) rfl ?_
    exact ⟨rfl, hb, But.refl _ _⟩
end Go.Proofs.YtbopbekehccdmaaDoor
