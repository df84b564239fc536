/-
  Games in memory: New, Len, Key, After.
-/
import Derived.Test.YtfemicpfkgecbaaDoorGm8
import Derived.Deep.MidRow
namespace Go.Proofs.YtfemicpfkgecbaaDoor
open Go.RowKit
set_option linter.unusedVariables false
set_option linter.unusedSimpArgs false

theorem posRangeB {w : World} {b : Nat} {z : List Int} {S : Nat → Nat} (h : BrdAt w b z S) (hz : z.length = 98) : w.rangeAt b 0 (posC z) := fun j v hj => by
  have hl : j < 98 := by
    have := (List.getElem?_eq_some_iff.1 hj).1
    rwa [posC_len, hz] at this
  rw [Nat.zero_add, h.cell hz j hl, ← posC_get z j (by omega), hj]
set_option maxHeartbeats 2000000 in
theorem newGame_any (z : List Int) (hz : z.length = 98) (h8 : I8s z) (w : World) :
    Calls Tryd.prog 27 #[.agg (posC z).toArray] w fun e w' => ∃ g b : Nat, e = .returned (.pointer (some ⟨g, 0, none⟩)) ∧ w.heap.size ≤ g ∧ w.heap.size ≤ b ∧ Gk w' g b (newZ z) (.slice none 0 0) ∧ Below w.heap.size w w' := by
  have HINF0 := Lib.hid (show (Tryd.prog.info? 28).map (·.size) = some (posC z).length by rw [posC_len, hz]; exact infoPos)
  have HP := Lib.hid (PosAt.new w z)
  have HB := Lib.hid (ball (bref w) (.cells (posC z).toArray 28))
  have NE := Lib.hid (fun W => new_brd z hz h8 W)
  have hZ := newZ_len z hz
  have hZ8 := newZ_8 z h8
  have KO := Lib.hid (fun W => keyOf_any (newZ z) hZ hZ8 W)
  have HINF := Lib.hid (show (Tryd.prog.info? 28).map (·.size) = some (posC (newZ z)).length by rw [posC_len, hZ]; exact infoPos)
  have HZ := Lib.hid hZ
  have OL := Lib.hid (ofK_lt (newZ z))
  clear hz h8 hZ hZ8
  generalize newZ z = Z at *
  go_enter Tryd.func27, Tryd.ntmps27
  go_wp2_with (first
    | (go_at_call 11; refine (NE.out _).mono ?_; rintro e w1 ⟨bd, rfl, hg, hbd, hb⟩; have HG := Lib.hid (Nat.le_trans HB.out.size hg); have HBD := Lib.hid hbd; have HB := Lib.hid (bthen HB.out hb))
    | (go_at_call 35; refine (KO.out _).mono ?_; rintro e w2 ⟨rfl, hb2⟩; have HBD2 := Lib.hid (HBD.out.grow hb2); have HB2 := Lib.hid (bthen HB.out hb2))
    | (refine wpList_load_mid rfl 28 _ rfl w.heap.size 0 rfl (posC z) _ HP.out.range Tryd.underlying28 rfl HINF0.out ?_)
    | (refine wpList_load_mid rfl 28 _ rfl bd 0 rfl (posC Z) _ (posRangeB HBD.out HZ.out) Tryd.underlying28 rfl HINF.out ?_))
  go_ret
  refine ⟨w2.heap.size, bd, rfl, HB2.out.size, HG.out, ⟨heap_alloc_new w2 _, HBD2.out.grow (ball (bref w2) _), ?_⟩, ball HB2.out _⟩
  have := HBD2.out.lt
  omega
theorem len_any (g b : Nat) (z : List Int) (v : Value) (n : Nat) (a : Option Addr) (cap : Nat) (hv : v = .slice a n cap) (w : World) (h : Gk w g b z v) :
    Calls Tryd.prog 32 #[.pointer (some ⟨g, 0, none⟩)] w fun e w' => e = .returned (.int .i64 n) ∧ w = w' := by
  subst hv
  obtain ⟨g0, g1, g2⟩ := h.1.cells
  clear h
  go_enter Tryd.func32, Tryd.ntmps32
  go_wp2
  go_ret
  exact ⟨rfl, rfl⟩
theorem keyG_any (g b : Nat) (z : List Int) (v : Value) (w : World) (h : Gk w g b z v) :
    Calls Tryd.prog 34 #[.pointer (some ⟨g, 0, none⟩)] w fun e w' => e = .returned (.int .u64 (ofK z : Int)) ∧ w = w' := by
  obtain ⟨g0, g1, g2⟩ := h.1.cells
  clear h
  generalize ofK z = K at *
  go_enter Tryd.func34, Tryd.ntmps34
  go_wp2
  go_ret
  exact ⟨rfl, rfl⟩
end Go.Proofs.YtfemicpfkgecbaaDoor
