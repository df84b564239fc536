/-
  board.Check's parts: the census.
-/
import Derived.Test.YtbopbekehccdmaaDoorChk1
import Derived.Laws.Rows
namespace Go.Proofs.YtbopbekehccdmaaDoor
open Go.RowKit
set_option linter.unusedVariables false
set_option linter.unusedSimpArgs false

/-- A census: how many kings of each side, then how many of each kind from 0 to 8. -/
def cenC (F : Nat → Int) : List Value := (List.range 11).map (fun t => .int .i64 (F t))
def CenAt (w : World) (b : Nat) (F : Nat → Int) : Prop := w.heap[b]? = some (.cells (cenC F).toArray 116)
def putF (F : Nat → Int) (i : Nat) (v : Int) : Nat → Int := fun t => if t = i then v else F t
theorem cenC_len (F : Nat → Int) : (cenC F).length = 11 := by simp [cenC]
theorem cenC_get (F : Nat → Int) (t : Nat) (ht : t < 11) : (cenC F)[t]? = some (.int .i64 (F t)) := by
  unfold cenC
  rw [List.getElem?_map, List.getElem?_range ht]
  rfl
theorem cenC_set (F : Nat → Int) (i : Nat) (v : Int) : (cenC F).set i (.int .i64 v) = cenC (putF F i v) := by
  apply List.ext_getElem?
  intro t
  rw [List.getElem?_set, cenC_len]
  by_cases ht : t < 11
  · rw [cenC_get F t ht, cenC_get _ t ht]
    unfold putF
    by_cases h : i = t
    · subst h; rw [if_pos rfl, if_pos ht, if_pos rfl]
    · rw [if_neg h, if_neg (fun e => h e.symm)]
  · rw [List.getElem?_eq_none (by rw [cenC_len]; omega), List.getElem?_eq_none (by rw [cenC_len]; omega)]
    by_cases h : i = t
    · subst h; rw [if_pos rfl, if_neg ht]
    · rw [if_neg h]
theorem cenC_congr (F G : Nat → Int) (h : ∀ t, t < 11 → F t = G t) : cenC F = cenC G := by
  unfold cenC
  apply List.map_congr_left
  intro t ht
  rw [h t (List.mem_range.1 ht)]
theorem cenC_one (F : Nat → Int) : (cenC F).toArray.all (·.oneCell') = true := all_oneCell_toArray (fun v hv => by
  obtain ⟨x, _, rfl⟩ := List.mem_map.1 hv
  rfl)
theorem CenAt.lt {w : World} {b : Nat} {F : Nat → Int} (h : CenAt w b F) : b < w.heap.size := (Array.getElem?_eq_some_iff.1 h).1
theorem CenAt.grow {w w' : World} {b : Nat} {F : Nat → Int} (h : CenAt w b F) (hb : Below w.heap.size w w') : CenAt w' b F := (hb.block b h.lt).trans h
theorem CenAt.cell {w : World} {b : Nat} {F : Nat → Int} (h : CenAt w b F) (t : Nat) (ht : t < 11) : w.cell? ⟨b, t, none⟩ = some (.int .i64 (F t)) := by
  rw [cell_of_row w b t _ _ _ h]
  simpa using cenC_get F t ht
theorem CenAt.frozen {w : World} {b : Nat} {F : Nat → Int} (h : CenAt w b F) (j : Nat) : w.frozen? ⟨b, j, none⟩ = false := frozen_of_row _ _ _ _ _ h
theorem CenAt.set {w : World} {b : Nat} {F : Nat → Int} (h : CenAt w b F) (i : Nat) (v : Int) : CenAt (w.setCell ⟨b, i, none⟩ (.int .i64 v)) b (putF F i v) := by
  unfold CenAt
  rw [heap_setCell_same _ _ _ _ _ _ h, List.setIfInBounds_toArray, cenC_set]
theorem CenAt.congr {w : World} {b : Nat} {F G : Nat → Int} (h : CenAt w b F) (hS : ∀ t, t < 11 → F t = G t) : CenAt w b G := by
  unfold CenAt at *
  rw [← cenC_congr F G hS]
  exact h
theorem CenAt.range {w : World} {b : Nat} {F : Nat → Int} (h : CenAt w b F) : w.rangeAt b 0 (cenC F) := fun j v hv => by
  rw [Nat.zero_add]
  have hj : j < 11 := by
    have := (List.getElem?_eq_some_iff.1 hv).1
    simpa [cenC] using this
  rw [h.cell j hj, ← cenC_get F j hj, hv]
theorem infoCen : (Tryd.prog.info? 116).map (·.size) = some 11 := by kernel_rfl

/-- The census when one thing more is counted. -/
def addF (F : Nat → Int) (x : Int) : Nat → Int :=
  if rawF (kindF x) = 8 then putF (putF F (sideF x).toNat (wrap64 (F (sideF x).toNat + 1))) 10 (wrap64 (F 10 + 1))
  else if rawF (kindF x) = 0 then F else putF F (2 + (rawF (kindF x)).toNat) (wrap64 (F (2 + (rawF (kindF x)).toNat) + 1))

set_option maxHeartbeats 1000000 in
theorem add_any (b : Nat) (F : Nat → Int) (x : Int) (hx : -128 ≤ x ∧ x ≤ 127) (w : World) (hb : CenAt w b F) :
    Calls Tryd.prog 123 #[.pointer (some ⟨b, 0, none⟩), .int .i8 x] w fun e w' => e = .returned (.tuple #[]) ∧ CenAt w' b (addF F x) ∧ But b w w' := by
  have K := Lib.hid (fun W => kind_any x W hx.1 hx.2)
  have S := Lib.hid (fun W => side_any x W hx.1 hx.2)
  have hk := kind_side x
  have R := Lib.hid (fun W => raw_any (kindF x) W (by omega) (by omega))
  have hr := rawF_cases (kindF x)
  unfold addF
  by_cases h8 : rawF (kindF x) = 8
  · rw [if_pos h8]
    obtain ⟨s, hs, hs2⟩ : ∃ s : Nat, sideF x = s ∧ s < 2 := ⟨(sideF x).toNat, by omega, by omega⟩
    rw [hs] at S ⊢
    rw [h8] at R
    rw [Int.toNat_natCast]
    have c0 := hb.cell s (by omega)
    have f0 := hb.frozen s
    have zb := hb.lt
    have HB := Lib.hid hb
    clear hk hr h8 hx hs hb
    generalize kindF x = kx at K R
    go_enter Tryd.func123, Tryd.ntmps123
    go_wp2_with (first
      | (go_at_call 108; refine (K.out _).mono ?_; rintro e w1 ⟨rfl, rfl⟩)
      | (go_at_call 106; refine (R.out _).mono ?_; rintro e w2 ⟨rfl, rfl⟩))
    go_region_with (go_at_call 68; refine (S.out _).mono ?_; rintro e w3 ⟨rfl, rfl⟩)
    have P1 := Lib.hid (HB.out.set s (wrap64 (F s + 1)))
    have B1 := Lib.hid ((But.refl b w).setCell ⟨b, s, none⟩ rfl (.int .i64 (wrap64 (F s + 1))))
    have e10 : putF F s (wrap64 (F s + 1)) 10 = F 10 := if_neg (by omega)
    rw [show IntKind.i64.wrap (F s + 1) = wrap64 (F s + 1) by unfold wrap64; exact IntKind.wrap_i64 _]
    clear c0 f0 HB zb
    generalize w.setCell ⟨b, s, none⟩ (.int .i64 (wrap64 (F s + 1))) = w1 at *
    have c1 := P1.out.cell 10 (by omega)
    rw [e10] at c1
    have f1 := P1.out.frozen 10
    have zb := P1.out.lt
    clear e10
    go_wp2
    go_region
    have P2 := P1.out.set 10 (wrap64 (F 10 + 1))
    go_wp2
    go_end0
    exact ⟨rfl, P2, (B1.out.drew.setCell ⟨b, 10, none⟩ rfl _).drew⟩
  · rw [if_neg h8]
    by_cases h0 : rawF (kindF x) = 0
    · rw [if_pos h0]
      rw [h0] at R
      clear hk hr h8 hx h0
      generalize kindF x = kx at K R
      go_enter Tryd.func123, Tryd.ntmps123
      go_wp2_with (first
        | (go_at_call 108; refine (K.out _).mono ?_; rintro e w1 ⟨rfl, rfl⟩)
        | (go_at_call 106; refine (R.out _).mono ?_; rintro e w2 ⟨rfl, rfl⟩))
      go_end0
      exact ⟨rfl, hb, But.refl _ _⟩
    · rw [if_neg h0]
      obtain ⟨m, hm, hm1, hm8⟩ : ∃ m : Nat, rawF (kindF x) = m ∧ 1 ≤ m ∧ m < 8 := ⟨(rawF (kindF x)).toNat, by omega, by omega, by omega⟩
      rw [hm] at R ⊢
      rw [Int.toNat_natCast]
      have c0 := hb.cell (2 + m) (by omega)
      have f0 := hb.frozen (2 + m)
      have zb := hb.lt
      have n8 : ((m : Int) == 8) = false := by simp; omega
      have n0 : ((m : Int) == 0) = false := by simp; omega
      have HB := Lib.hid hb
      clear hk hr h8 hx hm hb h0
      generalize kindF x = kx at K R
      go_enter Tryd.func123, Tryd.ntmps123
      go_wp2_with (first
        | (go_at_call 108; refine (K.out _).mono ?_; rintro e w1 ⟨rfl, rfl⟩)
        | (go_at_call 106; refine (R.out _).mono ?_; rintro e w2 ⟨rfl, rfl⟩))
      go_region
      have P1 := HB.out.set (2 + m) (wrap64 (F (2 + m) + 1))
      go_wp2
      go_end0
      exact ⟨rfl, P1, ((But.refl b w).setCell ⟨b, 2 + m, none⟩ rfl _).drew⟩
end Go.Proofs.YtbopbekehccdmaaDoor
