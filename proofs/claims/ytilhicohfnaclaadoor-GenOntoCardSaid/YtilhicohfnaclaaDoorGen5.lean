/-
  The head of gen's laws: thirty moves at the beginning; the document's May and Must.
-/
import Derived.Test.YtilhicohfnaclaaDoorGen4
import Derived.Test.YtilhicohfnaclaaDoorBegins
import Derived.Test.YtilhicohfnaclaaDoorRefChk
namespace Go.Proofs.YtilhicohfnaclaaDoor
open Go.RowKit
set_option maxRecDepth 100000
set_option linter.unusedVariables false
set_option linter.unusedSimpArgs false

theorem gvC_get : ∀ (l : List Gv) (j : Nat) (hj : j < l.length) (i : Nat), i < 4 → (gvC l)[j * 4 + i]? = (l[j]).cells[i]?
  | [], j, hj, _, _ => absurd hj (by simp)
  | m :: l, 0, hj, i, hi => by
    show (m.cells ++ gvC l)[0 * 4 + i]? = _
    rw [List.getElem?_append_left (by simp [Gv.cells]; omega)]
    simp
  | m :: l, j + 1, hj, i, hi => by
    show (m.cells ++ gvC l)[(j + 1) * 4 + i]? = _
    rw [List.getElem?_append_right (by simp [Gv.cells]; omega), show (j + 1) * 4 + i - m.cells.length = j * 4 + i by simp [Gv.cells]; omega, gvC_get l j (by simpa using hj) i hi]
    rfl
theorem OwnG.uni {w : World} {B : Nat} {v : Value} {l : List Gv} (h : OwnG w B v l) : ∃ ao cap, v = .slice ao l.length cap ∧ (l.length ≠ 0 → ∃ g, ao = some ⟨g, 0, none⟩ ∧ B ≤ g ∧ g < w.heap.size ∧ ∀ (j : Nat) (hj : j < l.length), w.rangeAt g (j * 4) l[j].cells) := by
  have hcells : ∀ g, v.ownBlock = some g → ∀ j u, (gvC l)[j]? = some u → w.cell? ((⟨g, 0, none⟩ : Addr).add j) = some u := fun g hg => h.cells (g := g) hg
  have hlt : ∀ g, v.ownBlock = some g → B ≤ g ∧ g < w.heap.size := fun g hg => h.lt g hg
  rcases h.2 with ⟨rfl, h0⟩ | ⟨g, cap, cur, rfl, -⟩
  · exact ⟨none, 0, by rw [h0], fun e => absurd h0 e⟩
  · refine ⟨_, cap, rfl, fun _ => ⟨g, rfl, (hlt g rfl).1, (hlt g rfl).2, fun j hj i u hu => ?_⟩⟩
    have hi : i < 4 := by
      have := (List.getElem?_eq_some_iff.1 hu).1
      simpa [Gv.cells] using this
    have := hcells g rfl (j * 4 + i) u ((gvC_get l j hj i hi).trans hu)
    have e : (⟨g, 0, none⟩ : Addr).add (j * 4 + i) = ⟨g, j * 4 + i, none⟩ := by unfold Addr.add; split <;> simp_all
    rwa [e] at this
theorem gv_cells4 {w : World} {g o : Nat} {m : Gv} (h : w.rangeAt g o m.cells) : w.cell? ⟨g, o, none⟩ = some (.int .i64 m.f) ∧ w.cell? ⟨g, o + 1, none⟩ = some (.int .i64 m.t) ∧ w.cell? ⟨g, o + 2, none⟩ = some (.int .i64 m.d) ∧ w.cell? ⟨g, o + 3, none⟩ = some (.bool m.p) :=
  ⟨h 0 _ rfl, h 1 _ rfl, h 2 _ rfl, h 3 _ rfl⟩

theorem start_gen_len : (genG startZ 0).length = 30 := by decide +kernel
theorem start_gen_0 : ((genG startZ 0)[0]?).map (fun m => (m.f, m.t, m.d, m.p)) = some (6, 5, 0, false) := by decide +kernel
theorem start_side : at8 startZ 97 = 0 := by decide +kernel
set_option maxHeartbeats 1000000 in
theorem lists_true (w : World) (hT : Tab w) (hH : Home w) : Calls Tryd.prog 44 #[] w fun e w' => e = .returned (.bool true) ∧ Below w.heap.size w w' := by
  have ST := Lib.hid (fun W (h : Home W) => start_any W h)
  have NE := Lib.hid (fun W => new_brd startZ startZ_len start_8 W)
  rw [start_new] at NE
  have GA := Lib.hid (fun g W (h : Brd W g startZ) (t : Tab W) => genAll_any g startZ 0 (.inl rfl) start_side startZ_len start_8 W h t)
  have h30 := start_gen_len
  have h0 := start_gen_0
  generalize genG startZ 0 = L at *
  have HB := Lib.hid (bref w)
  have HT := Lib.hid hT
  have HH := Lib.hid hH
  clear hT hH
  go_enter Tryd.func44, Tryd.ntmps44
  go_upto_region 2 with (first
    | (go_at_call 83; refine (ST.out _ HH.out).mono ?_; rintro e w1 ⟨rfl, hb⟩; replace HB := Lib.hid (bthen HB.out hb); clear hb)
    | (go_at_call 19; refine (NE.out _).mono ?_; rintro e w2 ⟨g, rfl, hg, hbd, hb⟩; replace HB := Lib.hid (bthen HB.out hb); clear hb hg)
    | (go_at_call 45; refine (GA.out _ _ hbd (HT.out.grow HB.out)).mono ?_; rintro e w3 ⟨v, rfl, hv, hb⟩; replace HB := Lib.hid (bthen HB.out hb); clear hb))
  obtain ⟨ao, cap, rfl, hp⟩ := hv.uni
  obtain ⟨g2, rfl, -, -, hc⟩ := hp (by omega)
  have hc0 := gv_cells4 (hc 0 (by omega))
  have e0 : L[0]? = some L[0] := List.getElem?_eq_getElem (by omega)
  rw [e0] at h0
  simp only [Option.map_some, Option.some.injEq, Prod.mk.injEq] at h0
  obtain ⟨a0, a1, a2, a3⟩ := h0
  rw [a0, a1, a2, a3] at hc0
  obtain ⟨b0, b1, b2, b3⟩ := hc0
  simp only [Nat.zero_mul, Nat.zero_add] at b0 b1 b2 b3
  rw [h30]
  clear hc hp hv ST NE GA e0 a0 a1 a2 a3 HT HH
  go_wp2
  go_ret
  exact ⟨rfl, HB.out⟩

/-! May and Must. -/
set_option maxHeartbeats 1000000 in
theorem refMay_any (x f t : Int) (hx : -128 ≤ x ∧ x ≤ 127) (w : World) :
    Calls Tryd.prog 52 #[.int .i64 x, .int .i64 f, .int .i64 t] w fun e w' => e = .returned (.bool (mayB x f t)) ∧ w = w' := by
  have K := Lib.hid (fun W => refKind_any x W hx.1 hx.2)
  have SI := Lib.hid (fun W => refSide_any x W hx.1 hx.2)
  have UP := Lib.hid (fun W => refUp_any (kindF x) W)
  have F1 := Lib.hid (fun W => refFar_any (sideF x) f W)
  have F2 := Lib.hid (fun W => refFar_any (sideF x) t W)
  have e : mayB x f t = (!decide (upF (kindF x) = 0) && (decide (0 ≤ farF (sideF x) f ∧ farF (sideF x) f ≤ 2) || decide (0 ≤ farF (sideF x) t ∧ farF (sideF x) t ≤ 2))) := rfl
  rw [e]
  clear hx e
  generalize farF (sideF x) f = a at *
  generalize farF (sideF x) t = c at *
  generalize sideF x = s at *
  by_cases hu : upF (kindF x) = 0
  · rw [decide_eq_true hu]
    have hb : (upF (kindF x) == 0) = true := by simpa using hu
    clear hu
    generalize upF (kindF x) = u at *
    generalize kindF x = k at *
    go_enter Tryd.func52, Tryd.ntmps52
    go_wp2_with (first
      | (go_at_call 59; refine (K.out _).mono ?_; rintro e w1 ⟨rfl, rfl⟩)
      | (go_at_call 91; refine (UP.out _).mono ?_; rintro e w2 ⟨rfl, rfl⟩))
    go_ret
    exact ⟨rfl, rfl⟩
  · rw [decide_eq_false hu]
    have hb : (upF (kindF x) == 0) = false := by simpa using hu
    clear hu
    generalize upF (kindF x) = u at *
    generalize kindF x = k at *
    have ha : a < 0 ∨ (0 ≤ a ∧ a ≤ 2) ∨ (0 ≤ a ∧ 2 < a) := by omega
    have hc : c < 0 ∨ (0 ≤ c ∧ c ≤ 2) ∨ (0 ≤ c ∧ 2 < c) := by omega
    rcases ha with ha | ⟨ha, ha2⟩ | ⟨ha, ha2⟩ <;> rcases hc with hc | ⟨hc, hc2⟩ | ⟨hc, hc2⟩
    all_goals
      go_enter Tryd.func52, Tryd.ntmps52
      go_wp2_with (first
        | (go_at_call 59; refine (K.out _).mono ?_; rintro e w1 ⟨rfl, rfl⟩)
        | (go_at_call 91; refine (UP.out _).mono ?_; rintro e w2 ⟨rfl, rfl⟩)
        | (go_at_call 35; refine (SI.out _).mono ?_; rintro e w3 ⟨rfl, rfl⟩)
        | (go_at_call_of 92 (Value.int .i64 f); refine (F1.out _).mono ?_; rintro e w4 ⟨rfl, rfl⟩)
        | (go_at_call_of 92 (Value.int .i64 t); refine (F2.out _).mono ?_; rintro e w5 ⟨rfl, rfl⟩))
      go_ret
      refine ⟨congrArg (fun b => Ending.returned (.bool b)) ?_, rfl⟩
      first | (rw [decide_eq_false (show ¬ (0 ≤ a ∧ a ≤ 2) by omega), decide_eq_false (show ¬ (0 ≤ c ∧ c ≤ 2) by omega)]; first | rfl | exact decide_eq_false (by omega) | (simp; omega)) | (simp; done) | (simp; omega)
set_option maxHeartbeats 1000000 in
theorem refMust_any (x t : Int) (hx : -128 ≤ x ∧ x ≤ 127) (w : World) :
    Calls Tryd.prog 53 #[.int .i64 x, .int .i64 t] w fun e w' => e = .returned (.bool (mustB x t)) ∧ w = w' := by
  have K := Lib.hid (fun W => refKind_any x W hx.1 hx.2)
  have UP := Lib.hid (fun W => refUp_any (kindF x) W)
  have DE := Lib.hid (fun W => refDead_any x t hx W)
  unfold mustB
  clear hx
  generalize deadF x t = d at *
  by_cases hu : upF (kindF x) = 0
  · rw [decide_eq_true hu]
    have hb : (upF (kindF x) != 0) = false := by simpa using hu
    clear hu
    generalize upF (kindF x) = u at *
    generalize kindF x = k at *
    go_enter Tryd.func53, Tryd.ntmps53
    go_wp2_with (first
      | (go_at_call 59; refine (K.out _).mono ?_; rintro e w1 ⟨rfl, rfl⟩)
      | (go_at_call 91; refine (UP.out _).mono ?_; rintro e w2 ⟨rfl, rfl⟩))
    go_ret
    exact ⟨rfl, rfl⟩
  · rw [decide_eq_false hu]
    have hb : (upF (kindF x) != 0) = true := by simpa using hu
    clear hu
    generalize upF (kindF x) = u at *
    generalize kindF x = k at *
    go_enter Tryd.func53, Tryd.ntmps53
    go_wp2_with (first
      | (go_at_call 59; refine (K.out _).mono ?_; rintro e w1 ⟨rfl, rfl⟩)
      | (go_at_call 91; refine (UP.out _).mono ?_; rintro e w2 ⟨rfl, rfl⟩)
      | (go_at_call 73; refine (DE.out _).mono ?_; rintro e w3 ⟨rfl, rfl⟩))
    go_ret
    exact ⟨rfl, rfl⟩
end Go.Proofs.YtilhicohfnaclaaDoor
