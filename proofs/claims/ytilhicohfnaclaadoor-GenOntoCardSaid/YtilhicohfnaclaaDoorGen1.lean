/-
  Lists of moves: their cells; which moves of a piece there are; gen's Promotes and add.
-/
import Derived.Test.YtilhicohfnaclaaDoorChkAll
import Derived.Test.YtilhicohfnaclaaDoorAtkMath
import Derived.Test.YtilhicohfnaclaaDoorListAll
import Derived.Test.YtilhicohfnaclaaDoorAppW
namespace Go.Proofs.YtilhicohfnaclaaDoor
open Go.RowKit
set_option maxRecDepth 100000
set_option linter.unusedVariables false
set_option linter.unusedSimpArgs false

/-- A move: from, to, what is dropped, whether it promotes. -/
structure Gv where
  f : Int
  t : Int
  d : Int
  p : Bool
def Gv.cells (m : Gv) : List Value := [.int .i64 m.f, .int .i64 m.t, .int .i64 m.d, .bool m.p]
def gvC (l : List Gv) : List Value := l.flatMap Gv.cells
theorem gvC_snoc (l : List Gv) (m : Gv) : gvC (l ++ [m]) = gvC l ++ m.cells := by simp [gvC]
theorem gvC_len (l : List Gv) : (gvC l).length = 4 * l.length := by
  induction l with
  | nil => rfl
  | cons m l ih => simp only [gvC, List.flatMap_cons, List.length_append, List.length_cons] at ih ⊢; rw [ih]; simp [Gv.cells]; omega
/-- A row of moves that the call owns. -/
def OwnG (w : World) (B : Nat) (v : Value) (l : List Gv) : Prop := w.ownsRow B 70 4 v l.length (gvC l)
theorem OwnG.mono {w : World} {B C : Nat} {v : Value} {l : List Gv} (h : OwnG w B v l) (hc : C ≤ B) : OwnG w C v l :=
  ⟨h.1, h.2.imp id (fun ⟨g, cap, cur, hv, hb, r⟩ => ⟨g, cap, cur, hv, Nat.le_trans hc hb, r⟩)⟩
theorem OwnG.grow {w w' : World} {B : Nat} {v : Value} {l : List Gv} (h : OwnG w B v l) (hb : Below w.heap.size w w') : OwnG w' B v l := by
  refine ⟨h.1, ?_⟩
  rcases h.2 with h1 | ⟨g, cap, cur, hv, hB, hg, r⟩
  · exact .inl h1
  · have hlt : g < w.heap.size := (Array.getElem?_eq_some_iff.1 hg).1
    exact .inr ⟨g, cap, cur, hv, hB, (hb.block g hlt).trans hg, r⟩
theorem infoGv : (Tryd.prog.info? 70).map (fun i => (i.zero, i.size, i.bytes)) = some (some (.agg #[.int .i64 0, .int .i64 0, .int .i64 0, .bool false]), 4, 32) := by kernel_rfl
theorem alloc_gv (W : World) (m : Gv) : ∀ (j : Nat) (u : Value), m.cells[j]? = some u → (W.alloc (.cells m.cells.toArray 70)).cell? ((⟨W.heap.size, 0, none⟩ : Addr).add j) = some u := by
  intro j u hj
  have e : (⟨W.heap.size, 0, none⟩ : Addr).add j = ⟨W.heap.size, j, none⟩ := by unfold Addr.add; split <;> simp_all
  rw [e, cell_of_row _ W.heap.size j _ _ _ (heap_alloc_new W _)]
  simpa using hj
theorem gv_ones (m : Gv) : ∀ u ∈ m.cells, u.oneCell' = true := by
  intro u hu
  simp only [Gv.cells, List.mem_cons, List.not_mem_nil, or_false] at hu
  rcases hu with rfl | rfl | rfl | rfl <;> rfl

/-- May a piece be promoted, and must it be? -/
def zoneB (s q : Int) : Bool := decide (0 ≤ farF s q ∧ farF s q ≤ 2)
def mayB (x f t : Int) : Bool := !decide (upF (kindF x) = 0) && (zoneB (sideF x) f || zoneB (sideF x) t)
def mustB (x t : Int) : Bool := !decide (upF (kindF x) = 0) && deadF x t
set_option maxHeartbeats 1000000 in
theorem promotes_any (x f t : Int) (hx : -128 ≤ x ∧ x ≤ 127) (w : World) :
    Calls Tryd.prog 51 #[.int .i8 x, .int .i64 f, .int .i64 t] w fun e w' => e = .returned (.tuple #[.bool (mayB x f t), .bool (mustB x t)]) ∧ Below w.heap.size w w' := by
  have K := Lib.hid (fun W => kind_any x W hx.1 hx.2)
  have UP := Lib.hid (fun W => up_any (kindF x) W)
  have SI := Lib.hid (fun W => side_any x W hx.1 hx.2)
  unfold mayB mustB
  by_cases hu : upF (kindF x) = 0
  · rw [decide_eq_true hu]
    have hb : (upF (kindF x) == 0) = true := by simpa using hu
    clear hu hx SI
    generalize upF (kindF x) = u at *
    generalize kindF x = k at *
    go_enter Tryd.func51, Tryd.ntmps51
    go_wp2_with (first
      | (go_at_call 88; refine (K.out _).mono ?_; rintro e w1 ⟨rfl, rfl⟩)
      | (go_at_call 87; refine (UP.out _).mono ?_; rintro e w2 ⟨rfl, rfl⟩))
    go_ret2
    exact ⟨rfl, bref w⟩
  · rw [decide_eq_false hu]
    have hs : sideF x = 0 ∨ sideF x = 1 := by
      have hk := kind_side x
      rcases hk with h | h | h
      · rw [h.1] at hu
        exact absurd (by decide) hu
      · exact .inl h.2.2.2
      · exact .inr h.2.2.2
    have ZO := Lib.hid (fun W => zone_any (sideF x) W)
    have HF := Lib.hid (fun W => has_any (ofN (zoneL (sideF x) 81)) f (ofN_sq _) W)
    have HT := Lib.hid (fun W => has_any (ofN (zoneL (sideF x) 81)) t (ofN_sq _) W)
    rw [zone_has (sideF x) f hs] at HF
    rw [zone_has (sideF x) t hs] at HT
    have DE := Lib.hid (fun W => dead_any x t hx W)
    have hb : (upF (kindF x) == 0) = false := by simpa using hu
    rw [show decide (0 ≤ farF (sideF x) f ∧ farF (sideF x) f ≤ 2) = zoneB (sideF x) f from rfl] at HF
    rw [show decide (0 ≤ farF (sideF x) t ∧ farF (sideF x) t ≤ 2) = zoneB (sideF x) t from rfl] at HT
    clear hu hx hs
    generalize loW (ofN (zoneL (sideF x) 81)) = zl at *
    generalize hiW (ofN (zoneL (sideF x) 81)) = zh at *
    generalize zoneB (sideF x) f = b1 at *
    generalize zoneB (sideF x) t = b2 at *
    generalize deadF x t = b3 at *
    generalize upF (kindF x) = u at *
    generalize kindF x = k at *
    generalize sideF x = s at *
    cases b1 with
    | true =>
      go_enter Tryd.func51, Tryd.ntmps51
      go_wp2_with (first
        | (go_at_call 88; refine (K.out _).mono ?_; rintro e w1 ⟨rfl, rfl⟩)
        | (go_at_call 87; refine (UP.out _).mono ?_; rintro e w2 ⟨rfl, rfl⟩)
        | (go_at_call 82; refine (SI.out _).mono ?_; rintro e w3 ⟨rfl, rfl⟩)
        | (go_at_call 89; refine (ZO.out _).mono ?_; rintro e w4 ⟨rfl, hb4⟩)
        | (go_at_call 26; refine (HF.out _).mono ?_; rintro e w5 ⟨rfl, hb5⟩)
        | (go_at_call 90; refine (DE.out _).mono ?_; rintro e w6 ⟨rfl, hb6⟩))
      go_ret2
      exact ⟨rfl, bthen (bthen (ball hb4 _) hb5) hb6⟩
    | false =>
      go_enter Tryd.func51, Tryd.ntmps51
      go_wp2_with (first
        | (go_at_call 88; refine (K.out _).mono ?_; rintro e w1 ⟨rfl, rfl⟩)
        | (go_at_call 87; refine (UP.out _).mono ?_; rintro e w2 ⟨rfl, rfl⟩)
        | (go_at_call 82; refine (SI.out _).mono ?_; rintro e w3 ⟨rfl, rfl⟩)
        | (go_at_call 89; refine (ZO.out _).mono ?_; rintro e w4 ⟨rfl, hb4⟩)
        | (go_at_call_of 26 (Value.int .i64 f); refine (HF.out _).mono ?_; rintro e w5 ⟨rfl, hb5⟩; have q0 : w5.cell? ⟨w4.heap.size, 0, none⟩ = some (.int .u64 zl) := (hb5.cell (p := ⟨w4.heap.size, 0, none⟩) (by simp)).trans (by go_simp); have q1 : w5.cell? ⟨w4.heap.size, 1, none⟩ = some (.int .u64 zh) := (hb5.cell (p := ⟨w4.heap.size, 1, none⟩) (by simp)).trans (by go_simp))
        | (go_at_call_of 26 (Value.int .i64 t); refine (HT.out _).mono ?_; rintro e w6 ⟨rfl, hb6⟩)
        | (go_at_call 90; refine (DE.out _).mono ?_; rintro e w7 ⟨rfl, hb7⟩))
      go_ret2
      exact ⟨rfl, bthen (bthen (bthen (ball hb4 _) hb5) hb6) hb7⟩

/-- The moves of a piece from a square to another one. -/
def addL (x f t : Int) : List Gv := (if mustB x t = true then [] else [⟨f, t, 0, false⟩]) ++ (if mayB x f t = true then [⟨f, t, 0, true⟩] else [])
theorem addL_len (x f t : Int) : (addL x f t).length ≤ 2 := by
  unfold addL
  split <;> split <;> simp
set_option maxHeartbeats 1000000 in
theorem gadd_any (x f t : Int) (hx : -128 ≤ x ∧ x ≤ 127) (B : Nat) (v : Value) (L : List Gv) (hL : L.length ≤ 100000) (w : World) (hO : OwnG w B v L) (hB : B ≤ w.heap.size) :
    Calls Tryd.prog 86 #[v, .int .i8 x, .int .i64 f, .int .i64 t] w fun e w' => ∃ v', e = .returned v' ∧ OwnG w' B v' (L ++ addL x f t) ∧ GrowG w w' v v' := by
  obtain ⟨i0, hi, hz0, hz1, hz2⟩ := info_parts infoGv
  have PR := Lib.hid (fun W => promotes_any x f t hx W)
  unfold addL
  have HO := Lib.hid hO
  clear hx hO
  cases h1 : mustB x t with
  | true =>
    rw [if_pos rfl, List.nil_append]
    cases h2 : mayB x f t with
    | true =>
      rw [if_pos rfl]
      rw [h1, h2] at PR
      clear h1 h2
      go_enter Tryd.func86, Tryd.ntmps86
      go_upto_region 5 with (go_at_call 51; refine (PR.out _).mono ?_; rintro e w1 ⟨rfl, hb1⟩; have HO1 := Lib.hid (HO.out.grow hb1); have s1 := hb1.size)
      go_wp2_with (at_builtin; refine wpList_append_where rfl _ _ 66 rfl B 70 i0 (.agg #[.int .i64 0, .int .i64 0, .int .i64 0, .bool false]) 4 32 Tryd.underlying66 hi hz0 hz1 hz2 rfl (by decide) _ _ _ rfl (HO1.out.alloc _) ⟨w1.heap.size, 0, none⟩ 1 1 (by decide) (Gv.cells ⟨f, t, 0, true⟩) rfl rfl ?c1 ?c2 ?c3 ?c4 ?c5 ?_)
      case c1 => exact alloc_gv w1 _
      case c2 => exact gv_ones _
      case c3 => simp [maxLen]; omega
      case c4 => first | omega | (simp; omega)
      case c5 => first | omega | (simp; omega)
      intro v2 w2 ho2 hg2 hf2
      have HG2 := Lib.hid (GrowG.pre (ball hb1 _) ⟨hg2, hf2⟩)
      have h2s := hg2.size
      clear hb1 HO HO1
      go_wp2
      go_ret
      exact ⟨_, rfl, (by unfold OwnG; rw [List.length_append, gvC_snoc]; exact ho2), HG2.out⟩
    | false =>
      rw [if_neg (by decide), List.append_nil]
      rw [h1, h2] at PR
      clear h1 h2
      go_enter Tryd.func86, Tryd.ntmps86
      go_wp2_with (first
        | (go_at_call 51; refine (PR.out _).mono ?_; rintro e w1 ⟨rfl, hb1⟩))
      go_ret
      exact ⟨_, rfl, HO.out.grow hb1, GrowG.of _ hb1⟩
  | false =>
    rw [if_neg (by decide)]
    cases h2 : mayB x f t with
    | true =>
      rw [if_pos rfl, ← List.append_assoc]
      rw [h1, h2] at PR
      clear h1 h2
      go_enter Tryd.func86, Tryd.ntmps86
      go_upto_region 3 with (go_at_call 51; refine (PR.out _).mono ?_; rintro e w1 ⟨rfl, hb1⟩; have HO1 := Lib.hid (HO.out.grow hb1); have s1 := hb1.size)
      go_wp2_with (at_builtin; refine wpList_append_where rfl _ _ 66 rfl B 70 i0 (.agg #[.int .i64 0, .int .i64 0, .int .i64 0, .bool false]) 4 32 Tryd.underlying66 hi hz0 hz1 hz2 rfl (by decide) _ _ _ rfl (HO1.out.alloc _) ⟨w1.heap.size, 0, none⟩ 1 1 (by decide) (Gv.cells ⟨f, t, 0, false⟩) rfl rfl ?c1 ?c2 ?c3 ?c4 ?c5 ?_)
      case c1 => exact alloc_gv w1 _
      case c2 => exact gv_ones _
      case c3 => simp [maxLen]; omega
      case c4 => first | omega | (simp; omega)
      case c5 => first | omega | (simp; omega)
      intro v2 w2 ho2 hg2 hf2
      have HG2 := Lib.hid (GrowG.pre (ball hb1 _) ⟨hg2, hf2⟩)
      have h2s := hg2.size
      have s2 : B ≤ w2.heap.size := by simp at h2s; omega
      have HO2 : Hid (OwnG w2 B v2 (L ++ [⟨f, t, 0, false⟩])) := by
        show OwnG w2 B v2 (L ++ [⟨f, t, 0, false⟩])
        unfold OwnG; rw [List.length_append, gvC_snoc]; exact ho2
      have hL2 : (L ++ [(⟨f, t, 0, false⟩ : Gv)]).length ≤ 100001 := by simp; omega
      clear hb1 HO HO1 ho2 hg2 h2s hf2
      go_wp2_with (at_builtin; refine wpList_append_where rfl _ _ 66 rfl B 70 i0 (.agg #[.int .i64 0, .int .i64 0, .int .i64 0, .bool false]) 4 32 Tryd.underlying66 hi hz0 hz1 hz2 rfl (by decide) _ _ _ rfl (HO2.out.alloc _) ⟨w2.heap.size, 0, none⟩ 1 1 (by decide) (Gv.cells ⟨f, t, 0, true⟩) rfl rfl ?c1 ?c2 ?c3 ?c4 ?c5 ?_)
      case c1 => exact alloc_gv w2 _
      case c2 => exact gv_ones _
      case c3 => simp [maxLen]; omega
      case c4 => first | omega | (simp; omega)
      case c5 => first | omega | (simp; omega)
      intro v3 w3 ho3 hg3 hf3
      have HG3 := Lib.hid (HG2.out.trans (GrowG.pre (ball (bref w2) _) ⟨hg3, hf3⟩))
      clear HO2
      go_wp2
      go_ret
      exact ⟨_, rfl, (by unfold OwnG; rw [gvC_snoc, List.length_append, List.length_append]; exact ho3), HG3.out⟩
    | false =>
      rw [if_neg (by decide), List.append_nil]
      rw [h1, h2] at PR
      clear h1 h2
      go_enter Tryd.func86, Tryd.ntmps86
      go_upto_region 3 with (go_at_call 51; refine (PR.out _).mono ?_; rintro e w1 ⟨rfl, hb1⟩; have HO1 := Lib.hid (HO.out.grow hb1); have s1 := hb1.size)
      go_wp2_with (at_builtin; refine wpList_append_where rfl _ _ 66 rfl B 70 i0 (.agg #[.int .i64 0, .int .i64 0, .int .i64 0, .bool false]) 4 32 Tryd.underlying66 hi hz0 hz1 hz2 rfl (by decide) _ _ _ rfl (HO1.out.alloc _) ⟨w1.heap.size, 0, none⟩ 1 1 (by decide) (Gv.cells ⟨f, t, 0, false⟩) rfl rfl ?c1 ?c2 ?c3 ?c4 ?c5 ?_)
      case c1 => exact alloc_gv w1 _
      case c2 => exact gv_ones _
      case c3 => simp [maxLen]; omega
      case c4 => first | omega | (simp; omega)
      case c5 => first | omega | (simp; omega)
      intro v2 w2 ho2 hg2 hf2
      have HG2 := Lib.hid (GrowG.pre (ball hb1 _) ⟨hg2, hf2⟩)
      have h2s := hg2.size
      clear hb1 HO HO1
      go_wp2
      go_ret
      exact ⟨_, rfl, (by unfold OwnG; rw [List.length_append, gvC_snoc]; exact ho2), HG2.out⟩
end Go.Proofs.YtilhicohfnaclaaDoor
