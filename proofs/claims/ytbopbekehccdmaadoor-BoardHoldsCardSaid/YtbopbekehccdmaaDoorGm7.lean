/-
  Games in memory: behind, inHand, walk.
-/
import Derived.Test.YtbopbekehccdmaaDoorGm6
import Derived.Deep.RegionHeld3
import Derived.Deep.DeepCutAuto
import Derived.Deep.QuietTactic
import Derived.BigQuiet
namespace Go.Proofs.YtbopbekehccdmaaDoor
open Go.RowKit
set_option linter.unusedVariables false
set_option linter.unusedSimpArgs false

def behF (x : Int) (p : Bool) : Int := if p = true then ofF (sideF x) (upF (kindF x)) else x
theorem ofF_bd (s k : Int) : -128 ≤ ofF s k ∧ ofF s k ≤ 127 := by
  have h := rawF_cases k
  unfold ofF
  split
  · omega
  · split
    · omega
    · split <;> omega
set_option maxHeartbeats 1000000 in
theorem behind_mv (f t d : Int) (p : Bool) (x y : Int) (hx : -128 ≤ x ∧ x ≤ 127) (w : World) :
    Calls Tryd.prog 107 #[.agg #[.int .i64 f, .int .i64 t, .int .i64 d, .bool p, .int .i8 x, .int .i8 y]] w fun e w' => e = .returned (.int .i8 (behF x p)) ∧ Below w.heap.size w w' := by
  cases p
  · rw [show behF x false = x from rfl]
    go_enter Tryd.func107, Tryd.ntmps107
    go_wp2
    go_ret
    exact ⟨rfl, ball (bref w) _⟩
  · rw [show behF x true = ofF (sideF x) (upF (kindF x)) from rfl]
    have S := Lib.hid (fun W => side_any x W hx.1 hx.2)
    have K := Lib.hid (fun W => kind_any x W hx.1 hx.2)
    have U := Lib.hid (fun W => up_any (kindF x) W)
    have hu : -9223372036854775808 ≤ upF (kindF x) ∧ upF (kindF x) ≤ 9223372036854775807 := by
      have := kindF_le x
      unfold upF
      split <;> omega
    have O := Lib.hid (fun W => pof_any (sideF x) (upF (kindF x)) W hu.1 hu.2)
    clear hu hx
    generalize sideF x = s at *
    generalize kindF x = k at *
    generalize upF k = u at *
    generalize ofF s u = r at *
    go_enter Tryd.func107, Tryd.ntmps107
    go_wp2_with fail
    go_quiet (first
      | (go_at_call 68; exact Calls.quiet_of_same ((S.out _).mono fun _ _ h => ⟨h.1, h.2.symm⟩))
      | (go_at_call 108; exact Calls.quiet_of_same ((K.out _).mono fun _ _ h => ⟨h.1, h.2.symm⟩))
      | (go_at_call 114; exact Calls.quiet_of_same ((U.out _).mono fun _ _ h => ⟨h.1, h.2.symm⟩))
      | (go_at_call 71; exact Calls.quiet_of_same ((O.out _).mono fun _ _ h => ⟨h.1, h.2.symm⟩)))
    go_wp2
    go_ret
    exact ⟨rfl, bdrewN (ball (bref w) _) _⟩
theorem inHand_any (y : Int) (hy : -128 ≤ y ∧ y ≤ 127) (w : World) : Calls Tryd.prog 81 #[.int .i8 y] w fun e w' => e = .returned (.int .i64 (rawF (kindF y))) ∧ w = w' := by
  have K := Lib.hid (fun W => kind_any y W hy.1 hy.2)
  have hk := kindF_le y
  have R := Lib.hid (fun W => raw_any (kindF y) W (by omega) (by omega))
  generalize kindF y = k at *
  generalize rawF k = r at *
  clear hk hy
  go_enter Tryd.func81, Tryd.ntmps81
  go_wp2_with (first
    | (go_at_call 108; refine (K.out _).mono ?_; rintro e w1 ⟨rfl, rfl⟩)
    | (go_at_call 106; refine (R.out _).mono ?_; rintro e w2 ⟨rfl, rfl⟩))
  go_ret
  exact ⟨rfl, rfl⟩

/-- What the first statements of walk leave: the move and what stood there, in memory. -/
def Lain (w : World) (m : Md) (s4 : Value) (wx : World) : Prop :=
  ∃ l : Nat, s4 = .pointer (some ⟨l, 0, none⟩) ∧ wx.heap[l]? = some (.cells m.cells.toArray 103) ∧ wx.heap[w.heap.size]? = some (.cells #[.int .i64 m.f, .int .i64 m.t, .int .i64 m.d, .bool m.p] 64) ∧ Below w.heap.size w wx ∧ w.heap.size < l
/-- What stands there when the move was laid to the others. -/
def Lain2 (w : World) (B g b : Nat) (z : List Int) (v : Value) (L : List Md) (m : Md) (l : Nat) (wx : World) : Prop :=
  ∃ v', Gk wx g b z v' ∧ Past wx B g b v' (L ++ [m]) ∧ But4 g b v v' w wx ∧ wx.heap[l]? = some (.cells m.cells.toArray 103) ∧ wx.heap[w.heap.size]? = some (.cells #[.int .i64 m.f, .int .i64 m.t, .int .i64 m.d, .bool m.p] 64)
theorem made_cells {W : World} {l : Nat} {m : Md} (h : W.heap[l]? = some (.cells m.cells.toArray 103)) :
    W.cell? ⟨l, 0, none⟩ = some (.int .i64 m.f) ∧ W.cell? ⟨l, 1, none⟩ = some (.int .i64 m.t) ∧ W.cell? ⟨l, 2, none⟩ = some (.int .i64 m.d) ∧ W.cell? ⟨l, 3, none⟩ = some (.bool m.p) ∧ W.cell? ⟨l, 4, none⟩ = some (.int .i8 m.x) ∧ W.cell? ⟨l, 5, none⟩ = some (.int .i8 m.y) := by
  refine ⟨?_, ?_, ?_, ?_, ?_, ?_⟩ <;> simp [World.cell?, h, Md.cells]
theorem rowO {w : World} {A o : Obj} {k : Nat} (h : w.heap[k]? = some o) : (w.alloc A).drew.heap[k]? = some o := by
  have hk := (Array.getElem?_eq_some_iff.1 h).1
  show (w.heap.push A)[k]? = some o
  rw [Array.getElem?_push, if_neg (by omega)]
  exact h
theorem lt_of_row' {w : World} {k : Nat} {o : Obj} (h : w.heap[k]? = some o) : k < w.heap.size := (Array.getElem?_eq_some_iff.1 h).1
theorem row3' {w w1 : World} {k : Nat} {o : Obj} (h : w.heap[k]? = some o) (hb : Below w.drew.heap.size w.drew w1) : w1.heap[k]? = some o :=
  (hb.block _ (lt_of_row' h)).trans h
theorem rowA1 (w : World) (A C : Obj) : ((w.alloc A).alloc C).drew.heap[w.heap.size]? = some A := by
  show ((w.heap.push A).push C)[w.heap.size]? = some A
  simp [Array.getElem?_push]
theorem rowA2 (w : World) (A C : Obj) : ((w.alloc A).alloc C).drew.heap[w.heap.size + 1]? = some C := by
  show ((w.heap.push A).push C)[w.heap.size + 1]? = some C
  rw [Array.getElem?_push, if_pos (by simp)]
theorem heldW_step {w W W' : World} {g b : Nat} {x y z u : Value} (hg : g < w.heap.size)
    (h : Below w.heap.size w W ∧ w.heap.size < W.heap.size ∧ W.cell? ⟨g, 0, none⟩ = some (.pointer (some ⟨b, 0, none⟩)) ∧ W.cell? ⟨w.heap.size, 0, none⟩ = some x ∧ W.cell? ⟨w.heap.size, 1, none⟩ = some y ∧ W.cell? ⟨w.heap.size, 2, none⟩ = some z ∧ W.cell? ⟨w.heap.size, 3, none⟩ = some u) (hb : Below W.heap.size W W') :
    Below w.heap.size w W' ∧ w.heap.size < W'.heap.size ∧ W'.cell? ⟨g, 0, none⟩ = some (.pointer (some ⟨b, 0, none⟩)) ∧ W'.cell? ⟨w.heap.size, 0, none⟩ = some x ∧ W'.cell? ⟨w.heap.size, 1, none⟩ = some y ∧ W'.cell? ⟨w.heap.size, 2, none⟩ = some z ∧ W'.cell? ⟨w.heap.size, 3, none⟩ = some u := by
  obtain ⟨a, c, d, e, f, i, j⟩ := h
  obtain ⟨k, -⟩ := bcells hb
  have := a.size
  exact ⟨bthen a hb, Nat.lt_of_lt_of_le c hb.size, (k _ _ (by omega)).trans d, (k _ _ c).trans e, (k _ _ c).trans f, (k _ _ c).trans i, (k _ _ c).trans j⟩

set_option maxHeartbeats 4000000 in
theorem walk_mv (B g b : Nat) (z z1 : List Int) (v : Value) (L : List Md) (f t : Nat) (p : Bool) (hf : f < 81) (ht : t < 81) (hft : f ≠ t)
    (hh : ∀ W v, Gk W g b z v → Calls Tryd.prog 80 #[.pointer (some ⟨g, 0, none⟩), .int .i64 (rawF (kindF (at8 z t))), .int .i8 1] W fun e w' => e = .returned (.tuple #[]) ∧ Gk w' g b z1 v ∧ But2 g b W w')
    (hz1 : z1.length = 98) (h81 : I8s z1) (hc1 : Clean z1)
    (hL : L.length ≤ 1000) (hz : z.length = 98) (h8 : I8s z) (hc : Clean z) (w : World) (hB : B ≤ w.heap.size) (h : Gk w g b z v) (hp : Past w B g b v L) :
    Calls Tryd.prog 74 #[.pointer (some ⟨g, 0, none⟩), .agg #[.int .i64 f, .int .i64 t, .int .i64 0, .bool p]] w fun e w' => e = .returned (.tuple #[]) ∧ ∃ v',
      Gk w' g b (putZ (putZ z1 f 0) t (behF (at8 z f) p)) v' ∧ Past w' B g b v' (L ++ [⟨f, t, 0, p, at8 z f, at8 z t⟩]) ∧ But4 g b v v' w w' := by
  have hx := h8.at f
  have hy := h8.at t
  have A1 := Lib.hid (fun W (hb : Brd W b z) => at_brd b z f hz W hb)
  rw [if_pos (by omega), Int.toNat_natCast] at A1
  have A2 := Lib.hid (fun W (hb : Brd W b z) => at_brd b z t hz W hb)
  rw [if_pos (by omega), Int.toNat_natCast] at A2
  obtain ⟨g0, g1, g2⟩ := h.1.cells
  have zg := h.1.lt
  have HH := Lib.hid h
  have HP := Lib.hid hp
  generalize hX : at8 z f = x at *
  generalize hY : at8 z t = y at *
  go_enter Tryd.func74, Tryd.ntmps74
  go_upto_region 1 with fail
  go_cut [4] (fun s4 wx => Lain w ⟨f, t, 0, p, x, y⟩ s4 wx)
  case first =>
    have d0 : (w.alloc (.cells #[.int .i64 f, .int .i64 t, .int .i64 0, .bool p] 64)).cell? ⟨g, 0, none⟩ = some (.pointer (some ⟨b, 0, none⟩)) := by go_simp
    have hz0 : w.heap.size < (w.alloc (.cells #[.int .i64 f, .int .i64 t, .int .i64 0, .bool p] 64)).heap.size := by simp
    have HS0 := Lib.hid (show Below w.heap.size w (w.alloc (.cells #[.int .i64 f, .int .i64 t, .int .i64 0, .bool p] 64)) ∧ w.heap.size < (w.alloc (.cells #[.int .i64 f, .int .i64 t, .int .i64 0, .bool p] 64)).heap.size ∧ (w.alloc (.cells #[.int .i64 f, .int .i64 t, .int .i64 0, .bool p] 64)).cell? ⟨g, 0, none⟩ = some (.pointer (some ⟨b, 0, none⟩)) ∧ (w.alloc (.cells #[.int .i64 f, .int .i64 t, .int .i64 0, .bool p] 64)).cell? ⟨w.heap.size, 0, none⟩ = some (.int .i64 f) ∧ (w.alloc (.cells #[.int .i64 f, .int .i64 t, .int .i64 0, .bool p] 64)).cell? ⟨w.heap.size, 1, none⟩ = some (.int .i64 t) ∧ (w.alloc (.cells #[.int .i64 f, .int .i64 t, .int .i64 0, .bool p] 64)).cell? ⟨w.heap.size, 2, none⟩ = some (.int .i64 0) ∧ (w.alloc (.cells #[.int .i64 f, .int .i64 t, .int .i64 0, .bool p] 64)).cell? ⟨w.heap.size, 3, none⟩ = some (.bool p) from ⟨ball (bref w) _, hz0, d0, (mv_cells' (heap_alloc_new w _)).1, (mv_cells' (heap_alloc_new w _)).2.1, (mv_cells' (heap_alloc_new w _)).2.2.1, (mv_cells' (heap_alloc_new w _)).2.2.2⟩)
    go_region_held3 (fun w' => Below w.heap.size w w' ∧ w.heap.size < w'.heap.size ∧ w'.cell? ⟨g, 0, none⟩ = some (.pointer (some ⟨b, 0, none⟩)) ∧ w'.cell? ⟨w.heap.size, 0, none⟩ = some (.int .i64 f) ∧ w'.cell? ⟨w.heap.size, 1, none⟩ = some (.int .i64 t) ∧ w'.cell? ⟨w.heap.size, 2, none⟩ = some (.int .i64 0) ∧ w'.cell? ⟨w.heap.size, 3, none⟩ = some (.bool p))
      (first | assumption | exact heldW_step zg HS0.out ((bref _).drew) | exact heldW_step zg HS0.out ((ball (bref _) _).drew) | exact heldW_step zg (by assumption) (ball (bref _) _))
      (first
        | (go_at_call_of 19 (Value.int .i64 (f : Int)); refine (A1.out _ (HH.out.2.1.grow (by assumption : _ ∧ _).1)).mono ?_; rintro e wn ⟨rfl, rfl⟩)
        | (go_at_call 19; refine (A2.out _ (HH.out.2.1.grow (by assumption : _ ∧ _).1)).mono ?_; rintro e wn ⟨rfl, rfl⟩))
    all_goals
      go_wp2_with fail
      go_meet
      exact ⟨w.heap.size + 1, rfl, rowA2 w _ _, rowA1 w _ _, (ball (ball (bref w) _) _).drew, by omega⟩
  case rest =>
    obtain ⟨l, rfl, hl, hmv, hB1, hlw⟩ := hcut
    obtain ⟨i0, hi, iz0, iz1, iz2⟩ := info_parts infoMade
    have HBw := Lib.hid hB1
    have HL1 := Lib.hid hl
    have HM1 := Lib.hid hmv
    have HG1 := Lib.hid (h.grow hB1)
    have O1 := Lib.hid (hp.grow hB1).1
    have HP1 := Lib.hid (hp.grow hB1)
    have HLn := Lib.hid hL
    have HBs := Lib.hid (Nat.le_trans hB hB1.size)
    have HFT := Lib.hid (And.intro hf (And.intro ht hft))
    have NW := Lib.hid (fun j (e : v.ownBlock = some j) => (own_lt hp.1 j e).2)
    have IH := Lib.hid (fun W => inHand_any y hy W)
    have HO := Lib.hid hh
    have BE := Lib.hid (fun W => behind_mv f t 0 p x y hx W)
    have P1 := Lib.hid (fun W v (h : Gk W g b z1 v) => gput_k g b z1 v f 0 hf (by omega) hz1 h81 hc1 W h)
    have hq : -128 ≤ behF x p ∧ behF x p ≤ 127 := by
      unfold behF
      split
      · exact ofF_bd _ _
      · exact hx
    have P2 := Lib.hid (fun W v (h : Gk W g b (putZ z1 f 0) v) => gput_k g b (putZ z1 f 0) v t (behF x p) ht hq (by rw [putZ_len, hz1]) (putZ_8 h81 _ _ (by omega)) (putZ_clean hc1 hz1 _ _) W h)
    have zgw : g < w.heap.size ∧ b < w.heap.size := ⟨h.1.lt, h.2.1.lt⟩
    have ZG := Lib.hid zgw
    have LW := Lib.hid hlw
    have zl := (Array.getElem?_eq_some_iff.1 hl).1
    have HZL := Lib.hid zl
    clear g0 g1 g2 hl hmv hB1 hlw h hp hL hB hf ht hft hh hx hy hq hz h8 hc hz1 h81 hc1 hX hY A1 A2 HH HP zl
    generalize rawF (kindF y) = k at *
    generalize er : behF x p = r at *
    generalize ez2 : putZ z1 f 0 = z2 at *
    generalize ez3 : putZ z2 t r = z3 at *
    have EZ := Lib.hid (And.intro er (And.intro ez2 ez3))
    clear er ez2 ez3
    go_upto_region 2 with fail
    go_cut [] (fun wx => Lain2 w B g b z v L ⟨f, t, 0, p, x, y⟩ l wx)
    case first =>
      obtain ⟨g0, g1, g2⟩ := HG1.out.1.cells
      obtain ⟨l0, l1, l2, l3, l4, l5⟩ := made_cells HL1.out
      have fg := HG1.out.1.frozen 2
      have zg := HG1.out.1.lt
      have zl := HZL.out
      go_region_law (refine step_append_own (by rfl) _ _ 59 (by rfl) B 103 i0 _ 6 40 Tryd.underlying59 hi iz0 iz1 iz2 (by rfl) (by decide) v L.length (pastC L) (by rfl) (own_drew (O1.out.alloc _)) ⟨wc.heap.size, 0, none⟩ 1 1 (by decide) (Md.cells ⟨f, t, 0, p, x, y⟩) (by rfl) (by rfl) (fun j u hu => by (rcases j with _ | _ | _ | _ | _ | _ | j <;> (first | (obtain rfl := Option.some.inj hu; go_simp) | exact absurd hu (by simp [Md.cells])))) (Md.one _) (by (have := HLn.out; unfold maxLen; omega)) (by (have := HLn.out; omega)) (by (have := HBs.out; simp; omega)) ?_; intro v' w' hown hgr hfr; obtain ⟨j', cap', rfl⟩ := own_slice hown; obtain ⟨hG, hP, hBu⟩ := past_step (ball (bref _) _).drew HG1.out HP1.out hown hgr hfr; have HG := Lib.hid hG; have HP2 := Lib.hid hP; have HBu := Lib.hid hBu; have HM2 := Lib.hid hgr; obtain ⟨c0, c1, c2⟩ := HG.out.1.cells; have f2 := HG.out.1.frozen 2; clear hown hgr hfr hG hP hBu)
      all_goals
        have hg' := HG.out.2.2
        have hlg : l ≠ g := by (have := LW.out; have := ZG.out; omega)
        have hwg : w.heap.size ≠ g := by (have := ZG.out; omega)
        have SV := Lib.hid ((But2.refl g b w').setG 2 (.slice (some ⟨j', 0, none⟩) (L.length + 1) cap'))
        have R1 := SV.out.row (row_grown HM2.out (rowO HL1.out) (fun e => by (have := NW.out _ e; have := LW.out; omega))) hlg (by (have := LW.out; have := ZG.out; omega))
        have R2 := SV.out.row (row_grown HM2.out (rowO HM1.out) (fun e => by (have := NW.out _ e; omega))) hwg (by (have := ZG.out; omega))
        go_wp2_with fail
        go_meet
        exact ⟨_, gk_setV HG.out _, HP2.out.but2 SV.out, (But4.pre HBw.out HBu.out).then2 SV.out, R1, R2⟩
    case rest =>
      obtain ⟨v', hG, hP, hBu, hl, hm⟩ := hcut
      have hlg : l ≠ g ∧ l ≠ b := by (have := LW.out; have := ZG.out; omega)
      have hwg : w.heap.size ≠ g ∧ w.heap.size ≠ b := by (have := ZG.out; omega)
      obtain ⟨hlg, hlb⟩ := hlg
      obtain ⟨hwg, hwb⟩ := hwg
      have HG := Lib.hid hG
      have HP := Lib.hid hP
      have HBu := Lib.hid hBu
      have RL := Lib.hid hl
      have RM := Lib.hid hm
      obtain ⟨l0, l1, l2, l3, l4, l5⟩ := made_cells hl
      obtain ⟨m0, m1, m2, m3⟩ := mv_cells' hm
      clear hG hP hBu hl hm
      go_wp2_with (first
        | (go_at_call 81; refine (IH.out _).mono ?_; rintro e w1 ⟨rfl, rfl⟩)
        | (go_at_call 80; refine (HO.out _ _ HG.out).mono ?_; rintro e w2 ⟨rfl, hG, hb⟩; have HGa := Lib.hid hG; have HPa := Lib.hid (HP.out.but2 hb); have HBa := Lib.hid (HBu.out.then2 hb); have RLa := Lib.hid (hb.row RL.out hlg hlb); have RMa := Lib.hid (hb.row RM.out hwg hwb); obtain ⟨n0, n1, n2, n3⟩ := mv_cells' RMa.out; clear hG hb)
        | (go_at_call 79; refine (P1.out _ _ HGa.out).mono ?_; rintro e w3 ⟨rfl, hG, hb⟩; have HGb := Lib.hid (Gk.drew hG); have HPb := Lib.hid (HPa.out.but2 hb.drew); have HBb := Lib.hid (HBa.out.then2 hb.drew); have RLb := Lib.hid (hb.row RLa.out hlg hlb); have RMb := Lib.hid (hb.row RMa.out hwg hwb); obtain ⟨n0, n1, n2, n3⟩ := mv_cells' RMb.out; obtain ⟨k0, k1, k2, k3, k4, k5⟩ := made_cells RLb.out; clear hG hb))
      go_region_with (first
        | (go_at_call 107; refine (BE.out _).mono ?_; rintro e w4 ⟨rfl, hb⟩; have HGc := Lib.hid (HGb.out.grow hb); have HPc := Lib.hid (HPb.out.grow hb); have HBc := Lib.hid (HBb.out.trans (But3.of hb)); have zw := Nat.lt_of_lt_of_le (lt_of_row' RMb.out) hb.size; obtain ⟨o0, o1, o2, o3⟩ := mv_cells' (row3' RMb.out hb); clear hb)
        | (go_at_call 79; refine (P2.out _ _ HGc.out).mono ?_; rintro e w5 ⟨rfl, hG, hb⟩))
      all_goals
        go_end0
        exact ⟨rfl, v', by rw [EZ.out.1, EZ.out.2.1, EZ.out.2.2]; exact hG, HPc.out.but2 hb, HBc.out.then2 hb⟩
end Go.Proofs.YtbopbekehccdmaaDoor
