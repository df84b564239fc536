/-
  The walk of the law AttackOn.
-/
import Derived.Test.YtilhicohfnaclaaDoorAtkHead
import Derived.Test.YtilhicohfnaclaaDoorAtkRef2
namespace Go.Proofs.YtilhicohfnaclaaDoor.attackOn
open Go.RowKit
set_option maxRecDepth 100000
set_option linter.unusedVariables false
set_option linter.unusedSimpArgs false

theorem setOf_own (v : Value) (B : Nat) (L : List Int) (hL : L.length ≤ 81) (W : World) (h : Own W B v L) :
    Calls Tryd.prog 21 #[v] W fun e w' => e = .returned (.agg #[.int .u64 (loW (ofN L)), .int .u64 (hiW (ofN L))]) ∧ Below W.heap.size W w' := by
  obtain ⟨ao, cap, rfl, hp⟩ := h.uni'
  by_cases h0 : L.length = 0
  · have e : L = [] := List.length_eq_zero_iff.1 h0
    subst e
    exact of_empty ao cap W
  · obtain ⟨g, rfl, -, hg, hc⟩ := hp h0
    exact of_any g 0 cap L W (by omega) hg (fun j hj => by rw [Nat.zero_add]; exact hc j hj)
/-- What the law has at hand: the position, the square and the side, the squares that are taken. -/
structure ABx (w : World) (Z : List Int) (q s xn yn : Int) (W : World) : Prop where
  pos : PosAt W w.heap.size Z
  q0 : W.cell? ⟨w.heap.size + 1, 0, none⟩ = some (.int .i64 q)
  s0 : W.cell? ⟨w.heap.size + 1, 1, none⟩ = some (.int .i64 s)
  x0 : W.cell? ⟨w.heap.size + 2, 0, none⟩ = some (.int .u64 xn)
  y0 : W.cell? ⟨w.heap.size + 2, 1, none⟩ = some (.int .u64 yn)
  f0 : W.frozen? ⟨w.heap.size + 2, 0, none⟩ = false
  f1 : W.frozen? ⟨w.heap.size + 2, 1, none⟩ = false
  lt : w.heap.size + 2 < W.heap.size
theorem ABx.grow {w W W' : World} {Z : List Int} {q s xn yn : Int} (h : ABx w Z q s xn yn W) (hb : Below W.heap.size W W') : ABx w Z q s xn yn W' := by
  obtain ⟨h0, h1, h2, h3, h4, h5, h6, h7⟩ := h
  have hs := hb.size
  exact ⟨h0.grow hb, (hb.cell (p := ⟨w.heap.size + 1, 0, none⟩) (by show w.heap.size + 1 < _; omega)).trans h1, (hb.cell (p := ⟨w.heap.size + 1, 1, none⟩) (by show w.heap.size + 1 < _; omega)).trans h2, (hb.cell (p := ⟨w.heap.size + 2, 0, none⟩) h7).trans h3, (hb.cell (p := ⟨w.heap.size + 2, 1, none⟩) h7).trans h4, (hb.frozen (p := ⟨w.heap.size + 2, 0, none⟩) h7).trans h5, (hb.frozen (p := ⟨w.heap.size + 2, 1, none⟩) h7).trans h6, by omega⟩
theorem ABx.start (w : World) (z : List Int) (q s a b : Int) : ABx w z q s a b (((w.alloc (.cells (posC z).toArray 28)).alloc (.cells #[.int .i64 q, .int .i64 s] 29)).alloc (.cells #[.int .u64 a, .int .u64 b] 32)) := by
  refine ⟨((PosAt.new w z).grow (ball (bref _) _)).grow (ball (bref _) _), ?_, ?_, ?_, ?_, ?_, ?_, by simp⟩
  all_goals go_simp
theorem ABx.setRow {w W : World} {Z Z' : List Int} {q s xn yn : Int} (h : ABx w Z q s xn yn W) : ABx w Z' q s xn yn (W.setRow w.heap.size (posC Z').toArray) := by
  obtain ⟨h0, h1, h2, h3, h4, h5, h6, h7⟩ := h
  have e : ∀ k, k ≠ w.heap.size → (W.setRow w.heap.size (posC Z').toArray).heap[k]? = W.heap[k]? := fun k hk => setRow_other _ _ _ _ hk
  have c1 : ∀ o, (W.setRow w.heap.size (posC Z').toArray).cell? ⟨w.heap.size + 1, o, none⟩ = W.cell? ⟨w.heap.size + 1, o, none⟩ := fun o => World.cell?_of_block (w := W) (a := ⟨w.heap.size + 1, o, none⟩) (e _ (by simp))
  have c2 : ∀ o, (W.setRow w.heap.size (posC Z').toArray).cell? ⟨w.heap.size + 2, o, none⟩ = W.cell? ⟨w.heap.size + 2, o, none⟩ := fun o => World.cell?_of_block (w := W) (a := ⟨w.heap.size + 2, o, none⟩) (e _ (by simp))
  have c3 : ∀ o, (W.setRow w.heap.size (posC Z').toArray).frozen? ⟨w.heap.size + 2, o, none⟩ = W.frozen? ⟨w.heap.size + 2, o, none⟩ := fun o => World.frozen?_of_block (w := W) (a := ⟨w.heap.size + 2, o, none⟩) (e _ (by simp))
  exact ⟨setRow_heap _ _ _ _ _ _ h0, (c1 0).trans h1, (c1 1).trans h2, (c2 0).trans h3, (c2 1).trans h4, (c3 0).trans h5, (c3 1).trans h6, by simpa using h7⟩
theorem ABx.setS {w W : World} {Z : List Int} {q s xn yn : Int} (h : ABx w Z q s xn yn W) (a b : Int) : ABx w Z q s a b ((W.setCell ⟨w.heap.size + 2, 0, none⟩ (.int .u64 a)).setCell ⟨w.heap.size + 2, 1, none⟩ (.int .u64 b)) := by
  obtain ⟨h0, h1, h2, h3, h4, h5, h6, h7⟩ := h
  exact ⟨(h0.other (by omega) _ _).other (by omega) _ _, by go_simp, by go_simp, by go_simp, by go_simp, by simpa using h5, by simpa using h6, by simpa using h7⟩

set_option maxHeartbeats 8000000 in
theorem walk (z : List Int) (q s a b : Int) (hz : z.length = 98) (h8 : I8s z) (g1 : (Lit.int .i64 q).wf = true) (g2 : (Lit.int .i64 s).wf = true) (g3 : (Lit.int .u64 a).wf = true) (g4 : (Lit.int .u64 b).wf = true) (w : World) (hT : Tab w) :
    Calls Tryd.prog 3 #[.agg (posC z).toArray, .agg #[.int .i64 q, .int .i64 s], .agg #[.int .u64 a, .int .u64 b]] w fun e w' => e = .returned (.bool true) ∧ Below w.heap.size w w' := by
  have AT := Lib.hid (fun W (t : Tab W) => attacks_true W t)
  have CL := Lib.hid (fun W => clean8_any z hz h8 W)
  have hZ := newZ_len z hz
  have hZ8 := newZ_8 z h8
  have hZc := newZ_clean z hz
  have HINF0 := Lib.hid (show (Tryd.prog.info? 28).map (·.size) = some (posC z).length by rw [posC_len, hz]; exact infoPos)
  have HINF := Lib.hid (show (Tryd.prog.info? 28).map (·.size) = some (posC (newZ z)).length by rw [posC_len, hZ]; exact infoPos)
  have HSC := Lib.hid (show (posC z).toArray.size = (posC (newZ z)).toArray.size by rw [List.size_toArray, List.size_toArray, posC_len, posC_len, hz, hZ])
  have HT := Lib.hid hT
  clear hT
  generalize newZ z = Z at *
  have NE := Lib.hid (fun W => new_brd Z hZ hZ8 W)
  rw [newZ_self Z hZ hZc] at NE
  obtain ⟨a0, a1⟩ := bounds_u64 g3
  obtain ⟨b0, b1⟩ := bounds_u64 g4
  have RE := Lib.hid (fun W => real8_any a b a0 a1 b0 b1 W)
  have hsq := realN_sq a b
  generalize realN a b = n at *
  have RO := Lib.hid (fun W => refOf_any n hsq W)
  rw [← arrL_arr] at RO
  have ON := Lib.hid (fun g W (h : Brd W g Z) => on_any g Z q s n hZ hsq W h)
  have EM := Lib.hid (fun W => empty_any (onN Z q s n) W)
  have RA := Lib.hid (fun W => refAt_any Z q s n hZ hZ8 W)
  have HNO := Lib.hid (onN_none Z q s n)
  have HLI := Lib.hid (on_list Z q s n)
  have HLE := Lib.hid (show (if 0 ≤ q ∧ q < 81 then onL Z q s n 81 else []).length ≤ 81 by split <;> first | exact onL_len _ _ _ _ _ | simp)
  have R := Lib.hid (ABx.start w z q s a b)
  have HB := Lib.hid (ball (ball (ball (bref w) (.cells (posC z).toArray 28)) (.cells #[.int .i64 q, .int .i64 s] 29)) (.cells #[.int .u64 a, .int .u64 b] 32))
  clear g1 g2 g3 g4 hZ hZ8 hZc hz h8 a0 a1 b0 b1 hsq
  generalize (if 0 ≤ q ∧ q < 81 then onL Z q s n 81 else []) = L at *
  generalize onN Z q s n = N at *
  generalize loW n = xn at *
  generalize hiW n = yn at *
  generalize hlo : loW N = x at *
  generalize hhi : hiW N = y at *
  have HLO := Lib.hid hlo
  have HHI := Lib.hid hhi
  clear hlo hhi
  go_enter Tryd.func3, Tryd.ntmps3
  go_upto_region 1 with fail
  generalize ((w.alloc (.cells (posC z).toArray 28)).alloc (.cells #[.int .i64 q, .int .i64 s] 29)).alloc (.cells #[.int .u64 a, .int .u64 b] 32) = w0 at *
  go_upto_region 4 with (first
    | (go_at_call 15; refine (AT.out _ (HT.out.grow HB.out)).mono ?_; rintro e w1 ⟨rfl, hb⟩; replace R := Lib.hid (R.out.grow hb); replace HB := Lib.hid (bthen HB.out hb); clear hb)
    | (refine wpList_load_mid rfl 28 _ rfl w.heap.size 0 rfl (posC z) _ R.out.pos.range Tryd.underlying28 rfl HINF0.out ?_)
    | (go_at_call 16; refine (CL.out _).mono ?_; rintro e w2 ⟨rfl, hb⟩; replace R := Lib.hid (R.out.grow hb); replace HB := Lib.hid (bthen HB.out hb); clear hb)
    | (refine wpList_store_row rfl 28 _ _ rfl w.heap.size (posC Z).toArray rfl rfl 28 _ R.out.pos (by rw [List.size_toArray]; exact HINF.out) HSC.out (posC_one Z) ?_))
  replace HB := Lib.hid (below_row HB.out (Nat.le_refl _) (posC Z).toArray)
  replace R := Lib.hid (R.out.setRow (Z' := Z))
  generalize w2.setRow w.heap.size (posC Z).toArray = w3 at *
  have c0 := R.out.x0
  have c1 := R.out.y0
  go_upto_region 5 with (go_at_call 17; refine (RE.out _).mono ?_; rintro e w5 ⟨rfl, hb⟩; replace R := Lib.hid (R.out.grow hb); replace HB := Lib.hid (bthen HB.out hb); clear hb; clear c0 c1; have c0 := R.out.x0; have c1 := R.out.y0; have f0 := R.out.f0; have f1 := R.out.f1; have hlt := R.out.lt)
  replace R := Lib.hid (R.out.setS xn yn)
  replace HB := Lib.hid (show Below w.heap.size w ((w5.setCell ⟨w.heap.size + 2, 0, none⟩ (.int .u64 xn)).setCell ⟨w.heap.size + 2, 1, none⟩ (.int .u64 yn)) from (HB.out.setCell (by simp) _).setCell (by simp) _)
  clear c0 c1 f0 f1 hlt
  generalize (w5.setCell ⟨w.heap.size + 2, 0, none⟩ (.int .u64 xn)).setCell ⟨w.heap.size + 2, 1, none⟩ (.int .u64 yn) = w6 at *
  go_wp2_with fail
  refine wp_region_any (by kernel_rfl) ?_
  change wpAny _ _ _ _ _ _ _ (World.drew _)
  refine wpAny_inv3 (fun a0 => a0.eval (.tmp 3) = .pointer (some ⟨w.heap.size, 0, none⟩) ∧ a0.eval (.tmp 4) = .pointer (some ⟨w.heap.size + 1, 0, none⟩) ∧ a0.eval (.tmp 5) = .pointer (some ⟨w.heap.size + 2, 0, none⟩) ∧ 40 < a0.tmps.size) ⟨rfl, rfl, rfl, of_decide_eq_true rfl⟩
    (fun a0 ls a w' => ls.size = 10 ∧ Below w6.heap.size w6 w' ∧ ∃ g p : Nat, (ls.getD 1 false = true → ls.getD 9 false = false → Brd w' g Z) ∧ (ls.getD 8 false = true → w6.heap.size ≤ p ∧ Var w' p (if ls.getD 9 false then x else 0) (if ls.getD 9 false then y else 0)) ∧ (∀ i, i < 10 → ls.getD 9 false = true → ls.getD i false = true) ∧ a = cput (ls.getD 8 false) 7 (.pointer (some ⟨p, 0, none⟩)) (cput (ls.getD 7 false) 21 (.agg #[.int .u64 x, .int .u64 y]) (cput (ls.getD 6 false) 20 (.agg #[.int .u64 xn, .int .u64 yn]) (cput (ls.getD 5 false) 19 (.int .i64 s) (cput (ls.getD 4 false) 18 (.pointer (some ⟨w.heap.size + 1, 1, none⟩)) (cput (ls.getD 3 false) 17 (.int .i64 q) (cput (ls.getD 2 false) 16 (.pointer (some ⟨w.heap.size + 1, 0, none⟩)) (cput (ls.getD 1 false) 15 (.pointer (some ⟨g, 0, none⟩)) (cput (ls.getD 0 false) 14 (.agg (posC Z).toArray) (a0)))))))))) ?step ?fin ?start (by decide)
  case start => exact ⟨rfl, (bref w6).drew, 0, 0, (fun h => nomatch h), (fun h => nomatch h), (fun _ _ h => nomatch h), rfl⟩
  case step =>
    rintro a0 ⟨e3, e4, e5, esz⟩ ls a w' ⟨hl, hb, g, p, hG, hV, hns, ha⟩ i o ho hu hw
    have hu' := undone hu
    rcases i with _ | _ | _ | _ | _ | _ | _ | _ | _ | _ | i
    · have ho' : some _ = some o := ho
      cases ho'
      have E3 : a.eval (.tmp 3) = .pointer (some ⟨w.heap.size, 0, none⟩) := by rw [ha]; simp [eval_cput_ne, e3]
      have hst : ls.getD 9 false = false := by
        cases h : ls.getD 9 false with
        | false => rfl
        | true => (have := hns 0 (by omega) h; rw [hu'] at this; cases this)
      have hst' : (ls.setIfInBounds 0 true).getD 9 false = false := (getF (by omega : 0 < ls.size)).trans ((if_neg (by decide)).trans hst)
      have hns' : ∀ j, j < 10 → (ls.setIfInBounds 0 true).getD 9 false = true → (ls.setIfInBounds 0 true).getD j false = true := fun _ _ h => by rw [hst'] at h; cases h
      refine wpOp_step ho (fun K hK' => ?_)
      rw [if_pos (by rfl)]
      refine wp_load_mid _ _ rfl (w.heap.size) 0 E3 (posC Z) _ ((R.out.grow hb).pos.range) Tryd.underlying28 rfl (HINF.out) ?_
      exact hK' _ _ ⟨by simp [hl], hb, g, p, by simpa [getF, hl] using (fun h h' => (show Brd _ g Z from BrdAt.grow (hG h h') (bref w'))), by simpa [getF, hl] using (fun h => (show _ ∧ _ from ⟨(hV h).1, (hV h).2.grow (bref w')⟩)), hns', by rw [ha]; simp [cput_put, getF, hl, hu', cput_at]⟩
    · have ho' : some _ = some o := ho
      cases ho'
      have d14 : ls.getD 0 false = true := hw ⟨0, .data⟩ (by simp) rfl
      have z14 : 14 < a0.tmps.size := by omega
      have E14 : a.eval (.tmp 14) = .agg (posC Z).toArray := by rw [ha]; simp [eval_cput_ne, d14, eval_cput_at, size_cput, z14]
      have hst : ls.getD 9 false = false := by
        cases h : ls.getD 9 false with
        | false => rfl
        | true => (have := hns 1 (by omega) h; rw [hu'] at this; cases this)
      have hst' : (ls.setIfInBounds 1 true).getD 9 false = false := (getF (by omega : 1 < ls.size)).trans ((if_neg (by decide)).trans hst)
      have hns' : ∀ j, j < 10 → (ls.setIfInBounds 1 true).getD 9 false = true → (ls.setIfInBounds 1 true).getD j false = true := fun _ _ h => by rw [hst'] at h; cases h
      refine wpOp_step ho (fun K hK' => ?_)
      rw [if_pos (by rfl)]
      refine wp_callK 19 #[a.eval (.tmp 14)] ?_ ?_
      · clear ha E14
        go_simp
      · rw [E14]
        refine (NE.out _).mono ?_
        rintro e w2 ⟨g2, rfl, hg2, hbd2, hb2⟩
        exact ⟨_, rfl, hK' _ _ ⟨by simp [hl], bthen hb hb2, g2, p, fun _ _ => hbd2, by simpa [getF, hl] using (fun h => (show _ ∧ _ from ⟨(hV h).1, (hV h).2.grow hb2⟩)), hns', by rw [ha]; simp [cput_put, getF, hl, hu', cput_at]⟩⟩
    · have ho' : some _ = some o := ho
      cases ho'
      have E4 : a.eval (.tmp 4) = .pointer (some ⟨w.heap.size + 1, 0, none⟩) := by rw [ha]; simp [eval_cput_ne, e4]
      have hst : ls.getD 9 false = false := by
        cases h : ls.getD 9 false with
        | false => rfl
        | true => (have := hns 2 (by omega) h; rw [hu'] at this; cases this)
      have hst' : (ls.setIfInBounds 2 true).getD 9 false = false := (getF (by omega : 2 < ls.size)).trans ((if_neg (by decide)).trans hst)
      have hns' : ∀ j, j < 10 → (ls.setIfInBounds 2 true).getD 9 false = true → (ls.setIfInBounds 2 true).getD j false = true := fun _ _ h => by rw [hst'] at h; cases h
      refine wpOp_step ho (fun K hK' => ?_)
      rw [if_pos (by rfl)]
      refine wp_valueK (w' := w') (.pointer (some ⟨w.heap.size + 1, 0, none⟩)) ?_ (hK' _ _ ⟨by simp [hl], hb, g, p, by simpa [getF, hl] using (fun h h' => (show Brd _ g Z from BrdAt.grow (hG h h') (bref w'))), by simpa [getF, hl] using (fun h => (show _ ∧ _ from ⟨(hV h).1, (hV h).2.grow (bref w')⟩)), hns', by rw [ha]; simp [cput_put, getF, hl, hu', cput_at]⟩)
      clear ha
      have EE : a.tmps[4]?.getD undef = .pointer (some ⟨w.heap.size + 1, 0, none⟩) := by first | exact E4 | simpa [Act.eval] using E4
      go_simp
      all_goals first | (rw [EE]; go_simp; done) | decide | rfl
    · have ho' : some _ = some o := ho
      cases ho'
      have d16 : ls.getD 2 false = true := hw ⟨2, .data⟩ (by simp) rfl
      have z16 : 16 < a0.tmps.size := by omega
      have E16 : a.eval (.tmp 16) = .pointer (some ⟨w.heap.size + 1, 0, none⟩) := by rw [ha]; simp [eval_cput_ne, d16, eval_cput_at, size_cput, z16]
      have hst : ls.getD 9 false = false := by
        cases h : ls.getD 9 false with
        | false => rfl
        | true => (have := hns 3 (by omega) h; rw [hu'] at this; cases this)
      have hst' : (ls.setIfInBounds 3 true).getD 9 false = false := (getF (by omega : 3 < ls.size)).trans ((if_neg (by decide)).trans hst)
      have hns' : ∀ j, j < 10 → (ls.setIfInBounds 3 true).getD 9 false = true → (ls.setIfInBounds 3 true).getD j false = true := fun _ _ h => by rw [hst'] at h; cases h
      refine wpOp_step ho (fun K hK' => ?_)
      rw [if_pos (by rfl)]
      refine wp_valueK (w' := w') (.int .i64 q) ?_ (hK' _ _ ⟨by simp [hl], hb, g, p, by simpa [getF, hl] using (fun h h' => (show Brd _ g Z from BrdAt.grow (hG h h') (bref w'))), by simpa [getF, hl] using (fun h => (show _ ∧ _ from ⟨(hV h).1, (hV h).2.grow (bref w')⟩)), hns', by rw [ha]; simp [cput_put, getF, hl, hu', cput_at]⟩)
      clear ha
      have EE : a.tmps[16]?.getD undef = .pointer (some ⟨w.heap.size + 1, 0, none⟩) := by first | exact E16 | simpa [Act.eval] using E16
      have cc := (R.out.grow hb).q0
      go_simp
      all_goals first | (rw [EE]; go_simp; done) | decide | rfl
    · have ho' : some _ = some o := ho
      cases ho'
      have E4 : a.eval (.tmp 4) = .pointer (some ⟨w.heap.size + 1, 0, none⟩) := by rw [ha]; simp [eval_cput_ne, e4]
      have hst : ls.getD 9 false = false := by
        cases h : ls.getD 9 false with
        | false => rfl
        | true => (have := hns 4 (by omega) h; rw [hu'] at this; cases this)
      have hst' : (ls.setIfInBounds 4 true).getD 9 false = false := (getF (by omega : 4 < ls.size)).trans ((if_neg (by decide)).trans hst)
      have hns' : ∀ j, j < 10 → (ls.setIfInBounds 4 true).getD 9 false = true → (ls.setIfInBounds 4 true).getD j false = true := fun _ _ h => by rw [hst'] at h; cases h
      refine wpOp_step ho (fun K hK' => ?_)
      rw [if_pos (by rfl)]
      refine wp_valueK (w' := w') (.pointer (some ⟨w.heap.size + 1, 1, none⟩)) ?_ (hK' _ _ ⟨by simp [hl], hb, g, p, by simpa [getF, hl] using (fun h h' => (show Brd _ g Z from BrdAt.grow (hG h h') (bref w'))), by simpa [getF, hl] using (fun h => (show _ ∧ _ from ⟨(hV h).1, (hV h).2.grow (bref w')⟩)), hns', by rw [ha]; simp [cput_put, getF, hl, hu', cput_at]⟩)
      clear ha
      have EE : a.tmps[4]?.getD undef = .pointer (some ⟨w.heap.size + 1, 0, none⟩) := by first | exact E4 | simpa [Act.eval] using E4
      go_simp
      all_goals first | (rw [EE]; go_simp; done) | decide | rfl
    · have ho' : some _ = some o := ho
      cases ho'
      have d18 : ls.getD 4 false = true := hw ⟨4, .data⟩ (by simp) rfl
      have z18 : 18 < a0.tmps.size := by omega
      have E18 : a.eval (.tmp 18) = .pointer (some ⟨w.heap.size + 1, 1, none⟩) := by rw [ha]; simp [eval_cput_ne, d18, eval_cput_at, size_cput, z18]
      have hst : ls.getD 9 false = false := by
        cases h : ls.getD 9 false with
        | false => rfl
        | true => (have := hns 5 (by omega) h; rw [hu'] at this; cases this)
      have hst' : (ls.setIfInBounds 5 true).getD 9 false = false := (getF (by omega : 5 < ls.size)).trans ((if_neg (by decide)).trans hst)
      have hns' : ∀ j, j < 10 → (ls.setIfInBounds 5 true).getD 9 false = true → (ls.setIfInBounds 5 true).getD j false = true := fun _ _ h => by rw [hst'] at h; cases h
      refine wpOp_step ho (fun K hK' => ?_)
      rw [if_pos (by rfl)]
      refine wp_valueK (w' := w') (.int .i64 s) ?_ (hK' _ _ ⟨by simp [hl], hb, g, p, by simpa [getF, hl] using (fun h h' => (show Brd _ g Z from BrdAt.grow (hG h h') (bref w'))), by simpa [getF, hl] using (fun h => (show _ ∧ _ from ⟨(hV h).1, (hV h).2.grow (bref w')⟩)), hns', by rw [ha]; simp [cput_put, getF, hl, hu', cput_at]⟩)
      clear ha
      have EE : a.tmps[18]?.getD undef = .pointer (some ⟨w.heap.size + 1, 1, none⟩) := by first | exact E18 | simpa [Act.eval] using E18
      have cc := (R.out.grow hb).s0
      go_simp
      all_goals first | (rw [EE]; go_simp; done) | decide | rfl
    · have ho' : some _ = some o := ho
      cases ho'
      have E5 : a.eval (.tmp 5) = .pointer (some ⟨w.heap.size + 2, 0, none⟩) := by rw [ha]; simp [eval_cput_ne, e5]
      have hst : ls.getD 9 false = false := by
        cases h : ls.getD 9 false with
        | false => rfl
        | true => (have := hns 6 (by omega) h; rw [hu'] at this; cases this)
      have hst' : (ls.setIfInBounds 6 true).getD 9 false = false := (getF (by omega : 6 < ls.size)).trans ((if_neg (by decide)).trans hst)
      have hns' : ∀ j, j < 10 → (ls.setIfInBounds 6 true).getD 9 false = true → (ls.setIfInBounds 6 true).getD j false = true := fun _ _ h => by rw [hst'] at h; cases h
      refine wpOp_step ho (fun K hK' => ?_)
      rw [if_pos (by rfl)]
      refine wp_load_mid _ _ rfl (w.heap.size + 2) 0 E5 ([.int .u64 xn, .int .u64 yn]) _ (range2 (R.out.grow hb).x0 (R.out.grow hb).y0) Tryd.underlying32 rfl (infoSet2) ?_
      exact hK' _ _ ⟨by simp [hl], hb, g, p, by simpa [getF, hl] using (fun h h' => (show Brd _ g Z from BrdAt.grow (hG h h') (bref w'))), by simpa [getF, hl] using (fun h => (show _ ∧ _ from ⟨(hV h).1, (hV h).2.grow (bref w')⟩)), hns', by rw [ha]; simp [cput_put, getF, hl, hu', cput_at]⟩
    · have ho' : some _ = some o := ho
      cases ho'
      have d15 : ls.getD 1 false = true := hw ⟨1, .data⟩ (by simp) rfl
      have z15 : 15 < a0.tmps.size := by omega
      have E15 : a.eval (.tmp 15) = .pointer (some ⟨g, 0, none⟩) := by rw [ha]; simp [eval_cput_ne, d15, eval_cput_at, size_cput, z15]
      have d17 : ls.getD 3 false = true := hw ⟨3, .data⟩ (by simp) rfl
      have z17 : 17 < a0.tmps.size := by omega
      have E17 : a.eval (.tmp 17) = .int .i64 q := by rw [ha]; simp [eval_cput_ne, d17, eval_cput_at, size_cput, z17]
      have d19 : ls.getD 5 false = true := hw ⟨5, .data⟩ (by simp) rfl
      have z19 : 19 < a0.tmps.size := by omega
      have E19 : a.eval (.tmp 19) = .int .i64 s := by rw [ha]; simp [eval_cput_ne, d19, eval_cput_at, size_cput, z19]
      have d20 : ls.getD 6 false = true := hw ⟨6, .data⟩ (by simp) rfl
      have z20 : 20 < a0.tmps.size := by omega
      have E20 : a.eval (.tmp 20) = .agg #[.int .u64 xn, .int .u64 yn] := by rw [ha]; simp [eval_cput_ne, d20, eval_cput_at, size_cput, z20]
      have hst : ls.getD 9 false = false := by
        cases h : ls.getD 9 false with
        | false => rfl
        | true => (have := hns 7 (by omega) h; rw [hu'] at this; cases this)
      have hst' : (ls.setIfInBounds 7 true).getD 9 false = false := (getF (by omega : 7 < ls.size)).trans ((if_neg (by decide)).trans hst)
      have hns' : ∀ j, j < 10 → (ls.setIfInBounds 7 true).getD 9 false = true → (ls.setIfInBounds 7 true).getD j false = true := fun _ _ h => by rw [hst'] at h; cases h
      refine wpOp_step ho (fun K hK' => ?_)
      rw [if_pos (by rfl)]
      have hG1 := hG (hw ⟨1, .data⟩ (by simp) rfl) hst
      refine wp_callK 18 #[a.eval (.tmp 15), a.eval (.tmp 17), a.eval (.tmp 19), a.eval (.tmp 20)] ?_ ?_
      · clear ha E15 E17 E19 E20
        go_simp
      · rw [E15, E17, E19, E20]
        refine (ON.out g _ hG1).mono ?_
        rintro e w2 ⟨rfl, hb2⟩
        exact ⟨_, rfl, hK' _ _ ⟨by simp [hl], bthen hb hb2, g, p, by simpa [getF, hl] using (fun h h' => (show Brd _ g Z from BrdAt.grow (hG h h') hb2)), by simpa [getF, hl] using (fun h => (show _ ∧ _ from ⟨(hV h).1, (hV h).2.grow hb2⟩)), hns', by rw [ha]; simp [cput_put, getF, hl, hu', cput_at]⟩⟩
    · have ho' : some _ = some o := ho
      cases ho'
      have hst : ls.getD 9 false = false := by
        cases h : ls.getD 9 false with
        | false => rfl
        | true => (have := hns 8 (by omega) h; rw [hu'] at this; cases this)
      have hst' : (ls.setIfInBounds 8 true).getD 9 false = false := (getF (by omega : 8 < ls.size)).trans ((if_neg (by decide)).trans hst)
      have hns' : ∀ j, j < 10 → (ls.setIfInBounds 8 true).getD 9 false = true → (ls.setIfInBounds 8 true).getD j false = true := fun _ _ h => by rw [hst'] at h; cases h
      refine wpOp_step ho (fun K hK' => ?_)
      rw [if_pos (by rfl)]
      refine wp_valueK (w' := w'.alloc (.cells #[.int .u64 0, .int .u64 0] 32)) (.pointer (some ⟨w'.heap.size, 0, none⟩)) ?_ ?_
      · have hz : (zeroValue 32).run Tryd.prog w' = .ok (.agg #[.int .u64 0, .int .u64 0]) w' := by kernel_rfl
        clear ha
        go_simp
      · refine hK' _ _ ⟨by simp [hl], ball hb _, g, w'.heap.size, by simpa [getF, hl] using (fun h h' => (show Brd _ g Z from BrdAt.grow (hG h h') (ball (bref w') _))), ?_, hns', by rw [ha]; simp [cput_put, getF, hl, hu', cput_at]⟩
        intro _
        rw [hst']
        exact ⟨hb.size, ⟨by simp, by go_simp, by go_simp, by go_simp, by go_simp⟩⟩
    · have ho' : some _ = some o := ho
      cases ho'
      have d7 : ls.getD 8 false = true := hw ⟨8, .data⟩ (by simp) rfl
      have z7 : 7 < a0.tmps.size := by omega
      have E7 : a.eval (.tmp 7) = .pointer (some ⟨p, 0, none⟩) := by rw [ha]; simp [eval_cput_ne, d7, eval_cput_at, size_cput, z7]
      have d21 : ls.getD 7 false = true := hw ⟨7, .data⟩ (by simp) rfl
      have z21 : 21 < a0.tmps.size := by omega
      have E21 : a.eval (.tmp 21) = .agg #[.int .u64 x, .int .u64 y] := by rw [ha]; simp [eval_cput_ne, d21, eval_cput_at, size_cput, z21]
      refine wpOp_step ho (fun K hK' => ?_)
      rw [if_pos (by rfl)]
      obtain ⟨hp0, hV0⟩ := hV d7
      rw [show ls.getD 9 false = false from hu'] at hV0
      simp only [Bool.false_eq_true, if_false] at hV0
      have all : ∀ j, j < 9 → ls.getD j false = true := by
        intro j hj
        obtain rfl | rfl | rfl | rfl | rfl | rfl | rfl | rfl | rfl : j = 0 ∨ j = 1 ∨ j = 2 ∨ j = 3 ∨ j = 4 ∨ j = 5 ∨ j = 6 ∨ j = 7 ∨ j = 8 := by omega
        · exact hw ⟨0, .phase⟩ (by simp) rfl
        · exact hw ⟨1, .phase⟩ (by simp) rfl
        · exact hw ⟨2, .phase⟩ (by simp) rfl
        · exact hw ⟨3, .phase⟩ (by simp) rfl
        · exact hw ⟨4, .phase⟩ (by simp) rfl
        · exact hw ⟨5, .phase⟩ (by simp) rfl
        · exact hw ⟨6, .phase⟩ (by simp) rfl
        · exact hw ⟨7, .phase⟩ (by simp) rfl
        · exact hw ⟨8, .phase⟩ (by simp) rfl
      have gg : ∀ j, j ≠ 9 → (ls.setIfInBounds 9 true).getD j false = ls.getD j false := fun j hj => (getF (by omega : 9 < ls.size)).trans (if_neg (Ne.symm hj))
      have gs : (ls.setIfInBounds 9 true).getD 9 false = true := (getF (by omega : 9 < ls.size)).trans (if_pos rfl)
      refine wp_store_mid _ _ _ rfl p 0 #[.int .u64 x, .int .u64 y] E7 E21 (there2 hV0.lo hV0.hi hV0.f0 hV0.f1) infoSet2 (by simp [Value.oneCell']) ?_
      refine hK' _ _ ⟨by simp [hl], (hb.setCell hp0 _).setCell hp0 _, g, p, (fun _ h => by rw [gs] at h; cases h), ?_, (fun j hj _ => if e : j = 9 then (by rw [e]; exact gs) else (gg j e).trans (all j (by omega))), ?_⟩
      · intro _
        rw [gs]
        exact ⟨hp0, hV0.put _ _⟩
      · rw [gg 8 (by decide), gg 7 (by decide), gg 6 (by decide), gg 5 (by decide), gg 4 (by decide), gg 3 (by decide), gg 2 (by decide), gg 1 (by decide), gg 0 (by decide), ha]
        rfl
    · cases ho
  case fin =>
    rintro ls a w' ⟨hl, hb, g, p, -, hV, -, ha⟩ hr
    have d : ∀ i, i < 10 → ls.getD i false = true := all_doneB hr (by kernel_rfl) (by rw [hl]; rfl)
    obtain ⟨hpl, hV⟩ := hV (d 8 (by decide))
    rw [d 9 (by decide)] at hV
    rw [d 8 (by decide), d 7 (by decide), d 6 (by decide), d 5 (by decide), d 4 (by decide), d 3 (by decide), d 2 (by decide), d 1 (by decide), d 0 (by decide)] at ha
    subst ha
    simp only [cput, if_true, Act.put, List.setIfInBounds_toArray, List.set_cons_zero, List.set_cons_succ] at hV ⊢
    clear d hr hl
    replace R := Lib.hid (R.out.grow hb)
    replace HB := Lib.hid (bthen HB.out hb)
    have HV := Lib.hid (show Var w' p x y from hV)
    have HPL := Lib.hid (show p < w'.heap.size from hV.lt)
    clear hV hb hpl
    generalize w' = wv at *
    have cc := R.out.s0
    by_cases hs : s = 0 ∨ s = 1
    · have SO := Lib.hid (fun B v W (h : Own W B v L) => setOf_own v B L HLE.out W h)
      rw [HLI.out hs, HLO.out, HHI.out] at SO
      have hns : (s != 0) = false ∨ ((s != 0) = true ∧ (s != 1) = false) := by
        rcases hs with h | h
        · rw [h]; exact .inl rfl
        · rw [h]; exact .inr ⟨rfl, rfl⟩
      clear hs HNO HLI AT CL NE ON EM
      rcases hns with hs1 | ⟨hs1, hs2⟩
      · skip
        go_wp2_with fail
        refine wp_region_held_drew (S := fun W => Below wv.heap.size wv W ∧ ABx w Z q s xn yn W ∧ W.cell? ⟨p, 0, none⟩ = some (.int .u64 x) ∧ W.cell? ⟨p, 1, none⟩ = some (.int .u64 y)) (by kernel_rfl) ?_ (fun hHeld => ?_)
        · exact ⟨(bref wv).drew, R.out.grow (bref wv).drew, HV.out.lo, HV.out.hi⟩
        refine wpAnyH_take (i := 0) (v := ?v1) rfl (by kernel_rfl) (by kernel_rfl) (by kernel_rfl) (fun _ _ _ h => h) (Or.inl ⟨by rfl, ?y1⟩) (by assumption) ?r1
        case y1 => (intro w hSw; have q0 := hSw.2.2.1; have q1 := hSw.2.2.2; (go_simp <;> first | with_reducible rfl | (rw [if_pos (by omega)] <;> with_reducible rfl)))
        try simp only [Act.put, List.getElem_toArray, List.getElem_cons_zero, List.getElem_cons_succ, List.setIfInBounds_toArray, List.set_cons_zero, List.set_cons_succ]
        refine wpAnyH_take (i := 1) rfl (by kernel_rfl) (by kernel_rfl) (by kernel_rfl) (fun _ _ _ h => h) (yieldsIf_load_mid (by rfl) _ _ rfl _ _ rfl (posC Z) _ (fun w h => h.2.1.pos.range) (Tryd.underlying28) rfl (HINF.out)) (by assumption) ?_
        try simp only [Act.put, List.getElem_toArray, List.getElem_cons_zero, List.getElem_cons_succ, List.setIfInBounds_toArray, List.set_cons_zero, List.set_cons_succ]
        refine wpAnyH_take (i := 2) (v := ?v2) rfl (by kernel_rfl) (by kernel_rfl) (by kernel_rfl) (fun _ _ _ h => h) (Or.inl ⟨by rfl, ?y2⟩) (by assumption) ?r2
        case y2 => (intro w hSw; (go_simp <;> first | with_reducible rfl | (rw [if_pos (by omega)] <;> with_reducible rfl)))
        try simp only [Act.put, List.getElem_toArray, List.getElem_cons_zero, List.getElem_cons_succ, List.setIfInBounds_toArray, List.set_cons_zero, List.set_cons_succ]
        refine wpAnyH_take (i := 3) (v := ?v3) rfl (by kernel_rfl) (by kernel_rfl) (by kernel_rfl) (fun _ _ _ h => h) (Or.inl ⟨by rfl, ?y3⟩) (by assumption) ?r3
        case y3 => (intro w hSw; have cc := hSw.2.1.q0; (go_simp <;> first | with_reducible rfl | (rw [if_pos (by omega)] <;> with_reducible rfl)))
        try simp only [Act.put, List.getElem_toArray, List.getElem_cons_zero, List.getElem_cons_succ, List.setIfInBounds_toArray, List.set_cons_zero, List.set_cons_succ]
        refine wpAnyH_take (i := 4) (v := ?v4) rfl (by kernel_rfl) (by kernel_rfl) (by kernel_rfl) (fun _ _ _ h => h) (Or.inl ⟨by rfl, ?y4⟩) (by assumption) ?r4
        case y4 => (intro w hSw; (go_simp <;> first | with_reducible rfl | (rw [if_pos (by omega)] <;> with_reducible rfl)))
        try simp only [Act.put, List.getElem_toArray, List.getElem_cons_zero, List.getElem_cons_succ, List.setIfInBounds_toArray, List.set_cons_zero, List.set_cons_succ]
        refine wpAnyH_take (i := 5) (v := ?v5) rfl (by kernel_rfl) (by kernel_rfl) (by kernel_rfl) (fun _ _ _ h => h) (Or.inl ⟨by rfl, ?y5⟩) (by assumption) ?r5
        case y5 => (intro w hSw; have cc := hSw.2.1.s0; (go_simp <;> first | with_reducible rfl | (rw [if_pos (by omega)] <;> with_reducible rfl)))
        try simp only [Act.put, List.getElem_toArray, List.getElem_cons_zero, List.getElem_cons_succ, List.setIfInBounds_toArray, List.set_cons_zero, List.set_cons_succ]
        refine wpAnyH_take (i := 6) (v := ?v6) rfl (by kernel_rfl) (by kernel_rfl) (by kernel_rfl) (fun _ _ _ h => h) (Or.inl ⟨by rfl, ?y6⟩) (by assumption) ?r6
        case y6 => (intro w hSw; (go_simp <;> first | with_reducible rfl | (rw [if_pos (by omega)] <;> with_reducible rfl)))
        try simp only [Act.put, List.getElem_toArray, List.getElem_cons_zero, List.getElem_cons_succ, List.setIfInBounds_toArray, List.set_cons_zero, List.set_cons_succ]
        refine wpAnyH_take (i := 7) (v := ?v7) rfl (by kernel_rfl) (by kernel_rfl) (by kernel_rfl) (fun _ _ _ h => h) (Or.inl ⟨by rfl, ?y7⟩) (by assumption) ?r7
        case y7 => (intro w hSw; have cc := hSw.2.1.x0; (go_simp <;> first | with_reducible rfl | (rw [if_pos (by omega)] <;> with_reducible rfl)))
        try simp only [Act.put, List.getElem_toArray, List.getElem_cons_zero, List.getElem_cons_succ, List.setIfInBounds_toArray, List.set_cons_zero, List.set_cons_succ]
        refine wpAnyH_take (i := 8) (v := ?v8) rfl (by kernel_rfl) (by kernel_rfl) (by kernel_rfl) (fun _ _ _ h => h) (Or.inl ⟨by rfl, ?y8⟩) (by assumption) ?r8
        case y8 => (intro w hSw; (go_simp <;> first | with_reducible rfl | (rw [if_pos (by omega)] <;> with_reducible rfl)))
        try simp only [Act.put, List.getElem_toArray, List.getElem_cons_zero, List.getElem_cons_succ, List.setIfInBounds_toArray, List.set_cons_zero, List.set_cons_succ]
        refine wpAnyH_take (i := 9) (v := ?v9) rfl (by kernel_rfl) (by kernel_rfl) (by kernel_rfl) (fun _ _ _ h => h) (Or.inl ⟨by rfl, ?y9⟩) (by assumption) ?r9
        case y9 => (intro w hSw; have cc := hSw.2.1.y0; (go_simp <;> first | with_reducible rfl | (rw [if_pos (by omega)] <;> with_reducible rfl)))
        try simp only [Act.put, List.getElem_toArray, List.getElem_cons_zero, List.getElem_cons_succ, List.setIfInBounds_toArray, List.set_cons_zero, List.set_cons_succ]
        refine wpAnyH_ready (rs := [10]) (by kernel_rfl) (by simp) ?_
        refine AllReadyH.cons rfl (fun K hK => ?_) AllReadyH.nil
        rw [if_pos (by rfl)]
        go_simp
        go_at_call 23
        refine (RO.out _).mono ?_
        rintro e wn ⟨rfl, hb⟩
        refine hK.out _ _ (⟨bthen hHeld.1 hb, hHeld.2.1.grow hb, (hb.cell (p := ⟨p, 0, none⟩) (Nat.lt_of_lt_of_le HPL.out hHeld.1.size)).trans hHeld.2.2.1, (hb.cell (p := ⟨p, 1, none⟩) (Nat.lt_of_lt_of_le HPL.out hHeld.1.size)).trans hHeld.2.2.2⟩) (fun hHeld => ?_)
        clear hK K
        try simp only [Act.put, List.getElem_toArray, List.getElem_cons_zero, List.getElem_cons_succ, List.setIfInBounds_toArray, List.set_cons_zero, List.set_cons_succ]
        refine wpAnyH_ready (rs := [11]) (by kernel_rfl) (by simp) ?_
        refine AllReadyH.cons rfl (fun K hK => ?_) AllReadyH.nil
        rw [if_pos (by rfl)]
        go_simp
        go_at_call 22
        refine (RA.out _).mono ?_
        rintro e wn ⟨v, rfl, hv, hb⟩
        refine hK.out _ _ (⟨bthen hHeld.1 hb, hHeld.2.1.grow hb, (hb.cell (p := ⟨p, 0, none⟩) (Nat.lt_of_lt_of_le HPL.out hHeld.1.size)).trans hHeld.2.2.1, (hb.cell (p := ⟨p, 1, none⟩) (Nat.lt_of_lt_of_le HPL.out hHeld.1.size)).trans hHeld.2.2.2⟩) (fun hHeld => ?_)
        clear hK K
        try simp only [Act.put, List.getElem_toArray, List.getElem_cons_zero, List.getElem_cons_succ, List.setIfInBounds_toArray, List.set_cons_zero, List.set_cons_succ]
        refine wpAnyH_ready (rs := [12]) (by kernel_rfl) (by simp) ?_
        refine AllReadyH.cons rfl (fun K hK => ?_) AllReadyH.nil
        rw [if_pos (by rfl)]
        go_simp
        go_at_call 21
        refine (SO.out _ _ _ hv).mono ?_
        rintro e wn2 ⟨rfl, hb⟩
        refine hK.out _ _ (⟨bthen hHeld.1 hb, hHeld.2.1.grow hb, (hb.cell (p := ⟨p, 0, none⟩) (Nat.lt_of_lt_of_le HPL.out hHeld.1.size)).trans hHeld.2.2.1, (hb.cell (p := ⟨p, 1, none⟩) (Nat.lt_of_lt_of_le HPL.out hHeld.1.size)).trans hHeld.2.2.2⟩) (fun hHeld => ?_)
        clear hK K
        try simp only [Act.put, List.getElem_toArray, List.getElem_cons_zero, List.getElem_cons_succ, List.setIfInBounds_toArray, List.set_cons_zero, List.set_cons_succ]
        refine wpAnyH_take (i := 13) (v := ?v10) rfl (by kernel_rfl) (by kernel_rfl) (by kernel_rfl) (fun _ _ _ h => h) (Or.inl ⟨by rfl, ?y10⟩) (by assumption) ?r10
        case y10 => (intro w hSw; (go_simp <;> first | with_reducible rfl | (rw [if_pos (by omega)] <;> with_reducible rfl)))
        try simp only [Act.put, List.getElem_toArray, List.getElem_cons_zero, List.getElem_cons_succ, List.setIfInBounds_toArray, List.set_cons_zero, List.set_cons_succ]
        refine wpAnyH_take (i := 14) (v := ?v11) rfl (by kernel_rfl) (by kernel_rfl) (by kernel_rfl) (fun _ _ _ h => h) (Or.inl ⟨by rfl, ?y11⟩) (by assumption) ?r11
        case y11 => (intro w hSw; (go_simp <;> first | with_reducible rfl | (rw [if_pos (by omega)] <;> with_reducible rfl)))
        try simp only [Act.put, List.getElem_toArray, List.getElem_cons_zero, List.getElem_cons_succ, List.setIfInBounds_toArray, List.set_cons_zero, List.set_cons_succ]
        refine wpAnyH_done (by kernel_rfl) ?_ _
        go_wp2
        go_ret
        exact ⟨rfl, HB.out.trans (hHeld.1.mono HB.out.size)⟩
      · skip
        go_wp2_with fail
        refine wp_region_held_drew (S := fun W => Below wv.heap.size wv W ∧ ABx w Z q s xn yn W ∧ W.cell? ⟨p, 0, none⟩ = some (.int .u64 x) ∧ W.cell? ⟨p, 1, none⟩ = some (.int .u64 y)) (by kernel_rfl) ?_ (fun hHeld => ?_)
        · exact ⟨(bref wv).drew, R.out.grow (bref wv).drew, HV.out.lo, HV.out.hi⟩
        refine wpAnyH_take (i := 0) (v := ?v12) rfl (by kernel_rfl) (by kernel_rfl) (by kernel_rfl) (fun _ _ _ h => h) (Or.inl ⟨by rfl, ?y12⟩) (by assumption) ?r12
        case y12 => (intro w hSw; have q0 := hSw.2.2.1; have q1 := hSw.2.2.2; (go_simp <;> first | with_reducible rfl | (rw [if_pos (by omega)] <;> with_reducible rfl)))
        try simp only [Act.put, List.getElem_toArray, List.getElem_cons_zero, List.getElem_cons_succ, List.setIfInBounds_toArray, List.set_cons_zero, List.set_cons_succ]
        refine wpAnyH_take (i := 1) rfl (by kernel_rfl) (by kernel_rfl) (by kernel_rfl) (fun _ _ _ h => h) (yieldsIf_load_mid (by rfl) _ _ rfl _ _ rfl (posC Z) _ (fun w h => h.2.1.pos.range) (Tryd.underlying28) rfl (HINF.out)) (by assumption) ?_
        try simp only [Act.put, List.getElem_toArray, List.getElem_cons_zero, List.getElem_cons_succ, List.setIfInBounds_toArray, List.set_cons_zero, List.set_cons_succ]
        refine wpAnyH_take (i := 2) (v := ?v13) rfl (by kernel_rfl) (by kernel_rfl) (by kernel_rfl) (fun _ _ _ h => h) (Or.inl ⟨by rfl, ?y13⟩) (by assumption) ?r13
        case y13 => (intro w hSw; (go_simp <;> first | with_reducible rfl | (rw [if_pos (by omega)] <;> with_reducible rfl)))
        try simp only [Act.put, List.getElem_toArray, List.getElem_cons_zero, List.getElem_cons_succ, List.setIfInBounds_toArray, List.set_cons_zero, List.set_cons_succ]
        refine wpAnyH_take (i := 3) (v := ?v14) rfl (by kernel_rfl) (by kernel_rfl) (by kernel_rfl) (fun _ _ _ h => h) (Or.inl ⟨by rfl, ?y14⟩) (by assumption) ?r14
        case y14 => (intro w hSw; have cc := hSw.2.1.q0; (go_simp <;> first | with_reducible rfl | (rw [if_pos (by omega)] <;> with_reducible rfl)))
        try simp only [Act.put, List.getElem_toArray, List.getElem_cons_zero, List.getElem_cons_succ, List.setIfInBounds_toArray, List.set_cons_zero, List.set_cons_succ]
        refine wpAnyH_take (i := 4) (v := ?v15) rfl (by kernel_rfl) (by kernel_rfl) (by kernel_rfl) (fun _ _ _ h => h) (Or.inl ⟨by rfl, ?y15⟩) (by assumption) ?r15
        case y15 => (intro w hSw; (go_simp <;> first | with_reducible rfl | (rw [if_pos (by omega)] <;> with_reducible rfl)))
        try simp only [Act.put, List.getElem_toArray, List.getElem_cons_zero, List.getElem_cons_succ, List.setIfInBounds_toArray, List.set_cons_zero, List.set_cons_succ]
        refine wpAnyH_take (i := 5) (v := ?v16) rfl (by kernel_rfl) (by kernel_rfl) (by kernel_rfl) (fun _ _ _ h => h) (Or.inl ⟨by rfl, ?y16⟩) (by assumption) ?r16
        case y16 => (intro w hSw; have cc := hSw.2.1.s0; (go_simp <;> first | with_reducible rfl | (rw [if_pos (by omega)] <;> with_reducible rfl)))
        try simp only [Act.put, List.getElem_toArray, List.getElem_cons_zero, List.getElem_cons_succ, List.setIfInBounds_toArray, List.set_cons_zero, List.set_cons_succ]
        refine wpAnyH_take (i := 6) (v := ?v17) rfl (by kernel_rfl) (by kernel_rfl) (by kernel_rfl) (fun _ _ _ h => h) (Or.inl ⟨by rfl, ?y17⟩) (by assumption) ?r17
        case y17 => (intro w hSw; (go_simp <;> first | with_reducible rfl | (rw [if_pos (by omega)] <;> with_reducible rfl)))
        try simp only [Act.put, List.getElem_toArray, List.getElem_cons_zero, List.getElem_cons_succ, List.setIfInBounds_toArray, List.set_cons_zero, List.set_cons_succ]
        refine wpAnyH_take (i := 7) (v := ?v18) rfl (by kernel_rfl) (by kernel_rfl) (by kernel_rfl) (fun _ _ _ h => h) (Or.inl ⟨by rfl, ?y18⟩) (by assumption) ?r18
        case y18 => (intro w hSw; have cc := hSw.2.1.x0; (go_simp <;> first | with_reducible rfl | (rw [if_pos (by omega)] <;> with_reducible rfl)))
        try simp only [Act.put, List.getElem_toArray, List.getElem_cons_zero, List.getElem_cons_succ, List.setIfInBounds_toArray, List.set_cons_zero, List.set_cons_succ]
        refine wpAnyH_take (i := 8) (v := ?v19) rfl (by kernel_rfl) (by kernel_rfl) (by kernel_rfl) (fun _ _ _ h => h) (Or.inl ⟨by rfl, ?y19⟩) (by assumption) ?r19
        case y19 => (intro w hSw; (go_simp <;> first | with_reducible rfl | (rw [if_pos (by omega)] <;> with_reducible rfl)))
        try simp only [Act.put, List.getElem_toArray, List.getElem_cons_zero, List.getElem_cons_succ, List.setIfInBounds_toArray, List.set_cons_zero, List.set_cons_succ]
        refine wpAnyH_take (i := 9) (v := ?v20) rfl (by kernel_rfl) (by kernel_rfl) (by kernel_rfl) (fun _ _ _ h => h) (Or.inl ⟨by rfl, ?y20⟩) (by assumption) ?r20
        case y20 => (intro w hSw; have cc := hSw.2.1.y0; (go_simp <;> first | with_reducible rfl | (rw [if_pos (by omega)] <;> with_reducible rfl)))
        try simp only [Act.put, List.getElem_toArray, List.getElem_cons_zero, List.getElem_cons_succ, List.setIfInBounds_toArray, List.set_cons_zero, List.set_cons_succ]
        refine wpAnyH_ready (rs := [10]) (by kernel_rfl) (by simp) ?_
        refine AllReadyH.cons rfl (fun K hK => ?_) AllReadyH.nil
        rw [if_pos (by rfl)]
        go_simp
        go_at_call 23
        refine (RO.out _).mono ?_
        rintro e wn ⟨rfl, hb⟩
        refine hK.out _ _ (⟨bthen hHeld.1 hb, hHeld.2.1.grow hb, (hb.cell (p := ⟨p, 0, none⟩) (Nat.lt_of_lt_of_le HPL.out hHeld.1.size)).trans hHeld.2.2.1, (hb.cell (p := ⟨p, 1, none⟩) (Nat.lt_of_lt_of_le HPL.out hHeld.1.size)).trans hHeld.2.2.2⟩) (fun hHeld => ?_)
        clear hK K
        try simp only [Act.put, List.getElem_toArray, List.getElem_cons_zero, List.getElem_cons_succ, List.setIfInBounds_toArray, List.set_cons_zero, List.set_cons_succ]
        refine wpAnyH_ready (rs := [11]) (by kernel_rfl) (by simp) ?_
        refine AllReadyH.cons rfl (fun K hK => ?_) AllReadyH.nil
        rw [if_pos (by rfl)]
        go_simp
        go_at_call 22
        refine (RA.out _).mono ?_
        rintro e wn ⟨v, rfl, hv, hb⟩
        refine hK.out _ _ (⟨bthen hHeld.1 hb, hHeld.2.1.grow hb, (hb.cell (p := ⟨p, 0, none⟩) (Nat.lt_of_lt_of_le HPL.out hHeld.1.size)).trans hHeld.2.2.1, (hb.cell (p := ⟨p, 1, none⟩) (Nat.lt_of_lt_of_le HPL.out hHeld.1.size)).trans hHeld.2.2.2⟩) (fun hHeld => ?_)
        clear hK K
        try simp only [Act.put, List.getElem_toArray, List.getElem_cons_zero, List.getElem_cons_succ, List.setIfInBounds_toArray, List.set_cons_zero, List.set_cons_succ]
        refine wpAnyH_ready (rs := [12]) (by kernel_rfl) (by simp) ?_
        refine AllReadyH.cons rfl (fun K hK => ?_) AllReadyH.nil
        rw [if_pos (by rfl)]
        go_simp
        go_at_call 21
        refine (SO.out _ _ _ hv).mono ?_
        rintro e wn2 ⟨rfl, hb⟩
        refine hK.out _ _ (⟨bthen hHeld.1 hb, hHeld.2.1.grow hb, (hb.cell (p := ⟨p, 0, none⟩) (Nat.lt_of_lt_of_le HPL.out hHeld.1.size)).trans hHeld.2.2.1, (hb.cell (p := ⟨p, 1, none⟩) (Nat.lt_of_lt_of_le HPL.out hHeld.1.size)).trans hHeld.2.2.2⟩) (fun hHeld => ?_)
        clear hK K
        try simp only [Act.put, List.getElem_toArray, List.getElem_cons_zero, List.getElem_cons_succ, List.setIfInBounds_toArray, List.set_cons_zero, List.set_cons_succ]
        refine wpAnyH_take (i := 13) (v := ?v21) rfl (by kernel_rfl) (by kernel_rfl) (by kernel_rfl) (fun _ _ _ h => h) (Or.inl ⟨by rfl, ?y21⟩) (by assumption) ?r21
        case y21 => (intro w hSw; (go_simp <;> first | with_reducible rfl | (rw [if_pos (by omega)] <;> with_reducible rfl)))
        try simp only [Act.put, List.getElem_toArray, List.getElem_cons_zero, List.getElem_cons_succ, List.setIfInBounds_toArray, List.set_cons_zero, List.set_cons_succ]
        refine wpAnyH_take (i := 14) (v := ?v22) rfl (by kernel_rfl) (by kernel_rfl) (by kernel_rfl) (fun _ _ _ h => h) (Or.inl ⟨by rfl, ?y22⟩) (by assumption) ?r22
        case y22 => (intro w hSw; (go_simp <;> first | with_reducible rfl | (rw [if_pos (by omega)] <;> with_reducible rfl)))
        try simp only [Act.put, List.getElem_toArray, List.getElem_cons_zero, List.getElem_cons_succ, List.setIfInBounds_toArray, List.set_cons_zero, List.set_cons_succ]
        refine wpAnyH_done (by kernel_rfl) ?_ _
        go_wp2
        go_ret
        exact ⟨rfl, HB.out.trans (hHeld.1.mono HB.out.size)⟩
    · have n1 : (s != 0) = true := by simpa using fun h => hs (.inl h)
      have n2 : (s != 1) = true := by simpa using fun h => hs (.inr h)
      rw [decide_eq_true (HNO.out hs)] at EM
      have v0 := HV.out.lo
      have v1 := HV.out.hi
      go_wp2_with (go_at_call 20; refine (EM.out _).mono ?_; rintro e w7 ⟨rfl, hb⟩)
      go_ret
      exact ⟨rfl, bthen HB.out hb⟩
end Go.Proofs.YtilhicohfnaclaaDoor.attackOn
