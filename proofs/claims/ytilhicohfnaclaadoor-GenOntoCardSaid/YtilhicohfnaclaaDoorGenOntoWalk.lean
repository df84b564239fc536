/-
  The walk of the law GenOnto.
-/
import Derived.Test.YtilhicohfnaclaaDoorGen7
import Derived.Test.YtilhicohfnaclaaDoorRefCan
import Derived.Test.YtilhicohfnaclaaDoorAtkRef2
namespace Go.Proofs.YtilhicohfnaclaaDoor.genOnto
open Go.RowKit
set_option maxRecDepth 100000
set_option linter.unusedVariables false
set_option linter.unusedSimpArgs false

theorem wp_append_rows {P : Program} {o : Oper} {a : Act} {w : World} {K : Act → World → Prop} {Q : Exit → Act → World → Prop}
    (s x : Operand) (t : TypeId) (ho : o.op = .call { callee := .builtin .append, args := #[s, x], argTypes := #[t, t] })
    (base : Nat) (e : TypeId) (i : TypeInfo) (z : Value) (size bytes : Nat) (ht : P.underlying t = some (.slice e)) (hi : P.info? e = some i) (hz : i.zero = some z)
    (hsize : i.size = size) (hby : i.bytes = bytes) (hzs : z.cells.size = size) (hsz : 0 < size)
    (v : Value) (n : Nat) (xs : List Value) (hs : a.eval s = v) (hown : w.ownsRow base e size v n xs)
    (v2 : Value) (m base2 : Nat) (ys : List Value) (hx : a.eval x = v2) (hown2 : w.ownsRow base2 e size v2 m ys) (h1 : ∀ u ∈ ys, u.oneCell' = true)
    (h63 : n + m ≤ maxLen) (hbytes : (n + m) * bytes ≤ 140737488355328) (hbase : base ≤ w.heap.size)
    (hK : ∀ v' w', w'.ownsRow base e size v' (n + m) (xs ++ ys) → w.grownBy w' v.ownBlock → K (a.put o.dst v') w') :
    Oper.wp P o a w K Q := by
  have hl := hown2.1
  have hcells : ∀ g, v2.ownBlock = some g → ∀ j u, ys[j]? = some u → w.cell? ((⟨g, 0, none⟩ : Addr).add j) = some u := fun g hg => hown2.cells (g := g) hg
  rcases hown2.2 with ⟨rfl, rfl⟩ | ⟨g, cap, cur, rfl, -⟩
  · rw [Nat.zero_mul] at hl
    obtain rfl : ys = [] := List.length_eq_zero_iff.1 hl
    have hr := run_append_owned_none (P := P) (w := w) base t o.type e i size ht hi v n xs hown
    unfold Oper.wp execOp
    simp only [ho, resolve, invoke, builtin, Sem.run_bind, Sem.run_pure, Result.andThen_ok, List.map_toArray, List.map_cons, List.map_nil, hs, hx, hr]
    exact hK v w (by simpa using hown) ⟨rfl, rfl, rfl, Nat.le_refl _, fun _ _ _ => rfl⟩
  · exact wp_append_own w s x t ho base e i z size bytes ht hi hz hsize hby hzs hsz v n xs hs hown ⟨g, 0, none⟩ m cap ys hx hl (hcells g rfl) h1 h63 hbytes hbase (fun v' w' h2 h3 _ => hK v' w' h2 h3)
structure ABo (w : World) (Z : List Int) (xn yn : Int) (W : World) : Prop where
  pos : PosAt W w.heap.size Z
  x0 : W.cell? ⟨w.heap.size + 1, 0, none⟩ = some (.int .u64 xn)
  y0 : W.cell? ⟨w.heap.size + 1, 1, none⟩ = some (.int .u64 yn)
  f0 : W.frozen? ⟨w.heap.size + 1, 0, none⟩ = false
  f1 : W.frozen? ⟨w.heap.size + 1, 1, none⟩ = false
  lt : w.heap.size + 1 < W.heap.size
theorem ABo.grow {w W W' : World} {Z : List Int} {xn yn : Int} (h : ABo w Z xn yn W) (hb : Below W.heap.size W W') : ABo w Z xn yn W' := by
  obtain ⟨h0, h3, h4, h5, h6, h7⟩ := h
  have hs := hb.size
  exact ⟨h0.grow hb, (hb.cell (p := ⟨w.heap.size + 1, 0, none⟩) h7).trans h3, (hb.cell (p := ⟨w.heap.size + 1, 1, none⟩) h7).trans h4, (hb.frozen (p := ⟨w.heap.size + 1, 0, none⟩) h7).trans h5, (hb.frozen (p := ⟨w.heap.size + 1, 1, none⟩) h7).trans h6, by omega⟩
theorem ABo.start (w : World) (z : List Int) (a b : Int) : ABo w z a b ((w.alloc (.cells (posC z).toArray 28)).alloc (.cells #[.int .u64 a, .int .u64 b] 32)) := by
  refine ⟨(PosAt.new w z).grow (ball (bref _) _), ?_, ?_, ?_, ?_, by simp⟩
  all_goals go_simp
theorem ABo.setS {w W : World} {Z : List Int} {xn yn : Int} (h : ABo w Z xn yn W) (a b : Int) : ABo w Z a b ((W.setCell ⟨w.heap.size + 1, 0, none⟩ (.int .u64 a)).setCell ⟨w.heap.size + 1, 1, none⟩ (.int .u64 b)) := by
  obtain ⟨h0, h3, h4, h5, h6, h7⟩ := h
  exact ⟨(h0.other (by omega) _ _).other (by omega) _ _, by go_simp, by go_simp, by simpa using h5, by simpa using h6, by simpa using h7⟩

set_option maxHeartbeats 8000000 in
theorem walk (z : List Int) (a b : Int) (hz : z.length = 98) (h8 : I8s z) (g3 : (Lit.int .u64 a).wf = true) (g4 : (Lit.int .u64 b).wf = true) (w : World) (hT : Tab w) (hH : Home w) :
    Calls Tryd.prog 10 #[.agg (posC z).toArray, .agg #[.int .u64 a, .int .u64 b]] w fun e w' => e = .returned (.bool true) ∧ Below w.heap.size w w' := by
  obtain ⟨a0, a1⟩ := bounds_u64 g3
  obtain ⟨b0, b1⟩ := bounds_u64 g4
  obtain ⟨i0, hi, hz0, hz1, hz2⟩ := info_parts infoGv
  have LI := Lib.hid (fun W (t : Tab W) (h : Home W) => lists_true W t h)
  have CK := Lib.hid (fun W => refCheck_any z hz h8 W)
  have HINF := Lib.hid (show (Tryd.prog.info? 28).map (·.size) = some (posC z).length by rw [posC_len, hz]; exact infoPos)
  have HT := Lib.hid hT
  have HH := Lib.hid hH
  have R := Lib.hid (ABo.start w z a b)
  have HB := Lib.hid (ball (ball (bref w) (.cells (posC z).toArray 28)) (.cells #[.int .u64 a, .int .u64 b] 32))
  clear hT hH g3 g4
  by_cases hc : checkF z = 0
  · have hcl := chk8_clean z hc
    have hs := chk8_side z hc
    have NE := Lib.hid (fun W => new_brd z hz h8 W)
    rw [newZ_self z hz hcl] at NE
    have e1 := real_lo a b a0 a1
    have e2 := real_hi a b b0 b1
    have hsq := realN_sq a b
    generalize realN a b = n at *
    rw [hc] at CK
    have GA := Lib.hid (fun g W (h : Brd W g z) (t : Tab W) => genAll_any g z (at8 z 97) hs rfl hz h8 W h t)
    have BOg := Lib.hid (fun g W (h : Brd W g z) (t : Tab W) => board_any g z (at8 z 97) n hs rfl hsq hz h8 W h t)
    have DRg := Lib.hid (fun g W (h : Brd W g z) (t : Tab W) => drops_any g z (at8 z 97) n hs rfl hsq hz h8 W h t)
    have hfil := gen_filter z (at8 z 97) n
    have hgl := genG_len z (at8 z 97)
    have hbl := brdG_len z (at8 z 97) n
    have hdl : (drpG z (at8 z 97) n).length ≤ 567 := drpL_len z (at8 z 97) n 7
    have HAg := Lib.hid (fun t W => has_any n t hsq W)
    clear hc hcl hs a0 a1 b0 b1 hsq hz h8
    generalize genG z (at8 z 97) = L at *
    generalize brdG z (at8 z 97) n = L1 at *
    generalize drpG z (at8 z 97) n = L2 at *
    have HFIL := Lib.hid hfil
    clear hfil
    have SA := Lib.hid (fun v1 v2 B1 B2 W h1 h2 => same_gen (L1 ++ L2) (by rw [List.length_append]; omega) v1 v2 B1 B2 W h1 h2)
    generalize loW n = xn at *
    generalize hiW n = yn at *
    go_enter Tryd.func10, Tryd.ntmps10
    go_upto_region 1 with fail
    generalize (w.alloc (.cells (posC z).toArray 28)).alloc (.cells #[.int .u64 a, .int .u64 b] 32) = w0 at *
    go_upto_region 6 with (first
      | (go_at_call 44; refine (LI.out _ (HT.out.grow HB.out) (HH.out.grow HB.out)).mono ?_; rintro e w1 ⟨rfl, hb⟩; replace R := Lib.hid (R.out.grow hb); replace HB := Lib.hid (bthen HB.out hb); clear hb)
      | (refine wpList_load_mid rfl 28 _ rfl w.heap.size 0 rfl (posC z) _ R.out.pos.range Tryd.underlying28 rfl HINF.out ?_)
      | (go_at_call 33; refine (CK.out _).mono ?_; rintro e w2 ⟨rfl, hb⟩; replace R := Lib.hid (R.out.grow hb); replace HB := Lib.hid (bthen HB.out hb); clear hb)
      | (go_at_call 19; refine (NE.out _).mono ?_; rintro e w3 ⟨g, rfl, hg, hbd, hb⟩; have HGL := Lib.hid (Nat.le_trans R.out.lt hg); replace R := Lib.hid (R.out.grow hb); replace HB := Lib.hid (bthen HB.out hb); clear hb; clear hg; have HBD := Lib.hid (show BrdAt w3 g z (setAt z) from hbd); clear hbd))
    have c0 := R.out.x0
    have c1 := R.out.y0
    have f0 := R.out.f0
    have f1 := R.out.f1
    have hlt := R.out.lt
    go_upto_region 7 with fail
    replace R := Lib.hid (R.out.setS xn yn)
    replace HB := Lib.hid (show Below w.heap.size w ((w3.setCell ⟨w.heap.size + 1, 0, none⟩ (.int .u64 xn)).setCell ⟨w.heap.size + 1, 1, none⟩ (.int .u64 yn)) from (HB.out.setCell (by simp) _).setCell (by simp) _)
    replace HBD := Lib.hid (show BrdAt ((w3.setCell ⟨w.heap.size + 1, 0, none⟩ (.int .u64 xn)).setCell ⟨w.heap.size + 1, 1, none⟩ (.int .u64 yn)) g z (setAt z) by
      unfold BrdAt
      have := HGL.out
      rw [heap_setCell_other _ _ _ _ (by dsimp only; omega), heap_setCell_other _ _ _ _ (by dsimp only; omega)]
      exact HBD.out)
    clear c0 c1 f0 f1 hlt e1 e2 LI CK NE HH
    generalize (w3.setCell ⟨w.heap.size + 1, 0, none⟩ (.int .u64 xn)).setCell ⟨w.heap.size + 1, 1, none⟩ (.int .u64 yn) = w4 at *
    go_wp2_with (go_at_call 45; refine (GA.out _ _ HBD.out (HT.out.grow HB.out)).mono ?_; rintro e w5 ⟨v, rfl, hv, hb⟩; obtain ⟨ao, cap, rfl, hp⟩ := hv.uni; replace R := Lib.hid (R.out.grow hb); replace HB := Lib.hid (bthen HB.out hb); replace HBD := Lib.hid (BrdAt.grow HBD.out hb); clear hb hv)
    have HP := Lib.hid (show L.length ≠ 0 → ∃ g2, ao = some ⟨g2, 0, none⟩ ∧ g2 < w5.heap.size ∧ ∀ (j : Nat) (hj : j < L.length), w5.rangeAt g2 (j * 4) L[j].cells from fun h => by
      obtain ⟨g2, x1, x2, x3, x4⟩ := hp h
      exact ⟨g2, x1, x3, x4⟩)
    clear hp GA
    go_loopw [6, 26] (fun v i wr => ∃ j : Nat, j ≤ L.length ∧ i = .int .i64 j ∧ OwnG wr w5.heap.size v ((L.take j).filter (ontoB n)) ∧ Below w5.heap.size w5 wr) (fun _ i _ => L.length - (intOf i).toNat)
    case atStart => exact ⟨0, Nat.zero_le _, rfl, World.ownsRow_nil _ _ _ _, bref _⟩
    case round =>
      obtain ⟨j, hj, rfl, hO, hW⟩ := hrel
      have HO := Lib.hid hO
      have HW := Lib.hid hW
      by_cases hlt : j < L.length
      · obtain ⟨g2, rfl, hg2, hc⟩ := HP.out (by omega)
        have hcl := gv_cells4 (range_grow (hc j hlt) hg2 hW)
        have htk : L.take (j + 1) = L.take j ++ [L[j]] := List.take_succ_eq_append_getElem hlt
        have hfl : ((L.take j).filter (ontoB n)).length ≤ 13689 := Nat.le_trans (List.length_filter_le _ _) (by rw [List.length_take]; omega)
        have hx0 := (R.out.grow hW).x0
        have hy0 := (R.out.grow hW).y0
        have hlt5 := (R.out.grow hW).lt
        have hnf : (L.take (j + 1)).filter (ontoB n) = (L.take j).filter (ontoB n) ++ (if ontoB n L[j] = true then [L[j]] else []) := by
          rw [htk, List.filter_append, List.filter_cons]
          rfl
        have HNF := Lib.hid hnf
        have HA := Lib.hid (fun W => HAg.out L[j].t W)
        rw [has_test n L[j].t, show (decide (0 ≤ L[j].t ∧ L[j].t < 81) && n.testBit L[j].t.toNat) = ontoB n L[j] from rfl] at HA
        have hs5 := hW.size
        clear hc htk hnf hO hW
        generalize (L.take j).filter (ontoB n) = LF at *
        cases hon : ontoB n L[j] with
        | true =>
          rw [hon] at HA
          have HON := Lib.hid hon
          clear hon
          generalize L[j] = m at *
          obtain ⟨f, t, d, p⟩ := m
          dsimp only at hcl HA
          obtain ⟨k0, k1, k2, k3⟩ := hcl
          go_wp2_with (first
            | (go_at_call 26; refine (HA.out _).mono ?_; rintro e w6 ⟨rfl, hb⟩; have q0 : w6.cell? ⟨wr.heap.size, 0, none⟩ = some (.int .i64 f) := (hb.cell (p := ⟨wr.heap.size, 0, none⟩) (by simp)).trans (by go_simp); have q1 : w6.cell? ⟨wr.heap.size, 1, none⟩ = some (.int .i64 t) := (hb.cell (p := ⟨wr.heap.size, 1, none⟩) (by simp)).trans (by go_simp); have q2 : w6.cell? ⟨wr.heap.size, 2, none⟩ = some (.int .i64 d) := (hb.cell (p := ⟨wr.heap.size, 2, none⟩) (by simp)).trans (by go_simp); have q3 : w6.cell? ⟨wr.heap.size, 3, none⟩ = some (.bool p) := (hb.cell (p := ⟨wr.heap.size, 3, none⟩) (by simp)).trans (by go_simp); have HO6 := Lib.hid (HO.out.grow (bthen (ball (bref wr) (.cells #[.int .i64 f, .int .i64 t, .int .i64 d, .bool p] 70)) hb)); have s6 := hb.size)
            | (at_builtin; refine wpList_append_where rfl _ _ 66 rfl w5.heap.size 70 i0 (.agg #[.int .i64 0, .int .i64 0, .int .i64 0, .bool false]) 4 32 Tryd.underlying66 hi hz0 hz1 hz2 rfl (by decide) _ _ _ rfl (HO6.out.alloc _) ⟨w6.heap.size, 0, none⟩ 1 1 (by decide) (Gv.cells ⟨f, t, d, p⟩) rfl rfl (alloc_gv w6 _) (gv_ones _) (by simp [maxLen]; omega) (by omega) (by simp at s6 ⊢; omega) ?_; rintro v3 w7 ho3 hg3 hf3))
          go_roundw
          case rel => exact ⟨j + 1, by omega, by go_num, by rw [HNF.out, HON.out, if_pos rfl]; unfold OwnG; rw [gvC_snoc, List.length_append]; exact ho3, (HW.out.trans ((ball (bthen (ball (bref wr) _) hb) _).mono HW.out.size)).grown hg3 (by simp at s6 ⊢; omega) (fun k hk => (HO6.out.lt k hk).1)⟩
          case measure => simp [intOf]; omega
        | false =>
          rw [hon] at HA
          have HON := Lib.hid hon
          clear hon
          generalize L[j] = m at *
          obtain ⟨f, t, d, p⟩ := m
          dsimp only at hcl HA
          obtain ⟨k0, k1, k2, k3⟩ := hcl
          go_wp2_with (go_at_call 26; refine (HA.out _).mono ?_; rintro e w6 ⟨rfl, hb⟩)
          go_roundw
          case rel => exact ⟨j + 1, by omega, by go_num, by rw [HNF.out, HON.out, if_neg (by decide), List.append_nil]; exact HO.out.grow (bthen (ball (bref wr) _) hb), HW.out.trans ((bthen (ball (bref wr) _) hb).mono HW.out.size)⟩
          case measure => simp [intOf]; omega
      · obtain rfl : j = L.length := by omega
        rw [List.take_length, HFIL.out] at hO
        have HO6 := Lib.hid hO
        have HBV := Lib.hid (show BrdAt wr g z (setAt z) from BrdAt.grow HBD.out hW)
        have HBB := Lib.hid (bthen HB.out hW)
        have R2 := R.out.grow hW
        have HX0 := Lib.hid R2.x0
        have HY0 := Lib.hid R2.y0
        have HS0 := Lib.hid (show (⟨w.heap.size + 1, 0, none⟩ : Addr).block < wr.heap.size from R2.lt)
        have HS1 := Lib.hid (show (⟨w.heap.size + 1, 1, none⟩ : Addr).block < wr.heap.size from R2.lt)
        have BO := Lib.hid (fun W h t => BOg.out g W h t)
        have DR := Lib.hid (fun W h t => DRg.out g W h t)
        clear hO hW HO HW R2 R HP BOg DRg HAg HB HBD HFIL
        generalize u6 = v6 at *
        generalize wr = wv at *
        go_wp2_with fail
        refine wp_region_held_drew (S := fun W => Below wv.heap.size wv W) (by kernel_rfl) ?_ (fun hHeld => ?_)
        · exact (bref wv).drew
        refine wpAnyH_take (i := 0) (v := ?v1) rfl (by kernel_rfl) (by kernel_rfl) (by kernel_rfl) (fun _ _ _ h => h) (Or.inl ⟨by rfl, ?y1⟩) (by assumption) ?r1
        case y1 => (intro w hSw; (go_simp <;> first | with_reducible rfl | (rw [if_pos (by omega)] <;> with_reducible rfl)))
        try simp only [Act.put, List.getElem_toArray, List.getElem_cons_zero, List.getElem_cons_succ, List.setIfInBounds_toArray, List.set_cons_zero, List.set_cons_succ]
        refine wpAnyH_take (i := 1) (v := ?v2) rfl (by kernel_rfl) (by kernel_rfl) (by kernel_rfl) (fun _ _ _ h => h) (Or.inl ⟨by rfl, ?y2⟩) (by assumption) ?r2
        case y2 => (intro w hSw; have q0 := (hSw.cell HS0.out).trans HX0.out; have q1 := (hSw.cell HS1.out).trans HY0.out; (go_simp <;> first | with_reducible rfl | (rw [if_pos (by omega)] <;> with_reducible rfl)))
        try simp only [Act.put, List.getElem_toArray, List.getElem_cons_zero, List.getElem_cons_succ, List.setIfInBounds_toArray, List.set_cons_zero, List.set_cons_succ]
        refine wpAnyH_take (i := 3) (v := ?v3) rfl (by kernel_rfl) (by kernel_rfl) (by kernel_rfl) (fun _ _ _ h => h) (Or.inl ⟨by rfl, ?y3⟩) (by assumption) ?r3
        case y3 => (intro w hSw; (go_simp <;> first | with_reducible rfl | (rw [if_pos (by omega)] <;> with_reducible rfl)))
        try simp only [Act.put, List.getElem_toArray, List.getElem_cons_zero, List.getElem_cons_succ, List.setIfInBounds_toArray, List.set_cons_zero, List.set_cons_succ]
        refine wpAnyH_take (i := 4) (v := ?v4) rfl (by kernel_rfl) (by kernel_rfl) (by kernel_rfl) (fun _ _ _ h => h) (Or.inl ⟨by rfl, ?y4⟩) (by assumption) ?r4
        case y4 => (intro w hSw; have q0 := (hSw.cell HS0.out).trans HX0.out; have q1 := (hSw.cell HS1.out).trans HY0.out; (go_simp <;> first | with_reducible rfl | (rw [if_pos (by omega)] <;> with_reducible rfl)))
        try simp only [Act.put, List.getElem_toArray, List.getElem_cons_zero, List.getElem_cons_succ, List.setIfInBounds_toArray, List.set_cons_zero, List.set_cons_succ]
        refine wpAnyH_take (i := 7) (v := ?v5) rfl (by kernel_rfl) (by kernel_rfl) (by kernel_rfl) (fun _ _ _ h => h) (Or.inl ⟨by rfl, ?y5⟩) (by assumption) ?r5
        case y5 => (intro w hSw; (go_simp <;> first | with_reducible rfl | (rw [if_pos (by omega)] <;> with_reducible rfl)))
        try simp only [Act.put, List.getElem_toArray, List.getElem_cons_zero, List.getElem_cons_succ, List.setIfInBounds_toArray, List.set_cons_zero, List.set_cons_succ]
        refine wpAnyH_ready (rs := [2]) (by kernel_rfl) (by simp) ?_
        refine AllReadyH.cons rfl (fun K hK => ?_) AllReadyH.nil
        rw [if_pos (by rfl)]
        have hsz1 := hHeld.size
        go_simp
        go_at_call 49
        refine (BO.out _ (BrdAt.grow HBV.out hHeld) (HT.out.grow (bthen HBB.out hHeld))).mono ?_
        rintro e wn1 ⟨v1, rfl, ho1, hb⟩
        refine hK.out _ _ (bthen hHeld hb) (fun hHeld => ?_)
        clear hK K
        have HO1 := Lib.hid (ho1.mono hsz1)
        clear ho1 hsz1 hb
        try simp only [Act.put, List.getElem_toArray, List.getElem_cons_zero, List.getElem_cons_succ, List.setIfInBounds_toArray, List.set_cons_zero, List.set_cons_succ]
        refine wpAnyH_ready (rs := [5]) (by kernel_rfl) (by simp) ?_
        refine AllReadyH.cons rfl (fun K hK => ?_) AllReadyH.nil
        rw [if_pos (by rfl)]
        go_simp
        go_at_call 50
        refine (DR.out _ (BrdAt.grow HBV.out hHeld) (HT.out.grow (bthen HBB.out hHeld))).mono ?_
        rintro e wn2 ⟨v2, rfl, ho2, hb⟩
        refine hK.out _ _ (bthen hHeld hb) (fun hHeld => ?_)
        clear hK K
        replace HO1 := Lib.hid (HO1.out.grow hb)
        clear hb
        try simp only [Act.put, List.getElem_toArray, List.getElem_cons_zero, List.getElem_cons_succ, List.setIfInBounds_toArray, List.set_cons_zero, List.set_cons_succ]
        refine wpAnyH_ready (rs := [6]) (by kernel_rfl) (by simp) ?_
        refine AllReadyH.cons rfl (fun K hK => ?_) AllReadyH.nil
        rw [if_pos (by rfl)]
        refine wp_append_rows _ _ 66 rfl wv.heap.size 70 i0 (.agg #[.int .i64 0, .int .i64 0, .int .i64 0, .bool false]) 4 32 Tryd.underlying66 hi hz0 hz1 hz2 rfl (by decide) v1 L1.length (gvC L1) rfl HO1.out v2 L2.length _ (gvC L2) rfl ho2 (gvC_ones _) (by simp [maxLen]; omega) (by omega) hHeld.size ?_
        intro v3 wn3 ho3 hg3
        refine hK.out _ _ (hHeld.grown hg3 hHeld.size (fun k hk => (HO1.out.lt k hk).1)) (fun hHeld => ?_)
        clear hK K
        have HO3 := Lib.hid (show OwnG wn3 wv.heap.size v3 (L1 ++ L2) by unfold OwnG; rw [gvC_app, List.length_append]; exact ho3)
        clear ho3 hg3 ho2 HO1
        try simp only [Act.put, List.getElem_toArray, List.getElem_cons_zero, List.getElem_cons_succ, List.setIfInBounds_toArray, List.set_cons_zero, List.set_cons_succ]
        refine wpAnyH_ready (rs := [8]) (by kernel_rfl) (by simp) ?_
        refine AllReadyH.cons rfl (fun K hK => ?_) AllReadyH.nil
        rw [if_pos (by rfl)]
        go_simp
        go_at_call 47
        refine (SA.out _ _ _ _ _ HO3.out (HO6.out.grow hHeld)).mono ?_
        rintro e wn4 ⟨rfl, hb⟩
        refine hK.out _ _ (bthen hHeld hb) (fun hHeld => ?_)
        clear hK K
        try simp only [Act.put, List.getElem_toArray, List.getElem_cons_zero, List.getElem_cons_succ, List.setIfInBounds_toArray, List.set_cons_zero, List.set_cons_succ]
        refine wpAnyH_take (i := 9) (v := ?v6) rfl (by kernel_rfl) (by kernel_rfl) (by kernel_rfl) (fun _ _ _ h => h) (Or.inl ⟨by rfl, ?y6⟩) (by assumption) ?r6
        case y6 => (intro w hSw; (go_simp <;> first | with_reducible rfl | (rw [if_pos (by omega)] <;> with_reducible rfl)))
        try simp only [Act.put, List.getElem_toArray, List.getElem_cons_zero, List.getElem_cons_succ, List.setIfInBounds_toArray, List.set_cons_zero, List.set_cons_succ]
        refine wpAnyH_done (by kernel_rfl) ?_ _
        go_wp2
        go_ret
        exact ⟨rfl, bthen HBB.out hHeld⟩
  · have bc : (checkF z != 0) = true := by simpa using hc
    clear hc hz h8 a0 a1 b0 b1
    generalize checkF z = c at *
    go_enter Tryd.func10, Tryd.ntmps10
    go_upto_region 1 with fail
    generalize (w.alloc (.cells (posC z).toArray 28)).alloc (.cells #[.int .u64 a, .int .u64 b] 32) = w0 at *
    go_wp2_with (first
      | (go_at_call 44; refine (LI.out _ (HT.out.grow HB.out) (HH.out.grow HB.out)).mono ?_; rintro e w1 ⟨rfl, hb⟩; replace R := Lib.hid (R.out.grow hb); replace HB := Lib.hid (bthen HB.out hb); clear hb)
      | (refine wpList_load_mid rfl 28 _ rfl w.heap.size 0 rfl (posC z) _ R.out.pos.range Tryd.underlying28 rfl HINF.out ?_)
      | (go_at_call 33; refine (CK.out _).mono ?_; rintro e w2 ⟨rfl, hb⟩; replace R := Lib.hid (R.out.grow hb); replace HB := Lib.hid (bthen HB.out hb); clear hb))
    go_ret
    exact ⟨rfl, HB.out⟩
end Go.Proofs.YtilhicohfnaclaaDoor.genOnto
