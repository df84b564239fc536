/-
  gen's Drops and All.
-/
import Derived.Test.YtilhicohfnaclaaDoorGen2
import Derived.Test.YtilhicohfnaclaaDoorGen3
import Derived.Laws.OwnMore
namespace Go.Proofs.YtilhicohfnaclaaDoor
open Go.RowKit
set_option maxRecDepth 100000
set_option linter.unusedVariables false
set_option linter.unusedSimpArgs false

def drpI (k : Nat) (l : List Int) : List Gv := l.map fun t => ⟨0, t, 1 + (k : Int), false⟩
def drpS (z : List Int) (s : Int) (onto k : Nat) : List Int := if handF z s (1 + (k : Int)) < 1 then [] else sqI (freeN z s (1 + (k : Int)) &&& onto)
def drpL (z : List Int) (s : Int) (onto k : Nat) : List Gv := (List.range k).flatMap fun k => drpI k (drpS z s onto k)
/-- The drops of a side, onto some squares. -/
def drpG (z : List Int) (s : Int) (onto : Nat) : List Gv := drpL z s onto 7
theorem drpI_snoc (k : Nat) (l : List Int) (t : Int) : drpI k (l ++ [t]) = drpI k l ++ [⟨0, t, 1 + (k : Int), false⟩] := by simp [drpI]
theorem drpL_step (z : List Int) (s : Int) (onto k : Nat) : drpL z s onto (k + 1) = drpL z s onto k ++ drpI k (drpS z s onto k) := by
  unfold drpL
  rw [List.range_succ, List.flatMap_append]
  simp
theorem drpS_len (z : List Int) (s : Int) (onto k : Nat) : (drpS z s onto k).length ≤ 81 := by
  unfold drpS
  split
  · simp
  · exact sqI_le _
theorem drpI_len (k : Nat) (l : List Int) : (drpI k l).length = l.length := by simp [drpI]
theorem drpL_len (z : List Int) (s : Int) (onto : Nat) : ∀ k, (drpL z s onto k).length ≤ 81 * k
  | 0 => by simp [drpL]
  | k + 1 => by
    have ih := drpL_len z s onto k
    have h := drpS_len z s onto k
    rw [drpL_step, List.length_append, drpI_len]
    omega
set_option maxHeartbeats 8000000 in
theorem drops_any (b : Nat) (z : List Int) (s : Int) (onto : Nat) (hs : s = 0 ∨ s = 1) (h97 : at8 z 97 = s) (hon : Sq onto) (hz : z.length = 98) (h8 : I8s z) (w : World) (hb : Brd w b z) (hT : Tab w) :
    Calls Tryd.prog 50 #[.pointer (some ⟨b, 0, none⟩), .agg #[.int .u64 (loW onto), .int .u64 (hiW onto)]] w fun e w' => ∃ v, e = .returned v ∧ OwnG w' w.heap.size v (drpG z s onto) ∧ Below w.heap.size w w' := by
  obtain ⟨i0, hi, hz0, hz1, hz2⟩ := info_parts infoGv
  have hgt : 1 < w.heap.size := block_lt_of_cell (hT 0 (by omega))
  have HGT := Lib.hid hgt
  have HON := Lib.hid hon
  have HZ := Lib.hid hz
  have H8 := Lib.hid h8
  have HT := Lib.hid hT
  have c97 := hb.cell hz 97 (by omega)
  rw [h97] at c97
  have hw1 : IntKind.i64.wrap s = s := by rw [wrap_i64_eq]; unfold wrap64; omega
  have hw2 : wrap64 s = s := by unfold wrap64; omega
  have HBD := Lib.hid (show BrdAt w b z (setAt z) from hb)
  have zb := hb.lt
  unfold drpG
  clear hon hs h97 hz h8 hb hT hgt
  generalize hll : loW onto = ol at *
  generalize hlh : hiW onto = oh at *
  have HOL := Lib.hid hll
  have HOH := Lib.hid hlh
  clear hll hlh
  have M0 := Lib.hid (show (w.alloc (.cells #[.int .u64 ol, .int .u64 oh] 32)).cell? ⟨w.heap.size, 0, none⟩ = some (.int .u64 ol) by go_simp)
  have M1 := Lib.hid (show (w.alloc (.cells #[.int .u64 ol, .int .u64 oh] 32)).cell? ⟨w.heap.size, 1, none⟩ = some (.int .u64 oh) by go_simp)
  have HW0 := Lib.hid (show w.heap.size < (w.alloc (.cells #[.int .u64 ol, .int .u64 oh] 32)).heap.size by simp)
  replace HBD := Lib.hid (HBD.out.grow (ball (bref w) (.cells #[.int .u64 ol, .int .u64 oh] 32)))
  have HB := Lib.hid (ball (bref w) (.cells #[.int .u64 ol, .int .u64 oh] 32))
  go_enter Tryd.func50, Tryd.ntmps50
  go_upto_region 3 with fail
  generalize w.alloc (.cells #[.int .u64 ol, .int .u64 oh] 32) = w3 at *
  go_wp2_with fail
  clear c97
  go_loopw [5, 17] (fun v i wr => ∃ k : Nat, k ≤ 7 ∧ i = .int .i64 k ∧ OwnG wr w3.heap.size v (drpL z s onto k) ∧ Below w3.heap.size w3 wr) (fun _ i _ => 7 - (intOf i).toNat)
  case atStart => exact ⟨0, Nat.zero_le _, rfl, World.ownsRow_nil _ _ _ _, bref _⟩
  case round =>
    obtain ⟨k, hk, rfl, hO, hW⟩ := hrel
    by_cases hlt : k < 7
    · have HD := Lib.hid (fun W (h : Brd W b z) => hand_brd b z s (1 + (k : Int)) HZ.out H8.out W h)
      have hk1 : wrap64 (1 + (k : Int)) = 1 + (k : Int) := by unfold wrap64; omega
      have hk2 : IntKind.i64.wrap (1 + (k : Int)) = 1 + (k : Int) := by rw [wrap_i64_eq]; exact hk1
      have hnx := drpL_step z s onto k
      have hll := drpL_len z s onto k
      have HG := Lib.hid (show BrdAt wr b z (setAt z) from BrdAt.grow HBD.out hW)
      by_cases hh : handF z s (1 + (k : Int)) < 1
      · have e : drpS z s onto k = [] := if_pos hh
        rw [e, show drpI k [] = [] from rfl, List.append_nil] at hnx
        have HNX := Lib.hid hnx
        have HW := Lib.hid hW
        have HO := Lib.hid hO
        clear e hnx hW hO
        generalize handF z s (1 + (k : Int)) = hv at *
        go_wp2_with (go_at_call 58; refine (HD.out _ HG.out).mono ?_; rintro e wx ⟨rfl, rfl⟩)
        go_roundw
        case rel => exact ⟨k + 1, by omega, by go_num, by rw [HNX.out]; exact HO.out, HW.out⟩
        case measure => simp [intOf]; omega
      · have e : drpS z s onto k = sqI (freeN z s (1 + (k : Int)) &&& onto) := if_neg hh
        have FR := Lib.hid (fun W (h : Brd W b z) (t : Tab W) => free_any b z s (1 + (k : Int)) (by omega) (by omega) HZ.out W h t)
        have AN := Lib.hid (fun W => and_any (freeN z s (1 + (k : Int))) onto (freeN_sq _ _ _) HON.out W)
        rw [HOL.out, HOH.out] at AN
        have SQ2 := Lib.hid (fun W (t : Tab W) (h : 1 < W.heap.size) => squares_any (freeN z s (1 + (k : Int)) &&& onto) (freeN_sq _ _ _).and W t h)
        rw [← e] at SQ2
        have hil := drpS_len z s onto k
        have HNX := Lib.hid hnx
        have HSN := Lib.hid (fun t m => drpI_snoc k m t)
        have HIL := Lib.hid (fun m => drpI_len k m)
        have HBW := Lib.hid (bthen HB.out hW)
        have HPC := Lib.hid (show wr.cell? ⟨w.heap.size, 0, none⟩ = some (.int .u64 ol) ∧ wr.cell? ⟨w.heap.size, 1, none⟩ = some (.int .u64 oh) from ⟨(hW.cell (p := ⟨w.heap.size, 0, none⟩) HW0.out).trans M0.out, (hW.cell (p := ⟨w.heap.size, 1, none⟩) HW0.out).trans M1.out⟩)
        have HPW := Lib.hid (Nat.lt_of_lt_of_le HW0.out hW.size)
        have HW := Lib.hid hW
        have HO := Lib.hid hO
        clear e hnx hW hO
        generalize drpL z s onto k = L0 at *
        generalize drpS z s onto k = m at *
        generalize loW (freeN z s (1 + (k : Int))) = rl at *
        generalize hiW (freeN z s (1 + (k : Int))) = rh at *
        generalize loW (freeN z s (1 + (k : Int)) &&& onto) = nl at *
        generalize hiW (freeN z s (1 + (k : Int)) &&& onto) = nh at *
        generalize handF z s (1 + (k : Int)) = hv at *
        go_upto_region 8 with (go_at_call 58; refine (HD.out _ HG.out).mono ?_; rintro e wx ⟨rfl, rfl⟩)
        refine wp_region_held_drew (S := fun W => Below wr.heap.size wr W ∧ BrdAt W b z (setAt z) ∧ W.cell? ⟨w.heap.size, 0, none⟩ = some (.int .u64 ol) ∧ W.cell? ⟨w.heap.size, 1, none⟩ = some (.int .u64 oh)) (by kernel_rfl) ?_ (fun hHeld => ?_)
        · exact ⟨(bref wr).drew, HG.out, HPC.out.1, HPC.out.2⟩
        refine wpAnyH_take (i := 0) (v := ?v1) rfl (by kernel_rfl) (by kernel_rfl) (by kernel_rfl) (fun _ _ _ h => h) (Or.inl ⟨by rfl, ?y1⟩) (by assumption) ?r1
        case y1 => (intro w hSw; (go_simp <;> first | with_reducible rfl | (rw [if_pos (by omega)] <;> with_reducible rfl)))
        try simp only [Act.put, List.getElem_toArray, List.getElem_cons_zero, List.getElem_cons_succ, List.setIfInBounds_toArray, List.set_cons_zero, List.set_cons_succ]
        refine wpAnyH_take (i := 1) (v := ?v2) rfl (by kernel_rfl) (by kernel_rfl) (by kernel_rfl) (fun _ _ _ h => h) (Or.inl ⟨by rfl, ?y2⟩) (by assumption) ?r2
        case y2 => (intro w hSw; (go_simp <;> first | with_reducible rfl | (rw [if_pos (by omega)] <;> with_reducible rfl)))
        try simp only [Act.put, List.getElem_toArray, List.getElem_cons_zero, List.getElem_cons_succ, List.setIfInBounds_toArray, List.set_cons_zero, List.set_cons_succ]
        refine wpAnyH_take (i := 2) (v := ?v3) rfl (by kernel_rfl) (by kernel_rfl) (by kernel_rfl) (fun _ _ _ h => h) (Or.inl ⟨by rfl, ?y3⟩) (by assumption) ?r3
        case y3 => (intro w hSw; (go_simp <;> first | with_reducible rfl | (rw [if_pos (by omega)] <;> with_reducible rfl)))
        try simp only [Act.put, List.getElem_toArray, List.getElem_cons_zero, List.getElem_cons_succ, List.setIfInBounds_toArray, List.set_cons_zero, List.set_cons_succ]
        refine wpAnyH_take (i := 4) (v := ?v4) rfl (by kernel_rfl) (by kernel_rfl) (by kernel_rfl) (fun _ _ _ h => h) (Or.inl ⟨by rfl, ?y4⟩) (by assumption) ?r4
        case y4 => (intro w hSw; have q0 := hSw.2.2.1; have q1 := hSw.2.2.2; (go_simp <;> first | with_reducible rfl | (rw [if_pos (by omega)] <;> with_reducible rfl)))
        try simp only [Act.put, List.getElem_toArray, List.getElem_cons_zero, List.getElem_cons_succ, List.setIfInBounds_toArray, List.set_cons_zero, List.set_cons_succ]
        refine wpAnyH_take (i := 8) (v := ?v5) rfl (by kernel_rfl) (by kernel_rfl) (by kernel_rfl) (fun _ _ _ h => h) (Or.inl ⟨by rfl, ?y5⟩) (by assumption) ?r5
        case y5 => (intro w hSw; (go_simp <;> first | with_reducible rfl | (rw [if_pos (by omega)] <;> with_reducible rfl)))
        try simp only [Act.put, List.getElem_toArray, List.getElem_cons_zero, List.getElem_cons_succ, List.setIfInBounds_toArray, List.set_cons_zero, List.set_cons_succ]
        refine wpAnyH_ready (rs := [3]) (by kernel_rfl) (by simp) ?_
        refine AllReadyH.cons rfl (fun K hK => ?_) AllReadyH.nil
        rw [if_pos (by rfl)]
        go_simp
        go_at_call 55
        refine (FR.out _ hHeld.2.1 (HT.out.grow (bthen HBW.out hHeld.1))).mono ?_
        rintro e wn ⟨rfl, hb⟩
        refine hK.out _ _ (⟨bthen hHeld.1 hb, hHeld.2.1.grow hb, (hb.cell (p := ⟨w.heap.size, 0, none⟩) (Nat.lt_of_lt_of_le HPW.out hHeld.1.size)).trans hHeld.2.2.1, (hb.cell (p := ⟨w.heap.size, 1, none⟩) (Nat.lt_of_lt_of_le HPW.out hHeld.1.size)).trans hHeld.2.2.2⟩) (fun hHeld => ?_)
        clear hK K
        try simp only [Act.put, List.getElem_toArray, List.getElem_cons_zero, List.getElem_cons_succ, List.setIfInBounds_toArray, List.set_cons_zero, List.set_cons_succ]
        refine wpAnyH_ready (rs := [5]) (by kernel_rfl) (by simp) ?_
        refine AllReadyH.cons rfl (fun K hK => ?_) AllReadyH.nil
        rw [if_pos (by rfl)]
        go_simp
        go_at_call 38
        refine (AN.out _).mono ?_
        rintro e wn ⟨rfl, hb⟩
        refine hK.out _ _ (⟨bthen hHeld.1 hb, hHeld.2.1.grow hb, (hb.cell (p := ⟨w.heap.size, 0, none⟩) (Nat.lt_of_lt_of_le HPW.out hHeld.1.size)).trans hHeld.2.2.1, (hb.cell (p := ⟨w.heap.size, 1, none⟩) (Nat.lt_of_lt_of_le HPW.out hHeld.1.size)).trans hHeld.2.2.2⟩) (fun hHeld => ?_)
        clear hK K
        try simp only [Act.put, List.getElem_toArray, List.getElem_cons_zero, List.getElem_cons_succ, List.setIfInBounds_toArray, List.set_cons_zero, List.set_cons_succ]
        refine wpAnyH_ready (rs := [6]) (by kernel_rfl) (by simp) ?_
        refine AllReadyH.cons rfl (fun K hK => ?_) AllReadyH.nil
        rw [if_pos (by rfl)]
        have hsz := hHeld.1.size
        go_simp
        go_at_call 42
        refine (SQ2.out _ (HT.out.grow (bthen HBW.out hHeld.1)) (Nat.lt_of_lt_of_le HGT.out (bthen HBW.out hHeld.1).size)).mono ?_
        rintro e wn ⟨v2, rfl, hv2, hb⟩
        refine hK.out _ _ (⟨bthen hHeld.1 hb, hHeld.2.1.grow hb, (hb.cell (p := ⟨w.heap.size, 0, none⟩) (Nat.lt_of_lt_of_le HPW.out hHeld.1.size)).trans hHeld.2.2.1, (hb.cell (p := ⟨w.heap.size, 1, none⟩) (Nat.lt_of_lt_of_le HPW.out hHeld.1.size)).trans hHeld.2.2.2⟩) (fun hHeld => ?_)
        clear hK K
        obtain ⟨ao2, cap2, rfl, hp2⟩ := hv2.uni'
        clear hv2
        try simp only [Act.put, List.getElem_toArray, List.getElem_cons_zero, List.getElem_cons_succ, List.setIfInBounds_toArray, List.set_cons_zero, List.set_cons_succ]
        refine wpAnyH_take (i := 7) (v := ?v6) rfl (by kernel_rfl) (by kernel_rfl) (by kernel_rfl) (fun _ _ _ h => h) (Or.inl ⟨by rfl, ?y6⟩) (by assumption) ?r6
        case y6 => (intro w hSw; (go_simp <;> first | with_reducible rfl | (rw [if_pos (by omega)] <;> with_reducible rfl)))
        try simp only [Act.put, List.getElem_toArray, List.getElem_cons_zero, List.getElem_cons_succ, List.setIfInBounds_toArray, List.set_cons_zero, List.set_cons_succ]
        refine wpAnyH_done (by kernel_rfl) ?_ _
        have HR := Lib.hid (show m.length ≠ 0 → ∃ g2, ao2 = some ⟨g2, 0, none⟩ ∧ wr.heap.size ≤ g2 ∧ g2 < wn.heap.size ∧ ∀ (j : Nat) (hj : j < m.length), wn.cell? ⟨g2, j, none⟩ = some (.int .i64 m[j]) from fun h => by
          obtain ⟨g2, e1, e2, e3, e4⟩ := hp2 h
          exact ⟨g2, e1, Nat.le_trans hsz e2, e3, e4⟩)
        have hne : ∀ g2, wr.heap.size ≤ g2 → u5.ownBlock ≠ some g2 := fun g2 h1 h2 => by
          have := (HO.out.lt g2 h2).2
          omega
        have HNE := Lib.hid hne
        have HO2 := Lib.hid (HO.out.grow hHeld.1)
        have HWN := Lib.hid (HW.out.trans (hHeld.1.mono HW.out.size))
        have HGE := Lib.hid (show ∀ g2, u5.ownBlock = some g2 → w3.heap.size ≤ g2 from fun g2 h => (HO.out.lt g2 h).1)
        clear hp2 hsz hHeld hne HO HPC HPW HBW HG HD FR AN SQ2 hb hh
        generalize u5 = v5 at *
        generalize wr = wo at *
        generalize wn = wm at *
        go_wp2_with fail
        go_loopw [5, 35] (fun v2 i wi => ∃ j : Nat, j ≤ m.length ∧ i = .int .i64 j ∧ OwnG wi w3.heap.size v2 (L0 ++ drpI k (m.take j)) ∧ GrowG wm wi v5 v2) (fun _ i _ => m.length - (intOf i).toNat)
        case atStart => exact ⟨0, Nat.zero_le _, rfl, by rw [List.take_zero]; simpa [drpI] using HO2.out, GrowG.of _ (bref _)⟩
        case round =>
          obtain ⟨j, hj, rfl, hOi, hGi⟩ := hrel
          by_cases hlt2 : j < m.length
          · obtain ⟨g2, rfl, hg2a, hg2b, hcs2⟩ := HR.out (by omega)
            have c1 : wr.cell? ⟨g2, j, none⟩ = some (.int .i64 m[j]) := (World.cell?_of_block (w := wm) (a := ⟨g2, j, none⟩) (hGi.block g2 hg2b (HNE.out g2 hg2a))).trans (hcs2 j hlt2)
            have hlen : (L0 ++ drpI k (m.take j)).length ≤ 1000 := by
              have h1 := HIL.out (m.take j)
              rw [List.length_take] at h1
              rw [List.length_append]
              omega
            have e1 := HSN.out m[j] (m.take j)
            rw [← List.take_succ_eq_append_getElem hlt2] at e1
            have HE1 := Lib.hid (show L0 ++ drpI k (m.take (j + 1)) = (L0 ++ drpI k (m.take j)) ++ [⟨0, m[j], 1 + (k : Int), false⟩] by rw [e1, List.append_assoc])
            have HGI := Lib.hid hGi
            have HOI := Lib.hid hOi
            have hs3 : w3.heap.size ≤ wr.heap.size := Nat.le_trans HWN.out.size hGi.g.size
            clear hcs2 e1 hOi hGi
            generalize L0 ++ drpI k (m.take j) = L1 at *
            generalize m[j] = tq at *
            go_wp2_with (at_builtin; refine wpList_append_where rfl _ _ 66 rfl w3.heap.size 70 i0 (.agg #[.int .i64 0, .int .i64 0, .int .i64 0, .bool false]) 4 32 Tryd.underlying66 hi hz0 hz1 hz2 rfl (by decide) _ _ _ rfl (HOI.out.alloc _) ⟨wr.heap.size, 0, none⟩ 1 1 (by decide) (Gv.cells ⟨0, tq, 1 + (k : Int), false⟩) rfl rfl ?c1 ?c2 ?c3 ?c4 ?c5 ?_)
            case c1 => exact alloc_gv wr _
            case c2 => exact gv_ones _
            case c3 => simp [maxLen]; omega
            case c4 => first | omega | (simp; omega)
            case c5 => first | omega | (simp; omega)
            intro v3 wa ho3 hg3 hf3
            have HO3 : Hid (OwnG wa w3.heap.size v3 (L0 ++ drpI k (m.take (j + 1)))) := by
              show OwnG wa w3.heap.size v3 _
              rw [HE1.out]
              unfold OwnG; rw [List.length_append, gvC_snoc]; exact ho3
            have HG3 := Lib.hid (HGI.out.trans (GrowG.pre (ball (bref wr) _) ⟨hg3, hf3⟩))
            clear ho3 hg3 hf3 HE1 HOI HGI
            go_wp2
            go_roundw
            case rel => exact ⟨j + 1, by omega, by go_num, HO3.out, HG3.out⟩
            case measure => simp [intOf]; omega
          · obtain rfl : j = m.length := by omega
            rw [List.take_length, ← HNX.out] at hOi
            have hlk2 : Below w3.heap.size w3 wr := HWN.out.trans (hGi.below HWN.out.size HGE.out)
            clear hGi HR
            go_wp2
            go_roundw
            case rel => exact ⟨k + 1, by omega, by go_num, hOi, hlk2⟩
            case measure => simp [intOf]; omega
    · obtain rfl : k = 7 := by omega
      go_wp2
      go_ret
      exact ⟨_, rfl, hO.mono HB.out.size, bthen HB.out hW⟩

/-! All. -/
/-- All moves that the pieces of a side can make. -/
def genG (z : List Int) (s : Int) : List Gv := brdG z s full ++ drpG z s full
theorem genG_len (z : List Int) (s : Int) : (genG z s).length ≤ 13689 := by
  have h1 := brdG_len z s full
  have h2 := drpL_len z s full 7
  unfold genG drpG
  rw [List.length_append]
  omega
theorem gvC_app (l m : List Gv) : gvC (l ++ m) = gvC l ++ gvC m := by simp [gvC]
theorem gvC_ones (l : List Gv) : ∀ u ∈ gvC l, u.oneCell' = true := by
  intro u hu
  obtain ⟨m, -, hm⟩ := List.mem_flatMap.1 hu
  exact gv_ones m u hm
theorem wpList_append_rows {P : Program} {ops : Array Oper} {rest : List Oper} {o : Oper} {a : Act} {w : World} {Q : Exit → Act → World → Prop}
    (hg : o.guard = none) (s x : Operand) (t : TypeId) (ho : o.op = .call { callee := .builtin .append, args := #[s, x], argTypes := #[t, t] })
    (base : Nat) (e : TypeId) (i : TypeInfo) (z : Value) (size bytes : Nat) (ht : P.underlying t = some (.slice e)) (hi : P.info? e = some i) (hz : i.zero = some z)
    (hsize : i.size = size) (hby : i.bytes = bytes) (hzs : z.cells.size = size) (hsz : 0 < size)
    (v : Value) (n : Nat) (xs : List Value) (hs : a.eval s = v) (hown : w.ownsRow base e size v n xs)
    (v2 : Value) (m base2 : Nat) (ys : List Value) (hx : a.eval x = v2) (hown2 : w.ownsRow base2 e size v2 m ys) (h1 : ∀ u ∈ ys, u.oneCell' = true)
    (h63 : n + m ≤ maxLen) (hbytes : (n + m) * bytes ≤ 140737488355328) (hbase : base ≤ w.heap.size)
    (hK : ∀ v' w', w'.ownsRow base e size v' (n + m) (xs ++ ys) → w.grownBy w' v.ownBlock → wpList P ops Q rest (a.put o.dst v') w') :
    wpList P ops Q (o :: rest) a w := by
  have hl := hown2.1
  have hcells : ∀ g, v2.ownBlock = some g → ∀ j u, ys[j]? = some u → w.cell? ((⟨g, 0, none⟩ : Addr).add j) = some u := fun g hg => hown2.cells (g := g) hg
  rcases hown2.2 with ⟨rfl, rfl⟩ | ⟨g, cap, cur, rfl, -⟩
  · rw [Nat.zero_mul] at hl
    obtain rfl : ys = [] := List.length_eq_zero_iff.1 hl
    have hr := run_append_owned_none (P := P) (w := w) base t o.type e i size ht hi v n xs hown
    refine wpList_step fun K hK' => ?_
    have hw : Region.wanted o (yielded ops a.tmps) = true := by simp [Region.wanted, hg]
    rw [if_pos hw]
    unfold Oper.wp execOp
    simp only [ho, resolve, invoke, builtin, Sem.run_bind, Sem.run_pure, Result.andThen_ok, List.map_toArray, List.map_cons, List.map_nil, hs, hx, hr]
    exact hK' _ _ (hK v w (by simpa using hown) ⟨rfl, rfl, rfl, Nat.le_refl _, fun _ _ _ => rfl⟩)
  · exact wpList_append_own w hg s x t ho base e i z size bytes ht hi hz hsize hby hzs hsz v n xs hs hown ⟨g, 0, none⟩ m cap ys hx hl (hcells g rfl) h1 h63 hbytes hbase (fun v' w' h2 h3 _ => hK v' w' h2 h3)
set_option maxHeartbeats 4000000 in
theorem genAll_any (b : Nat) (z : List Int) (s : Int) (hs : s = 0 ∨ s = 1) (h97 : at8 z 97 = s) (hz : z.length = 98) (h8 : I8s z) (w : World) (hb : Brd w b z) (hT : Tab w) :
    Calls Tryd.prog 45 #[.pointer (some ⟨b, 0, none⟩)] w fun e w' => ∃ v, e = .returned v ∧ OwnG w' w.heap.size v (genG z s) ∧ Below w.heap.size w w' := by
  obtain ⟨i0, hi, hz0, hz1, hz2⟩ := info_parts infoGv
  have AL := Lib.hid (fun W => all_any W)
  have BO := Lib.hid (fun W (h : Brd W b z) (t : Tab W) => board_any b z s full hs h97 Sq.full hz h8 W h t)
  have DR := Lib.hid (fun W (h : Brd W b z) (t : Tab W) => drops_any b z s full hs h97 Sq.full hz h8 W h t)
  have l1 := brdG_len z s full
  have l2 := drpL_len z s full 7
  have HBD := Lib.hid (show BrdAt w b z (setAt z) from hb)
  have HB := Lib.hid (bref w)
  have HT := Lib.hid hT
  unfold genG
  rw [show drpL z s full 7 = drpG z s full from rfl] at l2
  clear hs h97 hz h8 hb hT
  generalize brdG z s full = L1 at *
  generalize drpG z s full = L2 at *
  generalize loW full = fl at *
  generalize hiW full = fh at *
  go_enter Tryd.func45, Tryd.ntmps45
  go_wp2_with (first
    | (go_at_call 84; refine (AL.out _).mono ?_; rintro e w1 ⟨rfl, hb⟩; replace HBD := Lib.hid (BrdAt.grow HBD.out hb); replace HB := Lib.hid (bthen HB.out hb); try replace HO1 := Lib.hid (OwnG.grow HO1.out hb); clear hb)
    | (go_at_call 49; refine (BO.out _ HBD.out (HT.out.grow HB.out)).mono ?_; rintro e w2 ⟨v1, rfl, ho1, hb⟩; have HO1 := Lib.hid (ho1.mono HB.out.size); replace HBD := Lib.hid (BrdAt.grow HBD.out hb); replace HB := Lib.hid (bthen HB.out hb); clear hb ho1)
    | (go_at_call 50; refine (DR.out _ HBD.out (HT.out.grow HB.out)).mono ?_; rintro e w4 ⟨v2, rfl, ho2, hb⟩; replace HO1 := Lib.hid (OwnG.grow HO1.out hb); have HO2 := Lib.hid ho2; replace HB := Lib.hid (bthen HB.out hb); clear hb ho2)
    | (at_builtin; refine wpList_append_rows rfl _ _ 66 rfl w.heap.size 70 i0 (.agg #[.int .i64 0, .int .i64 0, .int .i64 0, .bool false]) 4 32 Tryd.underlying66 hi hz0 hz1 hz2 rfl (by decide) v1 L1.length (gvC L1) rfl HO1.out v2 L2.length _ (gvC L2) rfl HO2.out (gvC_ones _) (by simp [maxLen]; omega) (by omega) HB.out.size ?_; rintro v3 w5 ho3 hg3))
  go_ret
  refine ⟨_, rfl, ?_, HB.out.grown hg3 HB.out.size (fun k hk => (HO1.out.lt k hk).1)⟩
  unfold OwnG
  rw [gvC_app, List.length_append]
  exact ho3
end Go.Proofs.YtilhicohfnaclaaDoor
