/-
  The walk of the law GenFree.
-/
import Derived.Test.YtilhicohfnaclaaDoorGen6
namespace Go.Proofs.YtilhicohfnaclaaDoor.genFree
open Go.RowKit
set_option maxRecDepth 100000
set_option linter.unusedVariables false
set_option linter.unusedSimpArgs false

theorem onI_congr (z z' : List Int) (x : Int) (f : Nat) (hf : f < 9) (h : ∀ i, i < 81 → at8 z' i = at8 z i) : ∀ r, r ≤ 9 → onI z' x f r = onI z x f r
  | 0, _ => by unfold onI; simp
  | r + 1, hr => by rw [onI_step, onI_step, onI_congr z z' x f hf h r (by omega), h _ (by omega)]
theorem dropM_eq (Z : List Int) (hz : Z.length = 98) (sn kn q : Nat) (hs : sn < 2) (hk : 1 ≤ kn ∧ kn ≤ 7) (hq : q < 81) : dropM ((Z.set 97 sn).set (81 + sn * 8 + kn) 1) q kn = dropB Z sn kn q := by
  have a97 : at8 ((Z.set 97 (sn : Int)).set (81 + sn * 8 + kn) 1) 97 = sn := by
    rw [at8_set _ _ _ _ (by rw [List.length_set]; omega), if_neg (by omega), at8_set _ _ _ _ (by omega), if_pos rfl]
  have ah : at8 ((Z.set 97 (sn : Int)).set (81 + sn * 8 + kn) 1) (81 + sn * 8 + kn) = 1 := by
    rw [at8_set _ _ _ _ (by rw [List.length_set]; omega), if_pos rfl]
  have aq : ∀ i, i < 81 → at8 ((Z.set 97 (sn : Int)).set (81 + sn * 8 + kn) 1) i = at8 Z i := by
    intro i hi
    rw [at8_set _ _ _ _ (by rw [List.length_set]; omega), if_neg (by omega), at8_set _ _ _ _ (by omega), if_neg (by omega)]
  unfold dropM dropB canF
  rw [if_pos ((checkM_zero 0 q kn false).2 ⟨by omega, .inr ⟨by omega, by omega, rfl, rfl⟩⟩), a97, if_pos (by omega), if_neg (by omega), Int.toNat_natCast, aq q hq]
  have hh : handF ((Z.set 97 (sn : Int)).set (81 + sn * 8 + kn) 1) sn kn = 1 := by
    unfold handF
    rw [if_pos ⟨by omega, by omega, by omega⟩, Int.toNat_natCast, Int.toNat_natCast, ah]
  rw [hh, onI_congr Z _ _ (q / 9) (by omega) aq 9 (Nat.le_refl _)]
  simp only [show (0 : Int) < 1 from by decide, true_and]
theorem free_none (z : List Int) (s k : Int) (h : ¬ ((s = 0 ∨ s = 1) ∧ 1 ≤ k ∧ k ≤ 7)) : freeN z s k = 0 := by
  unfold freeN
  refine if_pos ?_
  by_cases h7 : 7 < k
  · exact .inr h7
  · left
    unfold ofF
    by_cases hr : rawF k = 0
    · rw [if_pos hr]
    · have hk := rawF_cases k
      rw [if_neg hr, if_neg (fun e => h ⟨.inl e, by omega⟩), if_neg (fun e => h ⟨.inr e, by omega⟩)]

set_option maxHeartbeats 8000000 in
theorem walk (z : List Int) (s k : Int) (hz : z.length = 98) (h8 : I8s z) (g1 : (Lit.int .i64 s).wf = true) (g2 : (Lit.int .i64 k).wf = true) (w : World) (hT : Tab w) (hH : Home w) :
    Calls Tryd.prog 12 #[.agg (posC z).toArray, .int .i64 s, .int .i64 k] w fun e w' => e = .returned (.bool true) ∧ Below w.heap.size w w' := by
  have hkb := bounds_i64 g2
  have LI := Lib.hid (fun W (t : Tab W) (h : Home W) => lists_true W t h)
  have CL := Lib.hid (fun W => clean_any z hz h8 W)
  have hZ := newZ_len z hz
  have hZ8 := newZ_8 z h8
  have hZc := newZ_clean z hz
  have HINF0 := Lib.hid (show (Tryd.prog.info? 28).map (·.size) = some (posC z).length by rw [posC_len, hz]; exact infoPos)
  have HINF := Lib.hid (show (Tryd.prog.info? 28).map (·.size) = some (posC (newZ z)).length by rw [posC_len, hZ]; exact infoPos)
  have HSC := Lib.hid (show (posC z).toArray.size = (posC (newZ z)).toArray.size by rw [List.size_toArray, List.size_toArray, posC_len, posC_len, hz, hZ])
  have HT := Lib.hid hT
  have HH := Lib.hid hH
  clear hT hH
  generalize newZ z = Z at *
  have NE := Lib.hid (fun W => new_brd Z hZ hZ8 W)
  rw [newZ_self Z hZ hZc] at NE
  have FR := Lib.hid (fun g W (h : Brd W g Z) (t : Tab W) => free_any g Z s k hkb.1 hkb.2 hZ W h t)
  have HP := Lib.hid (PosAt.new w z)
  have HB := Lib.hid (ball (bref w) (.cells (posC z).toArray 28))
  have EM := Lib.hid (fun W => empty_any (freeN Z s k) W)
  have HNO := Lib.hid (free_none Z s k)
  have HANY := Lib.hid (fun q W => has_any (freeN Z s k) q (freeN_sq Z s k) W)
  have HTE := Lib.hid (fun hs hk q hq => free_test Z hZc s k hs hk q hq)
  have HZ := Lib.hid hZ
  have HZ8 := Lib.hid hZ8
  clear g1 g2 hkb hZ hZ8 hZc hz h8
  generalize freeN Z s k = N at *
  generalize loW N = x at *
  generalize hiW N = y at *
  go_enter Tryd.func12, Tryd.ntmps12
  go_upto_region 1 with fail
  generalize w.alloc (.cells (posC z).toArray 28) = w0 at *
  go_upto_region 4 with (first
    | (go_at_call 44; refine (LI.out _ (HT.out.grow HB.out) (HH.out.grow HB.out)).mono ?_; rintro e w1 ⟨rfl, hb⟩; replace HP := Lib.hid (HP.out.grow hb); replace HB := Lib.hid (bthen HB.out hb); clear hb)
    | (refine wpList_load_mid rfl 28 _ rfl w.heap.size 0 rfl (posC z) _ HP.out.range Tryd.underlying28 rfl HINF0.out ?_)
    | (go_at_call 54; refine (CL.out _).mono ?_; rintro e w2 ⟨rfl, hb⟩; replace HP := Lib.hid (HP.out.grow hb); replace HB := Lib.hid (bthen HB.out hb); clear hb)
    | (refine wpList_store_row rfl 28 _ _ rfl w.heap.size (posC Z).toArray rfl rfl 28 _ HP.out (by rw [List.size_toArray]; exact HINF.out) HSC.out (posC_one Z) ?_))
  replace HB := Lib.hid (below_row HB.out (Nat.le_refl _) (posC Z).toArray)
  replace HP := Lib.hid (show PosAt (w2.setRow w.heap.size (posC Z).toArray) w.heap.size Z from setRow_heap _ _ _ _ _ _ HP.out)
  generalize w2.setRow w.heap.size (posC Z).toArray = w3 at *
  go_upto_region 5 with (first
    | (refine wpList_load_mid rfl 28 _ rfl w.heap.size 0 rfl (posC Z) _ HP.out.range Tryd.underlying28 rfl HINF.out ?_)
    | (go_at_call 19; refine (NE.out _).mono ?_; rintro e w4 ⟨g, rfl, hg, hbd, hb⟩; replace HP := Lib.hid (HP.out.grow hb); replace HB := Lib.hid (bthen HB.out hb); clear hb; clear hg)
    | (go_at_call 55; refine (FR.out _ _ hbd (HT.out.grow HB.out)).mono ?_; rintro e w5 ⟨rfl, hb⟩; replace HP := Lib.hid (HP.out.grow hb); replace HB := Lib.hid (bthen HB.out hb); clear hb))
  have HPW0 := Lib.hid (show w.heap.size ≠ w5.heap.size from Nat.ne_of_lt HP.out.lt)
  replace HP := Lib.hid (HP.out.grow (ball (bref w5) (.cells #[.int .u64 x, .int .u64 y] 32)))
  replace HB := Lib.hid (ball HB.out (.cells #[.int .u64 x, .int .u64 y] 32))
  have HC := Lib.hid (show (w5.alloc (.cells #[.int .u64 x, .int .u64 y] 32)).cell? ⟨w5.heap.size, 0, none⟩ = some (.int .u64 x) ∧ (w5.alloc (.cells #[.int .u64 x, .int .u64 y] 32)).cell? ⟨w5.heap.size, 1, none⟩ = some (.int .u64 y) from ⟨by go_simp, by go_simp⟩)
  have HPL := Lib.hid (show w5.heap.size < (w5.alloc (.cells #[.int .u64 x, .int .u64 y] 32)).heap.size by simp)
  generalize w5.alloc (.cells #[.int .u64 x, .int .u64 y] 32) = w6 at *
  generalize w5.heap.size = p at *
  clear LI CL NE FR hbd HT HH
  by_cases hgood : (s = 0 ∨ s = 1) ∧ 1 ≤ k ∧ k ≤ 7
  · obtain ⟨hs, hk⟩ := hgood
    obtain ⟨sn, rfl⟩ : ∃ sn : Nat, s = sn := ⟨s.toNat, by omega⟩
    obtain ⟨kn, rfl⟩ : ∃ kn : Nat, k = kn := ⟨k.toNat, by omega⟩
    have hsn : sn < 2 := by omega
    have hkn : 1 ≤ kn ∧ kn ≤ 7 := by omega
    have HTQ := Lib.hid (fun q hq => HTE.out hs hk q hq)
    have n1 : ¬ (sn : Int) < 0 := by omega
    have n2 : ¬ 1 < (sn : Int) := by omega
    have n3 : ¬ (kn : Int) < 1 := by omega
    have n4 : ¬ 7 < (kn : Int) := by omega
    have c97 := HP.out.cell 97 (by rw [HZ.out]; omega)
    have f97 := HP.out.frozen 97
    have chd := HP.out.cell (81 + sn * 8 + kn) (by rw [HZ.out]; omega)
    have fhd := HP.out.frozen (81 + sn * 8 + kn)
    have zlt := HP.out.lt
    have hne97 : 81 + sn * 8 + kn ≠ 97 := by omega
    have P2 : PosAt ((w6.setCell ⟨w.heap.size, 97, none⟩ (.int .i8 sn)).setCell ⟨w.heap.size, 81 + sn * 8 + kn, none⟩ (.int .i8 1)) w.heap.size ((Z.set 97 (sn : Int)).set (81 + sn * 8 + kn) 1) := (HP.out.set 97 sn).set _ 1
    have HP2 := Lib.hid P2
    have HB2 := Lib.hid (show Below w.heap.size w ((w6.setCell ⟨w.heap.size, 97, none⟩ (.int .i8 sn)).setCell ⟨w.heap.size, 81 + sn * 8 + kn, none⟩ (.int .i8 1)) from (HB.out.setCell (by simp) _).setCell (by simp) _)
    have hnp := HPW0.out
    have HC2 := Lib.hid (show ((w6.setCell ⟨w.heap.size, 97, none⟩ (.int .i8 sn)).setCell ⟨w.heap.size, 81 + sn * 8 + kn, none⟩ (.int .i8 1)).cell? ⟨p, 0, none⟩ = some (.int .u64 x) ∧ ((w6.setCell ⟨w.heap.size, 97, none⟩ (.int .i8 sn)).setCell ⟨w.heap.size, 81 + sn * 8 + kn, none⟩ (.int .i8 1)).cell? ⟨p, 1, none⟩ = some (.int .u64 y) from ⟨(World.cell?_of_block (w := w6) (a := ⟨p, 0, none⟩) (by rw [heap_setCell_other _ _ _ _ (Ne.symm hnp), heap_setCell_other _ _ _ _ (Ne.symm hnp)])).trans HC.out.1, (World.cell?_of_block (w := w6) (a := ⟨p, 1, none⟩) (by rw [heap_setCell_other _ _ _ _ (Ne.symm hnp), heap_setCell_other _ _ _ _ (Ne.symm hnp)])).trans HC.out.2⟩)
    have HPL2 := Lib.hid (show p < ((w6.setCell ⟨w.heap.size, 97, none⟩ (.int .i8 sn)).setCell ⟨w.heap.size, 81 + sn * 8 + kn, none⟩ (.int .i8 1)).heap.size by simpa using HPL.out)
    have hl2 : ((Z.set 97 (sn : Int)).set (81 + sn * 8 + kn) 1).length = 98 := by rw [List.length_set, List.length_set]; exact HZ.out
    have h82 : I8s ((Z.set 97 (sn : Int)).set (81 + sn * 8 + kn) 1) := set_8 (set_8 HZ8.out 97 (by omega)) _ (by omega)
    have HMQ := Lib.hid (fun (q : Nat) (hq : q < 81) => dropM_eq Z HZ.out sn kn q hsn hkn hq)
    have MOk := Lib.hid (fun (q : Nat) W => refMoves_drop ((Z.set 97 (sn : Int)).set (81 + sn * 8 + kn) 1) q kn (by omega) hl2 h82 W)
    have HINF2 := Lib.hid (show (Tryd.prog.info? 28).map (·.size) = some (posC ((Z.set 97 (sn : Int)).set (81 + sn * 8 + kn) 1)).length by rw [posC_len, hl2]; exact infoPos)
    have hw8 : IntKind.i8.wrap (sn : Int) = sn := by
      obtain rfl | rfl : sn = 0 ∨ sn = 1 := by omega
      · rfl
      · rfl
    have h2s : (sn : Int) < 2 := by omega
    have h2k : (kn : Int) < 8 := by omega
    clear hs hk HTE HNO EM hl2 h82 P2 HPW0
    go_upto_region 9 with fail
    clear hne97 zlt c97 f97 chd fhd hw8 h2s h2k HP HB HC HPL hnp HZ8
    generalize (w6.setCell ⟨w.heap.size, 97, none⟩ (.int .i8 sn)).setCell ⟨w.heap.size, 81 + sn * 8 + kn, none⟩ (.int .i8 1) = w7 at *
    generalize (Z.set 97 (sn : Int)).set (81 + sn * 8 + kn) 1 = Z2 at *
    go_wp2_with fail
    go_loopw [8] (fun i wr => ∃ q : Nat, q ≤ 81 ∧ i = .int .i64 q ∧ Below w7.heap.size w7 wr) (fun i _ => 81 - (intOf i).toNat)
    case atStart => exact ⟨0, by omega, rfl, bref _⟩
    case round =>
      obtain ⟨q, hq, rfl, hW⟩ := hrel
      by_cases hlt : q < 81
      · have HA := Lib.hid (fun W => HANY.out q W)
        rw [has_nat N q hlt, HTQ.out q hlt] at HA
        have MO := Lib.hid (fun W => MOk.out q W)
        rw [HMQ.out q hlt] at MO
        have HC := Lib.hid (show wr.cell? ⟨p, 0, none⟩ = some (.int .u64 x) ∧ wr.cell? ⟨p, 1, none⟩ = some (.int .u64 y) from ⟨(hW.cell (p := ⟨p, 0, none⟩) HPL2.out).trans HC2.out.1, (hW.cell (p := ⟨p, 1, none⟩) HPL2.out).trans HC2.out.2⟩)
        have HPL := Lib.hid (Nat.lt_of_lt_of_le HPL2.out hW.size)
        have HPW := Lib.hid (HP2.out.grow hW)
        have HW := Lib.hid hW
        clear hW
        generalize dropB Z sn kn q = r at *
        go_wp2_with fail
        refine wp_region_held_drew (S := fun W => Below wr.heap.size wr W ∧ W.cell? ⟨p, 0, none⟩ = some (.int .u64 x) ∧ W.cell? ⟨p, 1, none⟩ = some (.int .u64 y) ∧ PosAt W w.heap.size Z2) (by kernel_rfl) ?_ (fun hHeld => ?_)
        · exact ⟨(bref wr).drew, HC.out.1, HC.out.2, HPW.out⟩
        refine wpAnyH_take (i := 0) (v := ?v1) rfl (by kernel_rfl) (by kernel_rfl) (by kernel_rfl) (fun _ _ _ h => h) (Or.inl ⟨by rfl, ?y1⟩) (by assumption) ?r1
        case y1 => (intro w hSw; have q0 := hSw.2.1; have q1 := hSw.2.2.1; (go_simp <;> first | with_reducible rfl | (rw [if_pos (by omega)] <;> with_reducible rfl)))
        try simp only [Act.put, List.getElem_toArray, List.getElem_cons_zero, List.getElem_cons_succ, List.setIfInBounds_toArray, List.set_cons_zero, List.set_cons_succ]
        refine wpAnyH_take (i := 1) (v := ?v2) rfl (by kernel_rfl) (by kernel_rfl) (by kernel_rfl) (fun _ _ _ h => h) (Or.inl ⟨by rfl, ?y2⟩) (by assumption) ?r2
        case y2 => (intro w hSw; (go_simp <;> first | with_reducible rfl | (rw [if_pos (by omega)] <;> with_reducible rfl)))
        try simp only [Act.put, List.getElem_toArray, List.getElem_cons_zero, List.getElem_cons_succ, List.setIfInBounds_toArray, List.set_cons_zero, List.set_cons_succ]
        refine wpAnyH_take (i := 3) rfl (by kernel_rfl) (by kernel_rfl) (by kernel_rfl) (fun _ _ _ h => h) (yieldsIf_load_mid (by rfl) _ _ rfl _ _ rfl (posC Z2) _ (fun w h => h.2.2.2.range) (Tryd.underlying28) rfl (HINF2.out)) (by assumption) ?_
        try simp only [Act.put, List.getElem_toArray, List.getElem_cons_zero, List.getElem_cons_succ, List.setIfInBounds_toArray, List.set_cons_zero, List.set_cons_succ]
        refine wpAnyH_take (i := 4) (v := ?v3) rfl (by kernel_rfl) (by kernel_rfl) (by kernel_rfl) (fun _ _ _ h => h) (Or.inl ⟨by rfl, ?y3⟩) (by assumption) ?r3
        case y3 => (intro w hSw; (go_simp <;> first | with_reducible rfl | (rw [if_pos (by omega)] <;> with_reducible rfl)))
        try simp only [Act.put, List.getElem_toArray, List.getElem_cons_zero, List.getElem_cons_succ, List.setIfInBounds_toArray, List.set_cons_zero, List.set_cons_succ]
        refine wpAnyH_take (i := 5) (v := ?v4) rfl (by kernel_rfl) (by kernel_rfl) (by kernel_rfl) (fun _ _ _ h => h) (Or.inl ⟨by rfl, ?y4⟩) (by assumption) ?r4
        case y4 => (intro w hSw; (go_simp <;> first | with_reducible rfl | (rw [if_pos (by omega)] <;> with_reducible rfl)))
        try simp only [Act.put, List.getElem_toArray, List.getElem_cons_zero, List.getElem_cons_succ, List.setIfInBounds_toArray, List.set_cons_zero, List.set_cons_succ]
        refine wpAnyH_take (i := 6) (v := ?v5) rfl (by kernel_rfl) (by kernel_rfl) (by kernel_rfl) (fun _ _ _ h => h) (Or.inl ⟨by rfl, ?y5⟩) (by assumption) ?r5
        case y5 => (intro w hSw; (go_simp <;> first | with_reducible rfl | (rw [if_pos (by omega)] <;> with_reducible rfl)))
        try simp only [Act.put, List.getElem_toArray, List.getElem_cons_zero, List.getElem_cons_succ, List.setIfInBounds_toArray, List.set_cons_zero, List.set_cons_succ]
        refine wpAnyH_ready (rs := [2]) (by kernel_rfl) (by simp) ?_
        refine AllReadyH.cons rfl (fun K hK => ?_) AllReadyH.nil
        rw [if_pos (by rfl)]
        go_simp
        go_at_call 26
        refine (HA.out _).mono ?_
        rintro e wn ⟨rfl, hb⟩
        refine hK.out _ _ (⟨bthen hHeld.1 hb, (hb.cell (p := ⟨p, 0, none⟩) (Nat.lt_of_lt_of_le HPL.out hHeld.1.size)).trans hHeld.2.1, (hb.cell (p := ⟨p, 1, none⟩) (Nat.lt_of_lt_of_le HPL.out hHeld.1.size)).trans hHeld.2.2.1, hHeld.2.2.2.grow hb⟩) (fun hHeld => ?_)
        clear hK K
        try simp only [Act.put, List.getElem_toArray, List.getElem_cons_zero, List.getElem_cons_succ, List.setIfInBounds_toArray, List.set_cons_zero, List.set_cons_succ]
        refine wpAnyH_ready (rs := [7]) (by kernel_rfl) (by simp) ?_
        refine AllReadyH.cons rfl (fun K hK => ?_) AllReadyH.nil
        rw [if_pos (by rfl)]
        go_simp
        go_at_call 56
        refine (MO.out _).mono ?_
        rintro e wn ⟨rfl, hb⟩
        refine hK.out _ _ (⟨bthen hHeld.1 hb, (hb.cell (p := ⟨p, 0, none⟩) (Nat.lt_of_lt_of_le HPL.out hHeld.1.size)).trans hHeld.2.1, (hb.cell (p := ⟨p, 1, none⟩) (Nat.lt_of_lt_of_le HPL.out hHeld.1.size)).trans hHeld.2.2.1, hHeld.2.2.2.grow hb⟩) (fun hHeld => ?_)
        clear hK K
        try simp only [Act.put, List.getElem_toArray, List.getElem_cons_zero, List.getElem_cons_succ, List.setIfInBounds_toArray, List.set_cons_zero, List.set_cons_succ]
        refine wpAnyH_take (i := 8) (v := ?v6) rfl (by kernel_rfl) (by kernel_rfl) (by kernel_rfl) (fun _ _ _ h => h) (Or.inl ⟨by rfl, ?y6⟩) (by assumption) ?r6
        case y6 => (intro w hSw; (go_simp <;> first | with_reducible rfl | (rw [if_pos (by omega)] <;> with_reducible rfl)))
        try simp only [Act.put, List.getElem_toArray, List.getElem_cons_zero, List.getElem_cons_succ, List.setIfInBounds_toArray, List.set_cons_zero, List.set_cons_succ]
        refine wpAnyH_done (by kernel_rfl) ?_ _
        go_wp2
        go_roundw
        case rel => exact ⟨q + 1, by omega, by go_num, HW.out.trans (hHeld.1.mono HW.out.size)⟩
        case measure => simp [intOf]; omega
      · obtain rfl : q = 81 := by omega
        go_wp2
        go_ret
        exact ⟨rfl, bthen HB2.out hW⟩
  · rw [decide_eq_true (HNO.out hgood)] at EM
    have c0 := HC.out.1
    have c1 := HC.out.2
    have hcase : s < 0 ∨ (¬ s < 0 ∧ 1 < s) ∨ (¬ s < 0 ∧ ¬ 1 < s ∧ k < 1) ∨ (¬ s < 0 ∧ ¬ 1 < s ∧ ¬ k < 1 ∧ 7 < k) := by omega
    clear hgood HNO HTE HANY HPW0
    rcases hcase with h1 | ⟨h1, h2⟩ | ⟨h1, h2, h3⟩ | ⟨h1, h2, h3, h4⟩
    all_goals
      go_wp2_with (go_at_call 20; refine (EM.out _).mono ?_; rintro e w7 ⟨rfl, hb⟩)
      go_ret
      exact ⟨rfl, bthen HB.out hb⟩
end Go.Proofs.YtilhicohfnaclaaDoor.genFree
