/-
  The walk of the law AttackKings.
-/
import Derived.Test.YtilhicohfnaclaaDoorAtkHead
import Derived.Test.YtilhicohfnaclaaDoorAtkRef2
namespace Go.Proofs.YtilhicohfnaclaaDoor.attackKings
open Go.RowKit
set_option maxRecDepth 100000
set_option linter.unusedVariables false
set_option linter.unusedSimpArgs false

theorem in_has (z : List Int) (s : Int) (hs : s = 0 ∨ s = 1) (hk : 0 ≤ kingF z s) : (!decide (allN z (1 - s) &&& oneN (kingF z s) = 0)) = inF z s := by
  have hr := king_rng z s
  obtain ⟨k, e⟩ : ∃ k : Nat, kingF z s = k := ⟨(kingF z s).toNat, by omega⟩
  unfold inF chkN
  rw [e, has_nat _ k (by omega), all_test z (1 - s) (by omega) k (by omega)]
  rfl
/-- The board from which the pieces on some squares are taken away. -/
def clrP (z : List Int) (l : List Int) (k : Nat) : List Int := (l.take k).foldl (fun z q => putZ z q 0) z
theorem clrP_zero (z l : List Int) : clrP z l 0 = z := by simp [clrP]
theorem clrP_step (z l : List Int) (k : Nat) (h : k < l.length) : clrP z l (k + 1) = putZ (clrP z l k) l[k] 0 := by
  unfold clrP
  rw [List.take_succ_eq_append_getElem h, List.foldl_append]
  rfl
theorem clrP_ok (z l : List Int) (hz : z.length = 98) (h8 : I8s z) (hc : Clean z) : ∀ k, k ≤ l.length → (clrP z l k).length = 98 ∧ I8s (clrP z l k) ∧ Clean (clrP z l k)
  | 0, _ => by rw [clrP_zero]; exact ⟨hz, h8, hc⟩
  | k + 1, h => by
    have ih := clrP_ok z l hz h8 hc k (by omega)
    rw [clrP_step z l k h]
    exact ⟨by rw [putZ_len]; exact ih.1, putZ_8 ih.2.1 _ _ (by omega), putZ_clean ih.2.2 ih.1 _ _⟩
theorem clrP_at (z l : List Int) (hz : z.length = 98) (h8 : I8s z) (hc : Clean z) (hl : ∀ x ∈ l, 0 ≤ x ∧ x < 81) (i : Nat) : ∀ k, k ≤ l.length → at8 (clrP z l k) i = if (i : Int) ∈ l.take k then 0 else at8 z i
  | 0, _ => by rw [clrP_zero]; simp
  | k + 1, h => by
    have ih := clrP_at z l hz h8 hc hl i k (by omega)
    have hq := hl l[k] (List.getElem_mem h)
    rw [clrP_step z l k h]
    unfold putZ
    rw [if_pos hq, kind_zero, if_pos rfl, at8_set _ _ _ _ (by rw [(clrP_ok z l hz h8 hc k (by omega)).1]; omega), ih, List.take_succ_eq_append_getElem h]
    by_cases e : (i : Int) = l[k]
    · rw [if_pos (by omega), if_pos (by rw [List.mem_append]; exact .inr (by rw [e]; simp))]
    · rw [if_neg (by omega)]
      by_cases e2 : (i : Int) ∈ l.take k
      · rw [if_pos e2, if_pos (List.mem_append.2 (.inl e2))]
      · rw [if_neg e2, if_neg (fun h3 => by
          rcases List.mem_append.1 h3 with h4 | h4
          · exact e2 h4
          · exact e (by simpa using h4))]
theorem on_noside (z : List Int) (q s : Int) (n : Nat) (hs : s = 0 ∨ s = 1) (h : ∀ i, i < 81 → sideF (at8 z i) ≠ s) : onN z q s n = 0 := by
  by_cases hq : 0 ≤ q ∧ q < 81
  · obtain ⟨k, rfl⟩ : ∃ k : Nat, q = k := ⟨q.toNat, by omega⟩
    refine eq_of_bits81 (onN_sq _ _ _ _) Sq.zero fun i hi => ?_
    rw [on_test z k s n i hs (by omega) hi, decide_eq_false (h i hi), Bool.false_and, Nat.zero_testBit]
  · exact onN_out z q s n hq
theorem clr_none (z : List Int) (o : Int) (ho : o = 0 ∨ o = 1) (hz : z.length = 98) (h8 : I8s z) (hc : Clean z) (q : Int) (n : Nat) : onN (clrP z (sqI (sideN z o)) (sqI (sideN z o)).length) q o n = 0 := by
  refine on_noside _ q o n ho fun i hi => ?_
  rw [clrP_at z _ hz h8 hc (sqI_in _) i _ (Nat.le_refl _), List.take_length]
  by_cases e : (i : Int) ∈ sqI (sideN z o)
  · rw [if_pos e, side_zero]; omega
  · rw [if_neg e]
    intro h
    apply e
    rw [mem_sqI]
    refine ⟨hi, ?_⟩
    unfold sideN sideB
    rw [where_test, h, decide_eq_true hi, decide_eq_true rfl]
    rfl

set_option maxHeartbeats 8000000 in
theorem walk (z : List Int) (s : Int) (hz : z.length = 98) (h8 : I8s z) (g1 : (Lit.int .i64 s).wf = true) (w : World) (hT : Tab w) :
    Calls Tryd.prog 8 #[.agg (posC z).toArray, .int .i64 s] w fun e w' => e = .returned (.bool true) ∧ Below w.heap.size w w' := by
  have AT := Lib.hid (fun W (t : Tab W) => attacks_true W t)
  have CL := Lib.hid (fun W => clean8_any z hz h8 W)
  have hZ := newZ_len z hz
  have hZ8 := newZ_8 z h8
  have hZc := newZ_clean z hz
  have HINF0 := Lib.hid (show (Tryd.prog.info? 28).map (·.size) = some (posC z).length by rw [posC_len, hz]; exact infoPos)
  have HINF := Lib.hid (show (Tryd.prog.info? 28).map (·.size) = some (posC (newZ z)).length by rw [posC_len, hZ]; exact infoPos)
  have HSC := Lib.hid (show (posC z).toArray.size = (posC (newZ z)).toArray.size by rw [List.size_toArray, List.size_toArray, posC_len, posC_len, hz, hZ])
  have HT := Lib.hid hT
  clear hT
  generalize newZ z = Z at *
  have NE := Lib.hid (fun W => new_brd Z hZ hZ8 W)
  rw [newZ_self Z hZ hZc] at NE
  have HP := Lib.hid (PosAt.new w z)
  have HB := Lib.hid (ball (bref w) (.cells (posC z).toArray 28))
  have hgt : 1 < w.heap.size := block_lt_of_cell (HT.out 0 (by omega))
  have HGT := Lib.hid hgt
  clear g1 hz h8 hgt
  by_cases hs : s = 0 ∨ s = 1
  · have hns : (s != 0) = false ∨ ((s != 0) = true ∧ (s != 1) = false) := by
      rcases hs with h | h
      · rw [h]; exact .inl rfl
      · rw [h]; exact .inr ⟨rfl, rfl⟩
    have hso : 1 - s = 0 ∨ 1 - s = 1 := by omega
    have KI := Lib.hid (fun g W (h : Brd W g Z) (t : Tab W) => king_brd g Z s hZ W h t)
    have IC := Lib.hid (fun g W (h : Brd W g Z) (t : Tab W) => inCheck_any g Z s hs hZ W h t)
    have CH := Lib.hid (fun g W (h : Brd W g Z) (t : Tab W) => checkers_any g Z s hs hZ W h t)
    have AL := Lib.hid (fun g W (h : Brd W g Z) (t : Tab W) => aAll_any g Z (1 - s) hZ hZ8 W h t)
    have PI := Lib.hid (fun g W (h : Brd W g Z) => pieces_brd g Z (1 - s) hZ W h)
    rw [if_pos hso] at PI
    have SQ := Lib.hid (fun W (t : Tab W) (h : 1 < W.heap.size) => squares_any (sideN Z (1 - s)) (sideN_sq _ _) W t h)
    have HIN := Lib.hid (sqI_in (sideN Z (1 - s)))
    have HLE := Lib.hid (sqI_le (sideN Z (1 - s)))
    have HOK := Lib.hid (clrP_ok Z (sqI (sideN Z (1 - s))) hZ hZ8 hZc)
    have hcl := clr_none Z (1 - s) hso hZ hZ8 hZc
    have HHAS := Lib.hid (in_has Z s hs)
    have HIN0 := Lib.hid (in_none Z s)
    have hkr := king_rng Z s
    have HA := Lib.hid (fun W => has_any (allN Z (1 - s)) (kingF Z s) (allN_sq _ _) W)
    have EM := Lib.hid (fun W => empty_any (chkN Z s) W)
    have hci : inF Z s = !decide (chkN Z s = 0) := rfl
    have ho1 : wrap64 (1 - s) = 1 - s := wrap_other s hs
    have ho2 : IntKind.i64.wrap (1 - s) = 1 - s := by rw [wrap_i64_eq]; exact ho1
    generalize hl : sqI (sideN Z (1 - s)) = l at *
    have hZL := (HOK.out l.length (Nat.le_refl _))
    have IC2 := Lib.hid (fun g W (h : Brd W g (clrP Z l l.length)) (t : Tab W) => inCheck_any g (clrP Z l l.length) s hs hZL.1 W h t)
    have CH2 := Lib.hid (fun g W (h : Brd W g (clrP Z l l.length)) (t : Tab W) => checkers_any g (clrP Z l l.length) s hs hZL.1 W h t)
    have hc0 : chkN (clrP Z l l.length) s = 0 := hcl _ _
    have hi0 : inF (clrP Z l l.length) s = false := by unfold inF; rw [hc0]; rfl
    rw [hi0] at IC2
    rw [hc0] at CH2
    have EM2 := Lib.hid (fun W => empty_any 0 W)
    rw [decide_eq_true (rfl : (0 : Nat) = 0)] at EM2
    rw [lo_zero, hi_zero] at CH2 EM2
    clear hs hso hcl hZL hc0 hi0 hl hZ hZ8 hZc
    generalize loW (chkN Z s) = cl at *
    generalize hiW (chkN Z s) = ch at *
    generalize loW (allN Z (1 - s)) = al at *
    generalize hiW (allN Z (1 - s)) = ah at *
    generalize loW (sideN Z (1 - s)) = sl at *
    generalize hiW (sideN Z (1 - s)) = sh at *
    generalize hrr : inF Z s = r at *
    generalize hkk : kingF Z s = kk at *
    clear hrr hkk
    have hkk : kk = -1 ∨ 0 ≤ kk := by omega
    rcases hkk with rfl | hk0
    · have e := HIN0.out rfl
      rw [e] at IC hci
      have hd : decide (chkN Z s = 0) = true := by simpa using hci.symm
      rw [hd] at EM
      clear HHAS hci hd hkr
      rcases hns with hs1 | ⟨hs1, hs2⟩
      · skip
        go_enter Tryd.func8, Tryd.ntmps8
        go_upto_region 1 with fail
        generalize w.alloc (.cells (posC z).toArray 28) = w0 at *
        go_upto_region 4 with (first
          | (go_at_call 15; refine (AT.out _ (HT.out.grow HB.out)).mono ?_; rintro e w1 ⟨rfl, hb⟩; replace HP := Lib.hid (HP.out.grow hb); replace HB := Lib.hid (bthen HB.out hb); clear hb)
          | (refine wpList_load_mid rfl 28 _ rfl w.heap.size 0 rfl (posC z) _ HP.out.range Tryd.underlying28 rfl HINF0.out ?_)
          | (go_at_call 16; refine (CL.out _).mono ?_; rintro e w2 ⟨rfl, hb⟩; replace HP := Lib.hid (HP.out.grow hb); replace HB := Lib.hid (bthen HB.out hb); clear hb)
          | (refine wpList_store_row rfl 28 _ _ rfl w.heap.size (posC Z).toArray rfl rfl 28 _ HP.out (by rw [List.size_toArray]; exact HINF.out) HSC.out (posC_one Z) ?_))
        replace HB := Lib.hid (below_row HB.out (Nat.le_refl _) (posC Z).toArray)
        replace HP := Lib.hid (show PosAt (w2.setRow w.heap.size (posC Z).toArray) w.heap.size Z from setRow_heap _ _ _ _ _ _ HP.out)
        generalize w2.setRow w.heap.size (posC Z).toArray = w3 at *
        go_wp2_with (first
          | (refine wpList_load_mid rfl 28 _ rfl w.heap.size 0 rfl (posC Z) _ HP.out.range Tryd.underlying28 rfl HINF.out ?_)
          | (go_at_call 19; refine (NE.out _).mono ?_; rintro e w4 ⟨g, rfl, hg, hbd, hb⟩; have HG := Lib.hid (Nat.le_trans HB.out.size hg); replace HP := Lib.hid (HP.out.grow hb); replace HB := Lib.hid (bthen HB.out hb); clear hb hg; have HBD := Lib.hid (show BrdAt w4 g Z (setAt Z) from hbd); clear hbd)
          | (go_at_call 40; refine (KI.out _ _ HBD.out (HT.out.grow HB.out)).mono ?_; rintro e w5 ⟨rfl, hb⟩; replace HBD := Lib.hid (BrdAt.grow HBD.out hb); replace HB := Lib.hid (bthen HB.out hb); clear hb)
          | (go_at_call 29; refine (IC.out _ _ HBD.out (HT.out.grow HB.out)).mono ?_; rintro e w6 ⟨rfl, hb⟩; replace HBD := Lib.hid (BrdAt.grow HBD.out hb); replace HB := Lib.hid (bthen HB.out hb); clear hb)
          | (go_at_call 31; refine (CH.out _ _ HBD.out (HT.out.grow HB.out)).mono ?_; rintro e w7 ⟨rfl, hb⟩; replace HBD := Lib.hid (BrdAt.grow HBD.out hb); replace HB := Lib.hid (bthen HB.out hb); clear hb)
          | (go_at_call 20; refine (EM.out _).mono ?_; rintro e w8 ⟨rfl, hb⟩; replace HBD := Lib.hid (BrdAt.grow HBD.out hb); replace HB := Lib.hid (bthen HB.out hb); clear hb))
        go_ret
        exact ⟨rfl, HB.out⟩
      · skip
        go_enter Tryd.func8, Tryd.ntmps8
        go_upto_region 1 with fail
        generalize w.alloc (.cells (posC z).toArray 28) = w0 at *
        go_upto_region 4 with (first
          | (go_at_call 15; refine (AT.out _ (HT.out.grow HB.out)).mono ?_; rintro e w1 ⟨rfl, hb⟩; replace HP := Lib.hid (HP.out.grow hb); replace HB := Lib.hid (bthen HB.out hb); clear hb)
          | (refine wpList_load_mid rfl 28 _ rfl w.heap.size 0 rfl (posC z) _ HP.out.range Tryd.underlying28 rfl HINF0.out ?_)
          | (go_at_call 16; refine (CL.out _).mono ?_; rintro e w2 ⟨rfl, hb⟩; replace HP := Lib.hid (HP.out.grow hb); replace HB := Lib.hid (bthen HB.out hb); clear hb)
          | (refine wpList_store_row rfl 28 _ _ rfl w.heap.size (posC Z).toArray rfl rfl 28 _ HP.out (by rw [List.size_toArray]; exact HINF.out) HSC.out (posC_one Z) ?_))
        replace HB := Lib.hid (below_row HB.out (Nat.le_refl _) (posC Z).toArray)
        replace HP := Lib.hid (show PosAt (w2.setRow w.heap.size (posC Z).toArray) w.heap.size Z from setRow_heap _ _ _ _ _ _ HP.out)
        generalize w2.setRow w.heap.size (posC Z).toArray = w3 at *
        go_wp2_with (first
          | (refine wpList_load_mid rfl 28 _ rfl w.heap.size 0 rfl (posC Z) _ HP.out.range Tryd.underlying28 rfl HINF.out ?_)
          | (go_at_call 19; refine (NE.out _).mono ?_; rintro e w4 ⟨g, rfl, hg, hbd, hb⟩; have HG := Lib.hid (Nat.le_trans HB.out.size hg); replace HP := Lib.hid (HP.out.grow hb); replace HB := Lib.hid (bthen HB.out hb); clear hb hg; have HBD := Lib.hid (show BrdAt w4 g Z (setAt Z) from hbd); clear hbd)
          | (go_at_call 40; refine (KI.out _ _ HBD.out (HT.out.grow HB.out)).mono ?_; rintro e w5 ⟨rfl, hb⟩; replace HBD := Lib.hid (BrdAt.grow HBD.out hb); replace HB := Lib.hid (bthen HB.out hb); clear hb)
          | (go_at_call 29; refine (IC.out _ _ HBD.out (HT.out.grow HB.out)).mono ?_; rintro e w6 ⟨rfl, hb⟩; replace HBD := Lib.hid (BrdAt.grow HBD.out hb); replace HB := Lib.hid (bthen HB.out hb); clear hb)
          | (go_at_call 31; refine (CH.out _ _ HBD.out (HT.out.grow HB.out)).mono ?_; rintro e w7 ⟨rfl, hb⟩; replace HBD := Lib.hid (BrdAt.grow HBD.out hb); replace HB := Lib.hid (bthen HB.out hb); clear hb)
          | (go_at_call 20; refine (EM.out _).mono ?_; rintro e w8 ⟨rfl, hb⟩; replace HBD := Lib.hid (BrdAt.grow HBD.out hb); replace HB := Lib.hid (bthen HB.out hb); clear hb))
        go_ret
        exact ⟨rfl, HB.out⟩
    · have e := HHAS.out hk0
      rw [e] at HA
      have n1 : ¬ kk < 0 := by omega
      clear HHAS HIN0 hci hkr hk0 EM CH
      rcases hns with hs1 | ⟨hs1, hs2⟩
      · skip
        go_enter Tryd.func8, Tryd.ntmps8
        go_upto_region 1 with fail
        generalize w.alloc (.cells (posC z).toArray 28) = w0 at *
        go_upto_region 4 with (first
          | (go_at_call 15; refine (AT.out _ (HT.out.grow HB.out)).mono ?_; rintro e w1 ⟨rfl, hb⟩; replace HP := Lib.hid (HP.out.grow hb); replace HB := Lib.hid (bthen HB.out hb); clear hb)
          | (refine wpList_load_mid rfl 28 _ rfl w.heap.size 0 rfl (posC z) _ HP.out.range Tryd.underlying28 rfl HINF0.out ?_)
          | (go_at_call 16; refine (CL.out _).mono ?_; rintro e w2 ⟨rfl, hb⟩; replace HP := Lib.hid (HP.out.grow hb); replace HB := Lib.hid (bthen HB.out hb); clear hb)
          | (refine wpList_store_row rfl 28 _ _ rfl w.heap.size (posC Z).toArray rfl rfl 28 _ HP.out (by rw [List.size_toArray]; exact HINF.out) HSC.out (posC_one Z) ?_))
        replace HB := Lib.hid (below_row HB.out (Nat.le_refl _) (posC Z).toArray)
        replace HP := Lib.hid (show PosAt (w2.setRow w.heap.size (posC Z).toArray) w.heap.size Z from setRow_heap _ _ _ _ _ _ HP.out)
        generalize w2.setRow w.heap.size (posC Z).toArray = w3 at *
        go_wp2_with (first
          | (refine wpList_load_mid rfl 28 _ rfl w.heap.size 0 rfl (posC Z) _ HP.out.range Tryd.underlying28 rfl HINF.out ?_)
          | (go_at_call 19; refine (NE.out _).mono ?_; rintro e w4 ⟨g, rfl, hg, hbd, hb⟩; have HG := Lib.hid (Nat.le_trans HB.out.size hg); replace HP := Lib.hid (HP.out.grow hb); replace HB := Lib.hid (bthen HB.out hb); clear hb hg; have HBD := Lib.hid (show BrdAt w4 g Z (setAt Z) from hbd); clear hbd)
          | (go_at_call 40; refine (KI.out _ _ HBD.out (HT.out.grow HB.out)).mono ?_; rintro e w5 ⟨rfl, hb⟩; replace HBD := Lib.hid (BrdAt.grow HBD.out hb); replace HB := Lib.hid (bthen HB.out hb); clear hb)
          | (go_at_call 29; refine (IC.out _ _ HBD.out (HT.out.grow HB.out)).mono ?_; rintro e w6 ⟨rfl, hb⟩; replace HBD := Lib.hid (BrdAt.grow HBD.out hb); replace HB := Lib.hid (bthen HB.out hb); clear hb)
          | (go_at_call 24; refine (AL.out _ _ HBD.out (HT.out.grow HB.out)).mono ?_; rintro e w7 ⟨rfl, hb⟩; replace HBD := Lib.hid (BrdAt.grow HBD.out hb); replace HB := Lib.hid (bthen HB.out hb); clear hb)
          | (go_at_call 26; refine (HA.out _).mono ?_; rintro e w8 ⟨rfl, hb⟩; replace HBD := Lib.hid (BrdAt.grow HBD.out hb); replace HB := Lib.hid (bthen HB.out hb); clear hb)
          | (go_at_call 41; refine (PI.out _ _ HBD.out).mono ?_; rintro e w9 ⟨rfl, hb⟩; replace HBD := Lib.hid (BrdAt.grow HBD.out hb); replace HB := Lib.hid (bthen HB.out hb); clear hb; have hlt9 := HBD.out.lt)
          | (go_at_call 42; refine (SQ.out _ (HT.out.grow HB.out) (Nat.lt_of_lt_of_le HGT.out HB.out.size)).mono ?_; rintro e wa ⟨v, rfl, hv, hb⟩; obtain ⟨ao, cap, rfl, hp⟩ := hv.uni'; replace HBD := Lib.hid (BrdAt.grow HBD.out hb); replace HB := Lib.hid (bthen HB.out hb); clear hb))
        have HROW := Lib.hid (show l.length ≠ 0 → ∃ gr, ao = some ⟨gr, 0, none⟩ ∧ gr ≠ g ∧ gr < wa.heap.size ∧ ∀ (j : Nat) (hj : j < l.length), wa.cell? ⟨gr, j, none⟩ = some (.int .i64 l[j]) from fun h => by
          obtain ⟨gr, e1, e2, e3, e4⟩ := hp h
          exact ⟨gr, e1, by omega, e3, e4⟩)
        clear hp hv hlt9 SQ PI AL HA IC KI NE CL AT
        go_loopw [52] (fun i wr => ∃ j : Nat, j ≤ l.length ∧ i = .int .i64 j ∧ Brd wr g (clrP Z l j) ∧ But g wa wr) (fun i _ => l.length - (intOf i).toNat)
        case atStart => exact ⟨0, Nat.zero_le _, rfl, by rw [clrP_zero]; exact HBD.out, But.refl _ _⟩
        case round =>
          obtain ⟨j, hj, rfl, hBR, hBT⟩ := hrel
          have hle : l.length ≤ 81 := HLE.out
          by_cases hlt : j < l.length
          · obtain ⟨gr, rfl, hne, hgr, hcs⟩ := HROW.out (by omega)
            have c0 : wr.cell? ⟨gr, j, none⟩ = some (.int .i64 l[j]) := (hBT.cell (p := ⟨gr, j, none⟩) hgr hne).trans (hcs j hlt)
            have ok := HOK.out j hj
            have PU := Lib.hid (put_any g (clrP Z l j) l[j] 0 (by omega) ok.1 ok.2.2 wr hBR)
            rw [← clrP_step Z l j hlt] at PU
            have HBT := Lib.hid hBT
            clear hcs ok hBR hBT
            generalize l[j] = q at c0 PU
            go_wp2_with (go_at_call 43; refine PU.out.mono ?_; rintro e wp ⟨rfl, hbp, hbt⟩)
            go_roundw
            case rel => exact ⟨j + 1, by omega, by go_num, hbp, HBT.out.trans hbt⟩
            case measure => simp [intOf]; omega
          · obtain rfl : j = l.length := by omega
            replace HB := Lib.hid (HB.out.trans (hBT.below HG.out HB.out.size))
            replace HBD := Lib.hid (show BrdAt wr g (clrP Z l l.length) (setAt (clrP Z l l.length)) from hBR)
            clear hBR hBT hlt
            go_wp2_with (first
              | (go_at_call 29; refine (IC2.out _ _ HBD.out (HT.out.grow HB.out)).mono ?_; rintro e wb ⟨rfl, hb⟩; replace HBD := Lib.hid (BrdAt.grow HBD.out hb); replace HB := Lib.hid (bthen HB.out hb); clear hb)
              | (go_at_call 31; refine (CH2.out _ _ HBD.out (HT.out.grow HB.out)).mono ?_; rintro e wc ⟨rfl, hb⟩; replace HBD := Lib.hid (BrdAt.grow HBD.out hb); replace HB := Lib.hid (bthen HB.out hb); clear hb)
              | (go_at_call 20; refine (EM2.out _).mono ?_; rintro e wd ⟨rfl, hb⟩; replace HBD := Lib.hid (BrdAt.grow HBD.out hb); replace HB := Lib.hid (bthen HB.out hb); clear hb))
            go_ret
            exact ⟨rfl, HB.out⟩
      · skip
        go_enter Tryd.func8, Tryd.ntmps8
        go_upto_region 1 with fail
        generalize w.alloc (.cells (posC z).toArray 28) = w0 at *
        go_upto_region 4 with (first
          | (go_at_call 15; refine (AT.out _ (HT.out.grow HB.out)).mono ?_; rintro e w1 ⟨rfl, hb⟩; replace HP := Lib.hid (HP.out.grow hb); replace HB := Lib.hid (bthen HB.out hb); clear hb)
          | (refine wpList_load_mid rfl 28 _ rfl w.heap.size 0 rfl (posC z) _ HP.out.range Tryd.underlying28 rfl HINF0.out ?_)
          | (go_at_call 16; refine (CL.out _).mono ?_; rintro e w2 ⟨rfl, hb⟩; replace HP := Lib.hid (HP.out.grow hb); replace HB := Lib.hid (bthen HB.out hb); clear hb)
          | (refine wpList_store_row rfl 28 _ _ rfl w.heap.size (posC Z).toArray rfl rfl 28 _ HP.out (by rw [List.size_toArray]; exact HINF.out) HSC.out (posC_one Z) ?_))
        replace HB := Lib.hid (below_row HB.out (Nat.le_refl _) (posC Z).toArray)
        replace HP := Lib.hid (show PosAt (w2.setRow w.heap.size (posC Z).toArray) w.heap.size Z from setRow_heap _ _ _ _ _ _ HP.out)
        generalize w2.setRow w.heap.size (posC Z).toArray = w3 at *
        go_wp2_with (first
          | (refine wpList_load_mid rfl 28 _ rfl w.heap.size 0 rfl (posC Z) _ HP.out.range Tryd.underlying28 rfl HINF.out ?_)
          | (go_at_call 19; refine (NE.out _).mono ?_; rintro e w4 ⟨g, rfl, hg, hbd, hb⟩; have HG := Lib.hid (Nat.le_trans HB.out.size hg); replace HP := Lib.hid (HP.out.grow hb); replace HB := Lib.hid (bthen HB.out hb); clear hb hg; have HBD := Lib.hid (show BrdAt w4 g Z (setAt Z) from hbd); clear hbd)
          | (go_at_call 40; refine (KI.out _ _ HBD.out (HT.out.grow HB.out)).mono ?_; rintro e w5 ⟨rfl, hb⟩; replace HBD := Lib.hid (BrdAt.grow HBD.out hb); replace HB := Lib.hid (bthen HB.out hb); clear hb)
          | (go_at_call 29; refine (IC.out _ _ HBD.out (HT.out.grow HB.out)).mono ?_; rintro e w6 ⟨rfl, hb⟩; replace HBD := Lib.hid (BrdAt.grow HBD.out hb); replace HB := Lib.hid (bthen HB.out hb); clear hb)
          | (go_at_call 24; refine (AL.out _ _ HBD.out (HT.out.grow HB.out)).mono ?_; rintro e w7 ⟨rfl, hb⟩; replace HBD := Lib.hid (BrdAt.grow HBD.out hb); replace HB := Lib.hid (bthen HB.out hb); clear hb)
          | (go_at_call 26; refine (HA.out _).mono ?_; rintro e w8 ⟨rfl, hb⟩; replace HBD := Lib.hid (BrdAt.grow HBD.out hb); replace HB := Lib.hid (bthen HB.out hb); clear hb)
          | (go_at_call 41; refine (PI.out _ _ HBD.out).mono ?_; rintro e w9 ⟨rfl, hb⟩; replace HBD := Lib.hid (BrdAt.grow HBD.out hb); replace HB := Lib.hid (bthen HB.out hb); clear hb; have hlt9 := HBD.out.lt)
          | (go_at_call 42; refine (SQ.out _ (HT.out.grow HB.out) (Nat.lt_of_lt_of_le HGT.out HB.out.size)).mono ?_; rintro e wa ⟨v, rfl, hv, hb⟩; obtain ⟨ao, cap, rfl, hp⟩ := hv.uni'; replace HBD := Lib.hid (BrdAt.grow HBD.out hb); replace HB := Lib.hid (bthen HB.out hb); clear hb))
        have HROW := Lib.hid (show l.length ≠ 0 → ∃ gr, ao = some ⟨gr, 0, none⟩ ∧ gr ≠ g ∧ gr < wa.heap.size ∧ ∀ (j : Nat) (hj : j < l.length), wa.cell? ⟨gr, j, none⟩ = some (.int .i64 l[j]) from fun h => by
          obtain ⟨gr, e1, e2, e3, e4⟩ := hp h
          exact ⟨gr, e1, by omega, e3, e4⟩)
        clear hp hv hlt9 SQ PI AL HA IC KI NE CL AT
        go_loopw [52] (fun i wr => ∃ j : Nat, j ≤ l.length ∧ i = .int .i64 j ∧ Brd wr g (clrP Z l j) ∧ But g wa wr) (fun i _ => l.length - (intOf i).toNat)
        case atStart => exact ⟨0, Nat.zero_le _, rfl, by rw [clrP_zero]; exact HBD.out, But.refl _ _⟩
        case round =>
          obtain ⟨j, hj, rfl, hBR, hBT⟩ := hrel
          have hle : l.length ≤ 81 := HLE.out
          by_cases hlt : j < l.length
          · obtain ⟨gr, rfl, hne, hgr, hcs⟩ := HROW.out (by omega)
            have c0 : wr.cell? ⟨gr, j, none⟩ = some (.int .i64 l[j]) := (hBT.cell (p := ⟨gr, j, none⟩) hgr hne).trans (hcs j hlt)
            have ok := HOK.out j hj
            have PU := Lib.hid (put_any g (clrP Z l j) l[j] 0 (by omega) ok.1 ok.2.2 wr hBR)
            rw [← clrP_step Z l j hlt] at PU
            have HBT := Lib.hid hBT
            clear hcs ok hBR hBT
            generalize l[j] = q at c0 PU
            go_wp2_with (go_at_call 43; refine PU.out.mono ?_; rintro e wp ⟨rfl, hbp, hbt⟩)
            go_roundw
            case rel => exact ⟨j + 1, by omega, by go_num, hbp, HBT.out.trans hbt⟩
            case measure => simp [intOf]; omega
          · obtain rfl : j = l.length := by omega
            replace HB := Lib.hid (HB.out.trans (hBT.below HG.out HB.out.size))
            replace HBD := Lib.hid (show BrdAt wr g (clrP Z l l.length) (setAt (clrP Z l l.length)) from hBR)
            clear hBR hBT hlt
            go_wp2_with (first
              | (go_at_call 29; refine (IC2.out _ _ HBD.out (HT.out.grow HB.out)).mono ?_; rintro e wb ⟨rfl, hb⟩; replace HBD := Lib.hid (BrdAt.grow HBD.out hb); replace HB := Lib.hid (bthen HB.out hb); clear hb)
              | (go_at_call 31; refine (CH2.out _ _ HBD.out (HT.out.grow HB.out)).mono ?_; rintro e wc ⟨rfl, hb⟩; replace HBD := Lib.hid (BrdAt.grow HBD.out hb); replace HB := Lib.hid (bthen HB.out hb); clear hb)
              | (go_at_call 20; refine (EM2.out _).mono ?_; rintro e wd ⟨rfl, hb⟩; replace HBD := Lib.hid (BrdAt.grow HBD.out hb); replace HB := Lib.hid (bthen HB.out hb); clear hb))
            go_ret
            exact ⟨rfl, HB.out⟩
  · have n1 : (s != 0) = true := by simpa using fun h => hs (.inl h)
    have n2 : (s != 1) = true := by simpa using fun h => hs (.inr h)
    clear hZ hZ8 hZc
    go_enter Tryd.func8, Tryd.ntmps8
    go_upto_region 1 with fail
    generalize w.alloc (.cells (posC z).toArray 28) = w0 at *
    go_upto_region 4 with (first
      | (go_at_call 15; refine (AT.out _ (HT.out.grow HB.out)).mono ?_; rintro e w1 ⟨rfl, hb⟩; replace HP := Lib.hid (HP.out.grow hb); replace HB := Lib.hid (bthen HB.out hb); clear hb)
      | (refine wpList_load_mid rfl 28 _ rfl w.heap.size 0 rfl (posC z) _ HP.out.range Tryd.underlying28 rfl HINF0.out ?_)
      | (go_at_call 16; refine (CL.out _).mono ?_; rintro e w2 ⟨rfl, hb⟩; replace HP := Lib.hid (HP.out.grow hb); replace HB := Lib.hid (bthen HB.out hb); clear hb)
      | (refine wpList_store_row rfl 28 _ _ rfl w.heap.size (posC Z).toArray rfl rfl 28 _ HP.out (by rw [List.size_toArray]; exact HINF.out) HSC.out (posC_one Z) ?_))
    replace HB := Lib.hid (below_row HB.out (Nat.le_refl _) (posC Z).toArray)
    generalize w2.setRow w.heap.size (posC Z).toArray = w3 at *
    go_wp2
    go_ret
    exact ⟨rfl, HB.out⟩
end Go.Proofs.YtilhicohfnaclaaDoor.attackKings
