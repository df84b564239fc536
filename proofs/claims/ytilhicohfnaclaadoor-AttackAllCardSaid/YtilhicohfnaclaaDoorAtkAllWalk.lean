/-
  The walk of the law AttackAll.
-/
import Derived.Test.YtilhicohfnaclaaDoorAtkHead
import Derived.Test.YtilhicohfnaclaaDoorAtkRef2
namespace Go.Proofs.YtilhicohfnaclaaDoor.attackAll
open Go.RowKit
set_option maxRecDepth 100000
set_option linter.unusedVariables false
set_option linter.unusedSimpArgs false

set_option maxHeartbeats 8000000 in
theorem walk (z : List Int) (s : Int) (hz : z.length = 98) (h8 : I8s z) (g1 : (Lit.int .i64 s).wf = true) (w : World) (hT : Tab w) :
    Calls Tryd.prog 4 #[.agg (posC z).toArray, .int .i64 s] w fun e w' => e = .returned (.bool true) ∧ Below w.heap.size w w' := by
  have AT := Lib.hid (fun W (t : Tab W) => attacks_true W t)
  have CL := Lib.hid (fun W => clean8_any z hz h8 W)
  have hZ := newZ_len z hz
  have hZ8 := newZ_8 z h8
  have hZc := newZ_clean z hz
  have HINF0 := Lib.hid (show (Tryd.prog.info? 28).map (·.size) = some (posC z).length by rw [posC_len, hz]; exact infoPos)
  have HINF := Lib.hid (show (Tryd.prog.info? 28).map (·.size) = some (posC (newZ z)).length by rw [posC_len, hZ]; exact infoPos)
  have HSC := Lib.hid (show (posC z).toArray.size = (posC (newZ z)).toArray.size by rw [List.size_toArray, List.size_toArray, posC_len, posC_len, hz, hZ])
  have HT := Lib.hid hT
  clear hT
  generalize newZ z = Z at *
  have NE := Lib.hid (fun W => new_brd Z hZ hZ8 W)
  rw [newZ_self Z hZ hZc] at NE
  have AL := Lib.hid (fun g W (h : Brd W g Z) (t : Tab W) => aAll_any g Z s hZ hZ8 W h t)
  have TK := Lib.hid (fun W => refTaken_any Z hZ W)
  rw [nzN_taken Z hZc, ← arrL_arr] at TK
  have HP := Lib.hid (PosAt.new w z)
  have HB := Lib.hid (ball (bref w) (.cells (posC z).toArray 28))
  have hz0 := zero_arrB
  have EM := Lib.hid (fun W => empty_any (allN Z s) W)
  have HANY := Lib.hid (fun q W => has_any (allN Z s) q (allN_sq Z s) W)
  have HTEST := Lib.hid (fun (hs : s = 0 ∨ s = 1) q hq => all_test Z s hs q hq)
  have HNIL := Lib.hid (fun (hs : s = 0 ∨ s = 1) q hq => onL_nil Z q s (takenN Z) hs hq)
  have HNO := Lib.hid (show ¬ (s = 0 ∨ s = 1) → allN Z s = 0 from fun h => if_neg h)
  have HZ := Lib.hid hZ
  have HZ8 := Lib.hid hZ8
  rw [show sideN Z 0 ||| sideN Z 1 = takenN Z from rfl] at HTEST
  clear g1 hZ hZ8 hZc hz h8
  generalize takenN Z = n at *
  generalize allN Z s = N at *
  have HINFA := Lib.hid (show (Tryd.prog.info? 42).map (·.size) = some (arrL n).length by rw [arrL_len]; kernel_rfl)
  have HINFB := Lib.hid (show (Tryd.prog.info? 42).map (·.size) = some (arrL n).toArray.size by rw [List.size_toArray]; exact HINFA.out)
  have HSA := Lib.hid (show zA.size = (arrL n).toArray.size by simp [zA, arrL])
  have HONE := Lib.hid (show (arrL n).toArray.all (·.oneCell') = true from all_bool _ _)
  generalize loW N = x at *
  generalize hiW N = y at *
  go_enter Tryd.func4, Tryd.ntmps4
  go_upto_region 1 with fail
  generalize w.alloc (.cells (posC z).toArray 28) = w0 at *
  go_upto_region 4 with (first
    | (go_at_call 15; refine (AT.out _ (HT.out.grow HB.out)).mono ?_; rintro e w1 ⟨rfl, hb⟩; replace HP := Lib.hid (HP.out.grow hb); replace HB := Lib.hid (bthen HB.out hb); clear hb)
    | (refine wpList_load_mid rfl 28 _ rfl w.heap.size 0 rfl (posC z) _ HP.out.range Tryd.underlying28 rfl HINF0.out ?_)
    | (go_at_call 16; refine (CL.out _).mono ?_; rintro e w2 ⟨rfl, hb⟩; replace HP := Lib.hid (HP.out.grow hb); replace HB := Lib.hid (bthen HB.out hb); clear hb)
    | (refine wpList_store_row rfl 28 _ _ rfl w.heap.size (posC Z).toArray rfl rfl 28 _ HP.out (by rw [List.size_toArray]; exact HINF.out) HSC.out (posC_one Z) ?_))
  replace HB := Lib.hid (below_row HB.out (Nat.le_refl _) (posC Z).toArray)
  replace HP := Lib.hid (show PosAt (w2.setRow w.heap.size (posC Z).toArray) w.heap.size Z from setRow_heap _ _ _ _ _ _ HP.out)
  generalize w2.setRow w.heap.size (posC Z).toArray = w3 at *
  go_upto_region 5 with (first
    | (refine wpList_load_mid rfl 28 _ rfl w.heap.size 0 rfl (posC Z) _ HP.out.range Tryd.underlying28 rfl HINF.out ?_)
    | (go_at_call 19; refine (NE.out _).mono ?_; rintro e w4 ⟨g, rfl, hg, hbd, hb⟩; replace HP := Lib.hid (HP.out.grow hb); replace HB := Lib.hid (bthen HB.out hb); clear hb hg; have HBD := Lib.hid hbd)
    | (go_at_call 24; refine (AL.out _ _ HBD.out (HT.out.grow HB.out)).mono ?_; rintro e w5 ⟨rfl, hb⟩; replace HP := Lib.hid (HP.out.grow hb); replace HB := Lib.hid (bthen HB.out hb); clear hb))
  replace HP := Lib.hid (HP.out.grow (ball (bref w5) (.cells #[.int .u64 x, .int .u64 y] 32)))
  replace HB := Lib.hid (ball HB.out (.cells #[.int .u64 x, .int .u64 y] 32))
  have HC := Lib.hid (show (w5.alloc (.cells #[.int .u64 x, .int .u64 y] 32)).cell? ⟨w5.heap.size, 0, none⟩ = some (.int .u64 x) ∧ (w5.alloc (.cells #[.int .u64 x, .int .u64 y] 32)).cell? ⟨w5.heap.size, 1, none⟩ = some (.int .u64 y) from ⟨by go_simp, by go_simp⟩)
  have HPL := Lib.hid (show w5.heap.size < (w5.alloc (.cells #[.int .u64 x, .int .u64 y] 32)).heap.size by simp)
  generalize w5.alloc (.cells #[.int .u64 x, .int .u64 y] 32) = w6 at *
  generalize w5.heap.size = p at *
  by_cases hs : s = 0 ∨ s = 1
  · have n1 : s = 0 ∨ ((s != 0) = true ∧ (s != 1) = false) := by
      rcases hs with h | h
      · exact .inl h
      · rw [h]; exact .inr ⟨rfl, rfl⟩
    have hns : (s != 0) = false ∨ ((s != 0) = true ∧ (s != 1) = false) := by
      rcases n1 with h | h
      · rw [h]; exact .inl rfl
      · exact .inr h
    have HT2 := Lib.hid (fun q hq => HTEST.out hs q hq)
    have HN2 := Lib.hid (fun q hq => HNIL.out hs q hq)
    have BODY : ∀ (u : Array Value), u = u → True := fun _ _ => trivial
    clear HTEST HNIL HNO EM AL NE AT CL hs n1 BODY
    have c0 := HC.out.1
    have c1 := HC.out.2
    rcases hns with hs1 | ⟨hs1, hs2⟩
    · skip
      go_upto_region 8 with (first
        | (refine wpList_load_mid rfl 28 _ rfl w.heap.size 0 rfl (posC Z) _ HP.out.range Tryd.underlying28 rfl HINF.out ?_)
        | (go_at_call 25; refine (TK.out _).mono ?_; rintro e w7 ⟨rfl, hb⟩; replace HC := Lib.hid (show w7.cell? ⟨p, 0, none⟩ = some (.int .u64 x) ∧ w7.cell? ⟨p, 1, none⟩ = some (.int .u64 y) from ⟨(hb.cell (p := ⟨p, 0, none⟩) HPL.out).trans HC.out.1, (hb.cell (p := ⟨p, 1, none⟩) HPL.out).trans HC.out.2⟩); replace HPL := Lib.hid (Nat.lt_of_lt_of_le HPL.out hb.size); replace HP := Lib.hid (HP.out.grow hb); replace HB := Lib.hid (bthen HB.out hb); clear hb)
        | (refine wpList_store_row rfl 42 _ _ rfl w7.heap.size (arrL n).toArray rfl rfl 42 zA (heap_alloc_new w7 _) HINFB.out HSA.out HONE.out ?_))
      have R2 := Lib.hid (show ((w7.alloc (.cells zA 42)).setRow w7.heap.size (arrL n).toArray).heap[w7.heap.size]? = some (.cells (arrL n).toArray 42) from setRow_heap _ _ _ _ _ _ (heap_alloc_new w7 _))
      have hb2 : Below w7.heap.size w7 ((w7.alloc (.cells zA 42)).setRow w7.heap.size (arrL n).toArray) := below_row (ball (bref w7) _) (Nat.le_refl _) _
      replace HB := Lib.hid (bthen HB.out hb2)
      replace HP := Lib.hid (HP.out.grow hb2)
      replace HC := Lib.hid (show _ ∧ _ from ⟨(hb2.cell (p := ⟨p, 0, none⟩) HPL.out).trans HC.out.1, (hb2.cell (p := ⟨p, 1, none⟩) HPL.out).trans HC.out.2⟩)
      replace HPL := Lib.hid (Nat.lt_of_lt_of_le HPL.out hb2.size)
      have HL2 := Lib.hid (show w7.heap.size < ((w7.alloc (.cells zA 42)).setRow w7.heap.size (arrL n).toArray).heap.size by simp)
      clear hb2 c0 c1
      generalize (w7.alloc (.cells zA 42)).setRow w7.heap.size (arrL n).toArray = w8 at *
      generalize w7.heap.size = ga at *
      go_wp2_with fail
      go_loopw [7] (fun i wr => ∃ k : Nat, k ≤ 81 ∧ i = .int .i64 k ∧ Below w8.heap.size w8 wr) (fun i _ => 81 - (intOf i).toNat)
      case atStart => exact ⟨0, by omega, rfl, bref _⟩
      case round =>
        obtain ⟨k, hk, rfl, hW⟩ := hrel
        have HW := Lib.hid hW
        by_cases hlt : k < 81
        · have ON := Lib.hid (fun W => refAt_any Z k s n HZ.out HZ8.out W)
          rw [if_pos (by omega)] at ON
          have HA := Lib.hid (fun W => HANY.out k W)
          have ht := HT2.out k hlt
          have hn := HN2.out k hlt
          have HCW := Lib.hid (show wr.cell? ⟨p, 0, none⟩ = some (.int .u64 x) ∧ wr.cell? ⟨p, 1, none⟩ = some (.int .u64 y) from ⟨(hW.cell (p := ⟨p, 0, none⟩) HPL.out).trans HC.out.1, (hW.cell (p := ⟨p, 1, none⟩) HPL.out).trans HC.out.2⟩)
          replace HPL := Lib.hid (Nat.lt_of_lt_of_le HPL.out hW.size)
          have HPW := Lib.hid (HP.out.grow hW)
          have HGA := Lib.hid (Nat.lt_of_lt_of_le HL2.out hW.size)
          have HRW := Lib.hid (show wr.rangeAt ga 0 (arrL n) from row_range ((hW.block ga HL2.out).trans R2.out))
          replace HC := HCW
          rw [has_nat N k hlt] at HA
          by_cases h0 : onN Z k s n = 0
          · rw [decide_eq_true h0, Bool.not_true] at ht
            rw [ht] at HA
            have hl : (onL Z k s n 81).length = 0 := by rw [hn.2 h0]; rfl
            clear hn h0 ht hW HCW
            generalize onL Z k s n 81 = L at ON hl
            go_wp2_with fail
            refine wp_region_held_drew (S := fun W => Below wr.heap.size wr W ∧ W.cell? ⟨p, 0, none⟩ = some (.int .u64 x) ∧ W.cell? ⟨p, 1, none⟩ = some (.int .u64 y) ∧ PosAt W w.heap.size Z ∧ W.rangeAt ga 0 (arrL n)) (by kernel_rfl) ?_ (fun hHeld => ?_)
            · exact ⟨(bref wr).drew, HC.out.1, HC.out.2, HPW.out, HRW.out⟩
            refine wpAnyH_take (i := 0) (v := ?v1) rfl (by kernel_rfl) (by kernel_rfl) (by kernel_rfl) (fun _ _ _ h => h) (Or.inl ⟨by rfl, ?y1⟩) (by assumption) ?r1
            case y1 => (intro w hSw; have q0 := hSw.2.1; have q1 := hSw.2.2.1; (go_simp <;> first | with_reducible rfl | (rw [if_pos (by omega)] <;> with_reducible rfl)))
            try simp only [Act.put, List.getElem_toArray, List.getElem_cons_zero, List.getElem_cons_succ, List.setIfInBounds_toArray, List.set_cons_zero, List.set_cons_succ]
            refine wpAnyH_take (i := 1) (v := ?v2) rfl (by kernel_rfl) (by kernel_rfl) (by kernel_rfl) (fun _ _ _ h => h) (Or.inl ⟨by rfl, ?y2⟩) (by assumption) ?r2
            case y2 => (intro w hSw; (go_simp <;> first | with_reducible rfl | (rw [if_pos (by omega)] <;> with_reducible rfl)))
            try simp only [Act.put, List.getElem_toArray, List.getElem_cons_zero, List.getElem_cons_succ, List.setIfInBounds_toArray, List.set_cons_zero, List.set_cons_succ]
            refine wpAnyH_take (i := 3) rfl (by kernel_rfl) (by kernel_rfl) (by kernel_rfl) (fun _ _ _ h => h) (yieldsIf_load_mid (by rfl) _ _ rfl _ _ rfl (posC Z) _ (fun w h => h.2.2.2.1.range) (Tryd.underlying28) rfl (HINF.out)) (by assumption) ?_
            try simp only [Act.put, List.getElem_toArray, List.getElem_cons_zero, List.getElem_cons_succ, List.setIfInBounds_toArray, List.set_cons_zero, List.set_cons_succ]
            refine wpAnyH_take (i := 4) (v := ?v3) rfl (by kernel_rfl) (by kernel_rfl) (by kernel_rfl) (fun _ _ _ h => h) (Or.inl ⟨by rfl, ?y3⟩) (by assumption) ?r3
            case y3 => (intro w hSw; (go_simp <;> first | with_reducible rfl | (rw [if_pos (by omega)] <;> with_reducible rfl)))
            try simp only [Act.put, List.getElem_toArray, List.getElem_cons_zero, List.getElem_cons_succ, List.setIfInBounds_toArray, List.set_cons_zero, List.set_cons_succ]
            refine wpAnyH_take (i := 5) (v := ?v4) rfl (by kernel_rfl) (by kernel_rfl) (by kernel_rfl) (fun _ _ _ h => h) (Or.inl ⟨by rfl, ?y4⟩) (by assumption) ?r4
            case y4 => (intro w hSw; (go_simp <;> first | with_reducible rfl | (rw [if_pos (by omega)] <;> with_reducible rfl)))
            try simp only [Act.put, List.getElem_toArray, List.getElem_cons_zero, List.getElem_cons_succ, List.setIfInBounds_toArray, List.set_cons_zero, List.set_cons_succ]
            refine wpAnyH_take (i := 6) rfl (by kernel_rfl) (by kernel_rfl) (by kernel_rfl) (fun _ _ _ h => h) (yieldsIf_load_mid (by rfl) _ _ rfl _ _ rfl (arrL n) _ (fun w h => h.2.2.2.2) (Tryd.underlying42) rfl (HINFA.out)) (by assumption) ?_
            try simp only [Act.put, List.getElem_toArray, List.getElem_cons_zero, List.getElem_cons_succ, List.setIfInBounds_toArray, List.set_cons_zero, List.set_cons_succ]
            refine wpAnyH_ready (rs := [2]) (by kernel_rfl) (by simp) ?_
            refine AllReadyH.cons rfl (fun K hK => ?_) AllReadyH.nil
            rw [if_pos (by rfl)]
            go_simp
            go_at_call 26
            refine (HA.out _).mono ?_
            rintro e wn ⟨rfl, hb⟩
            refine hK.out _ _ (⟨bthen hHeld.1 hb, (hb.cell (p := ⟨p, 0, none⟩) (Nat.lt_of_lt_of_le HPL.out hHeld.1.size)).trans hHeld.2.1, (hb.cell (p := ⟨p, 1, none⟩) (Nat.lt_of_lt_of_le HPL.out hHeld.1.size)).trans hHeld.2.2.1, hHeld.2.2.2.1.grow hb, range_grow hHeld.2.2.2.2 (Nat.lt_of_lt_of_le HGA.out hHeld.1.size) hb⟩) (fun hHeld => ?_)
            clear hK K
            try simp only [Act.put, List.getElem_toArray, List.getElem_cons_zero, List.getElem_cons_succ, List.setIfInBounds_toArray, List.set_cons_zero, List.set_cons_succ]
            refine wpAnyH_ready (rs := [7]) (by kernel_rfl) (by simp) ?_
            refine AllReadyH.cons rfl (fun K hK => ?_) AllReadyH.nil
            rw [if_pos (by rfl)]
            go_simp
            go_at_call 22
            refine (ON.out _).mono ?_
            rintro e wn ⟨v, rfl, hv, hb⟩
            refine hK.out _ _ (⟨bthen hHeld.1 hb, (hb.cell (p := ⟨p, 0, none⟩) (Nat.lt_of_lt_of_le HPL.out hHeld.1.size)).trans hHeld.2.1, (hb.cell (p := ⟨p, 1, none⟩) (Nat.lt_of_lt_of_le HPL.out hHeld.1.size)).trans hHeld.2.2.1, hHeld.2.2.2.1.grow hb, range_grow hHeld.2.2.2.2 (Nat.lt_of_lt_of_le HGA.out hHeld.1.size) hb⟩) (fun hHeld => ?_)
            clear hK K
            obtain ⟨ao, cap, rfl, -⟩ := hv.uni'
            clear hv
            generalize L.length = m at hl ⊢
            obtain rfl := hl
            try simp only [Act.put, List.getElem_toArray, List.getElem_cons_zero, List.getElem_cons_succ, List.setIfInBounds_toArray, List.set_cons_zero, List.set_cons_succ]
            refine wpAnyH_take (i := 8) (v := ?v5) rfl (by kernel_rfl) (by kernel_rfl) (by kernel_rfl) (fun _ _ _ h => h) (Or.inl ⟨by rfl, ?y5⟩) (by assumption) ?r5
            case y5 => (intro w hSw; (go_simp <;> first | with_reducible rfl | (rw [if_pos (by omega)] <;> with_reducible rfl)))
            try simp only [Act.put, List.getElem_toArray, List.getElem_cons_zero, List.getElem_cons_succ, List.setIfInBounds_toArray, List.set_cons_zero, List.set_cons_succ]
            refine wpAnyH_take (i := 9) (v := ?v6) rfl (by kernel_rfl) (by kernel_rfl) (by kernel_rfl) (fun _ _ _ h => h) (Or.inl ⟨by rfl, ?y6⟩) (by assumption) ?r6
            case y6 => (intro w hSw; (go_simp <;> first | with_reducible rfl | (rw [if_pos (by omega)] <;> with_reducible rfl)))
            try simp only [Act.put, List.getElem_toArray, List.getElem_cons_zero, List.getElem_cons_succ, List.setIfInBounds_toArray, List.set_cons_zero, List.set_cons_succ]
            refine wpAnyH_take (i := 10) (v := ?v7) rfl (by kernel_rfl) (by kernel_rfl) (by kernel_rfl) (fun _ _ _ h => h) (Or.inl ⟨by rfl, ?y7⟩) (by assumption) ?r7
            case y7 => (intro w hSw; (go_simp <;> first | with_reducible rfl | (rw [if_pos (by omega)] <;> with_reducible rfl)))
            try simp only [Act.put, List.getElem_toArray, List.getElem_cons_zero, List.getElem_cons_succ, List.setIfInBounds_toArray, List.set_cons_zero, List.set_cons_succ]
            refine wpAnyH_done (by kernel_rfl) ?_ _
            go_wp2
            go_roundw
            case rel => exact ⟨k + 1, by omega, by go_num, HW.out.trans (hHeld.1.mono HW.out.size)⟩
            case measure => simp [intOf]; omega
          · rw [decide_eq_false h0, Bool.not_false] at ht
            rw [ht] at HA
            have hl : 0 < (onL Z k s n 81).length := by
              apply Nat.pos_of_ne_zero
              intro e
              exact h0 (hn.1 (List.length_eq_zero_iff.1 e))
            have hl2 : (0 : Int) < ((onL Z k s n 81).length : Int) := by omega
            clear hn h0 ht hW HCW
            generalize onL Z k s n 81 = L at ON hl hl2
            go_wp2_with fail
            refine wp_region_held_drew (S := fun W => Below wr.heap.size wr W ∧ W.cell? ⟨p, 0, none⟩ = some (.int .u64 x) ∧ W.cell? ⟨p, 1, none⟩ = some (.int .u64 y) ∧ PosAt W w.heap.size Z ∧ W.rangeAt ga 0 (arrL n)) (by kernel_rfl) ?_ (fun hHeld => ?_)
            · exact ⟨(bref wr).drew, HC.out.1, HC.out.2, HPW.out, HRW.out⟩
            refine wpAnyH_take (i := 0) (v := ?v8) rfl (by kernel_rfl) (by kernel_rfl) (by kernel_rfl) (fun _ _ _ h => h) (Or.inl ⟨by rfl, ?y8⟩) (by assumption) ?r8
            case y8 => (intro w hSw; have q0 := hSw.2.1; have q1 := hSw.2.2.1; (go_simp <;> first | with_reducible rfl | (rw [if_pos (by omega)] <;> with_reducible rfl)))
            try simp only [Act.put, List.getElem_toArray, List.getElem_cons_zero, List.getElem_cons_succ, List.setIfInBounds_toArray, List.set_cons_zero, List.set_cons_succ]
            refine wpAnyH_take (i := 1) (v := ?v9) rfl (by kernel_rfl) (by kernel_rfl) (by kernel_rfl) (fun _ _ _ h => h) (Or.inl ⟨by rfl, ?y9⟩) (by assumption) ?r9
            case y9 => (intro w hSw; (go_simp <;> first | with_reducible rfl | (rw [if_pos (by omega)] <;> with_reducible rfl)))
            try simp only [Act.put, List.getElem_toArray, List.getElem_cons_zero, List.getElem_cons_succ, List.setIfInBounds_toArray, List.set_cons_zero, List.set_cons_succ]
            refine wpAnyH_take (i := 3) rfl (by kernel_rfl) (by kernel_rfl) (by kernel_rfl) (fun _ _ _ h => h) (yieldsIf_load_mid (by rfl) _ _ rfl _ _ rfl (posC Z) _ (fun w h => h.2.2.2.1.range) (Tryd.underlying28) rfl (HINF.out)) (by assumption) ?_
            try simp only [Act.put, List.getElem_toArray, List.getElem_cons_zero, List.getElem_cons_succ, List.setIfInBounds_toArray, List.set_cons_zero, List.set_cons_succ]
            refine wpAnyH_take (i := 4) (v := ?v10) rfl (by kernel_rfl) (by kernel_rfl) (by kernel_rfl) (fun _ _ _ h => h) (Or.inl ⟨by rfl, ?y10⟩) (by assumption) ?r10
            case y10 => (intro w hSw; (go_simp <;> first | with_reducible rfl | (rw [if_pos (by omega)] <;> with_reducible rfl)))
            try simp only [Act.put, List.getElem_toArray, List.getElem_cons_zero, List.getElem_cons_succ, List.setIfInBounds_toArray, List.set_cons_zero, List.set_cons_succ]
            refine wpAnyH_take (i := 5) (v := ?v11) rfl (by kernel_rfl) (by kernel_rfl) (by kernel_rfl) (fun _ _ _ h => h) (Or.inl ⟨by rfl, ?y11⟩) (by assumption) ?r11
            case y11 => (intro w hSw; (go_simp <;> first | with_reducible rfl | (rw [if_pos (by omega)] <;> with_reducible rfl)))
            try simp only [Act.put, List.getElem_toArray, List.getElem_cons_zero, List.getElem_cons_succ, List.setIfInBounds_toArray, List.set_cons_zero, List.set_cons_succ]
            refine wpAnyH_take (i := 6) rfl (by kernel_rfl) (by kernel_rfl) (by kernel_rfl) (fun _ _ _ h => h) (yieldsIf_load_mid (by rfl) _ _ rfl _ _ rfl (arrL n) _ (fun w h => h.2.2.2.2) (Tryd.underlying42) rfl (HINFA.out)) (by assumption) ?_
            try simp only [Act.put, List.getElem_toArray, List.getElem_cons_zero, List.getElem_cons_succ, List.setIfInBounds_toArray, List.set_cons_zero, List.set_cons_succ]
            refine wpAnyH_ready (rs := [2]) (by kernel_rfl) (by simp) ?_
            refine AllReadyH.cons rfl (fun K hK => ?_) AllReadyH.nil
            rw [if_pos (by rfl)]
            go_simp
            go_at_call 26
            refine (HA.out _).mono ?_
            rintro e wn ⟨rfl, hb⟩
            refine hK.out _ _ (⟨bthen hHeld.1 hb, (hb.cell (p := ⟨p, 0, none⟩) (Nat.lt_of_lt_of_le HPL.out hHeld.1.size)).trans hHeld.2.1, (hb.cell (p := ⟨p, 1, none⟩) (Nat.lt_of_lt_of_le HPL.out hHeld.1.size)).trans hHeld.2.2.1, hHeld.2.2.2.1.grow hb, range_grow hHeld.2.2.2.2 (Nat.lt_of_lt_of_le HGA.out hHeld.1.size) hb⟩) (fun hHeld => ?_)
            clear hK K
            try simp only [Act.put, List.getElem_toArray, List.getElem_cons_zero, List.getElem_cons_succ, List.setIfInBounds_toArray, List.set_cons_zero, List.set_cons_succ]
            refine wpAnyH_ready (rs := [7]) (by kernel_rfl) (by simp) ?_
            refine AllReadyH.cons rfl (fun K hK => ?_) AllReadyH.nil
            rw [if_pos (by rfl)]
            go_simp
            go_at_call 22
            refine (ON.out _).mono ?_
            rintro e wn ⟨v, rfl, hv, hb⟩
            refine hK.out _ _ (⟨bthen hHeld.1 hb, (hb.cell (p := ⟨p, 0, none⟩) (Nat.lt_of_lt_of_le HPL.out hHeld.1.size)).trans hHeld.2.1, (hb.cell (p := ⟨p, 1, none⟩) (Nat.lt_of_lt_of_le HPL.out hHeld.1.size)).trans hHeld.2.2.1, hHeld.2.2.2.1.grow hb, range_grow hHeld.2.2.2.2 (Nat.lt_of_lt_of_le HGA.out hHeld.1.size) hb⟩) (fun hHeld => ?_)
            clear hK K
            obtain ⟨ao, cap, rfl, -⟩ := hv.uni'
            clear hv
            generalize L.length = m at hl hl2 ⊢
            try simp only [Act.put, List.getElem_toArray, List.getElem_cons_zero, List.getElem_cons_succ, List.setIfInBounds_toArray, List.set_cons_zero, List.set_cons_succ]
            refine wpAnyH_take (i := 8) (v := ?v12) rfl (by kernel_rfl) (by kernel_rfl) (by kernel_rfl) (fun _ _ _ h => h) (Or.inl ⟨by rfl, ?y12⟩) (by assumption) ?r12
            case y12 => (intro w hSw; (go_simp <;> first | with_reducible rfl | (rw [if_pos (by omega)] <;> with_reducible rfl)))
            try simp only [Act.put, List.getElem_toArray, List.getElem_cons_zero, List.getElem_cons_succ, List.setIfInBounds_toArray, List.set_cons_zero, List.set_cons_succ]
            refine wpAnyH_take (i := 9) (v := ?v13) rfl (by kernel_rfl) (by kernel_rfl) (by kernel_rfl) (fun _ _ _ h => h) (Or.inl ⟨by rfl, ?y13⟩) (by assumption) ?r13
            case y13 => (intro w hSw; (go_simp <;> first | with_reducible rfl | (rw [if_pos (by omega)] <;> with_reducible rfl)))
            try simp only [Act.put, List.getElem_toArray, List.getElem_cons_zero, List.getElem_cons_succ, List.setIfInBounds_toArray, List.set_cons_zero, List.set_cons_succ]
            refine wpAnyH_take (i := 10) (v := ?v14) rfl (by kernel_rfl) (by kernel_rfl) (by kernel_rfl) (fun _ _ _ h => h) (Or.inl ⟨by rfl, ?y14⟩) (by assumption) ?r14
            case y14 => (intro w hSw; (go_simp <;> first | with_reducible rfl | (rw [if_pos (by omega)] <;> with_reducible rfl)))
            try simp only [Act.put, List.getElem_toArray, List.getElem_cons_zero, List.getElem_cons_succ, List.setIfInBounds_toArray, List.set_cons_zero, List.set_cons_succ]
            refine wpAnyH_done (by kernel_rfl) ?_ _
            go_wp2
            go_roundw
            case rel => exact ⟨k + 1, by omega, by go_num, HW.out.trans (hHeld.1.mono HW.out.size)⟩
            case measure => simp [intOf]; omega
        · obtain rfl : k = 81 := by omega
          go_wp2
          go_ret
          exact ⟨rfl, HB.out.trans (hW.mono HB.out.size)⟩
    · skip
      go_upto_region 8 with (first
        | (refine wpList_load_mid rfl 28 _ rfl w.heap.size 0 rfl (posC Z) _ HP.out.range Tryd.underlying28 rfl HINF.out ?_)
        | (go_at_call 25; refine (TK.out _).mono ?_; rintro e w7 ⟨rfl, hb⟩; replace HC := Lib.hid (show w7.cell? ⟨p, 0, none⟩ = some (.int .u64 x) ∧ w7.cell? ⟨p, 1, none⟩ = some (.int .u64 y) from ⟨(hb.cell (p := ⟨p, 0, none⟩) HPL.out).trans HC.out.1, (hb.cell (p := ⟨p, 1, none⟩) HPL.out).trans HC.out.2⟩); replace HPL := Lib.hid (Nat.lt_of_lt_of_le HPL.out hb.size); replace HP := Lib.hid (HP.out.grow hb); replace HB := Lib.hid (bthen HB.out hb); clear hb)
        | (refine wpList_store_row rfl 42 _ _ rfl w7.heap.size (arrL n).toArray rfl rfl 42 zA (heap_alloc_new w7 _) HINFB.out HSA.out HONE.out ?_))
      have R2 := Lib.hid (show ((w7.alloc (.cells zA 42)).setRow w7.heap.size (arrL n).toArray).heap[w7.heap.size]? = some (.cells (arrL n).toArray 42) from setRow_heap _ _ _ _ _ _ (heap_alloc_new w7 _))
      have hb2 : Below w7.heap.size w7 ((w7.alloc (.cells zA 42)).setRow w7.heap.size (arrL n).toArray) := below_row (ball (bref w7) _) (Nat.le_refl _) _
      replace HB := Lib.hid (bthen HB.out hb2)
      replace HP := Lib.hid (HP.out.grow hb2)
      replace HC := Lib.hid (show _ ∧ _ from ⟨(hb2.cell (p := ⟨p, 0, none⟩) HPL.out).trans HC.out.1, (hb2.cell (p := ⟨p, 1, none⟩) HPL.out).trans HC.out.2⟩)
      replace HPL := Lib.hid (Nat.lt_of_lt_of_le HPL.out hb2.size)
      have HL2 := Lib.hid (show w7.heap.size < ((w7.alloc (.cells zA 42)).setRow w7.heap.size (arrL n).toArray).heap.size by simp)
      clear hb2 c0 c1
      generalize (w7.alloc (.cells zA 42)).setRow w7.heap.size (arrL n).toArray = w8 at *
      generalize w7.heap.size = ga at *
      go_wp2_with fail
      go_loopw [7] (fun i wr => ∃ k : Nat, k ≤ 81 ∧ i = .int .i64 k ∧ Below w8.heap.size w8 wr) (fun i _ => 81 - (intOf i).toNat)
      case atStart => exact ⟨0, by omega, rfl, bref _⟩
      case round =>
        obtain ⟨k, hk, rfl, hW⟩ := hrel
        have HW := Lib.hid hW
        by_cases hlt : k < 81
        · have ON := Lib.hid (fun W => refAt_any Z k s n HZ.out HZ8.out W)
          rw [if_pos (by omega)] at ON
          have HA := Lib.hid (fun W => HANY.out k W)
          have ht := HT2.out k hlt
          have hn := HN2.out k hlt
          have HCW := Lib.hid (show wr.cell? ⟨p, 0, none⟩ = some (.int .u64 x) ∧ wr.cell? ⟨p, 1, none⟩ = some (.int .u64 y) from ⟨(hW.cell (p := ⟨p, 0, none⟩) HPL.out).trans HC.out.1, (hW.cell (p := ⟨p, 1, none⟩) HPL.out).trans HC.out.2⟩)
          replace HPL := Lib.hid (Nat.lt_of_lt_of_le HPL.out hW.size)
          have HPW := Lib.hid (HP.out.grow hW)
          have HGA := Lib.hid (Nat.lt_of_lt_of_le HL2.out hW.size)
          have HRW := Lib.hid (show wr.rangeAt ga 0 (arrL n) from row_range ((hW.block ga HL2.out).trans R2.out))
          replace HC := HCW
          rw [has_nat N k hlt] at HA
          by_cases h0 : onN Z k s n = 0
          · rw [decide_eq_true h0, Bool.not_true] at ht
            rw [ht] at HA
            have hl : (onL Z k s n 81).length = 0 := by rw [hn.2 h0]; rfl
            clear hn h0 ht hW HCW
            generalize onL Z k s n 81 = L at ON hl
            go_wp2_with fail
            refine wp_region_held_drew (S := fun W => Below wr.heap.size wr W ∧ W.cell? ⟨p, 0, none⟩ = some (.int .u64 x) ∧ W.cell? ⟨p, 1, none⟩ = some (.int .u64 y) ∧ PosAt W w.heap.size Z ∧ W.rangeAt ga 0 (arrL n)) (by kernel_rfl) ?_ (fun hHeld => ?_)
            · exact ⟨(bref wr).drew, HC.out.1, HC.out.2, HPW.out, HRW.out⟩
            refine wpAnyH_take (i := 0) (v := ?v15) rfl (by kernel_rfl) (by kernel_rfl) (by kernel_rfl) (fun _ _ _ h => h) (Or.inl ⟨by rfl, ?y15⟩) (by assumption) ?r15
            case y15 => (intro w hSw; have q0 := hSw.2.1; have q1 := hSw.2.2.1; (go_simp <;> first | with_reducible rfl | (rw [if_pos (by omega)] <;> with_reducible rfl)))
            try simp only [Act.put, List.getElem_toArray, List.getElem_cons_zero, List.getElem_cons_succ, List.setIfInBounds_toArray, List.set_cons_zero, List.set_cons_succ]
            refine wpAnyH_take (i := 1) (v := ?v16) rfl (by kernel_rfl) (by kernel_rfl) (by kernel_rfl) (fun _ _ _ h => h) (Or.inl ⟨by rfl, ?y16⟩) (by assumption) ?r16
            case y16 => (intro w hSw; (go_simp <;> first | with_reducible rfl | (rw [if_pos (by omega)] <;> with_reducible rfl)))
            try simp only [Act.put, List.getElem_toArray, List.getElem_cons_zero, List.getElem_cons_succ, List.setIfInBounds_toArray, List.set_cons_zero, List.set_cons_succ]
            refine wpAnyH_take (i := 3) rfl (by kernel_rfl) (by kernel_rfl) (by kernel_rfl) (fun _ _ _ h => h) (yieldsIf_load_mid (by rfl) _ _ rfl _ _ rfl (posC Z) _ (fun w h => h.2.2.2.1.range) (Tryd.underlying28) rfl (HINF.out)) (by assumption) ?_
            try simp only [Act.put, List.getElem_toArray, List.getElem_cons_zero, List.getElem_cons_succ, List.setIfInBounds_toArray, List.set_cons_zero, List.set_cons_succ]
            refine wpAnyH_take (i := 4) (v := ?v17) rfl (by kernel_rfl) (by kernel_rfl) (by kernel_rfl) (fun _ _ _ h => h) (Or.inl ⟨by rfl, ?y17⟩) (by assumption) ?r17
            case y17 => (intro w hSw; (go_simp <;> first | with_reducible rfl | (rw [if_pos (by omega)] <;> with_reducible rfl)))
            try simp only [Act.put, List.getElem_toArray, List.getElem_cons_zero, List.getElem_cons_succ, List.setIfInBounds_toArray, List.set_cons_zero, List.set_cons_succ]
            refine wpAnyH_take (i := 5) (v := ?v18) rfl (by kernel_rfl) (by kernel_rfl) (by kernel_rfl) (fun _ _ _ h => h) (Or.inl ⟨by rfl, ?y18⟩) (by assumption) ?r18
            case y18 => (intro w hSw; (go_simp <;> first | with_reducible rfl | (rw [if_pos (by omega)] <;> with_reducible rfl)))
            try simp only [Act.put, List.getElem_toArray, List.getElem_cons_zero, List.getElem_cons_succ, List.setIfInBounds_toArray, List.set_cons_zero, List.set_cons_succ]
            refine wpAnyH_take (i := 6) rfl (by kernel_rfl) (by kernel_rfl) (by kernel_rfl) (fun _ _ _ h => h) (yieldsIf_load_mid (by rfl) _ _ rfl _ _ rfl (arrL n) _ (fun w h => h.2.2.2.2) (Tryd.underlying42) rfl (HINFA.out)) (by assumption) ?_
            try simp only [Act.put, List.getElem_toArray, List.getElem_cons_zero, List.getElem_cons_succ, List.setIfInBounds_toArray, List.set_cons_zero, List.set_cons_succ]
            refine wpAnyH_ready (rs := [2]) (by kernel_rfl) (by simp) ?_
            refine AllReadyH.cons rfl (fun K hK => ?_) AllReadyH.nil
            rw [if_pos (by rfl)]
            go_simp
            go_at_call 26
            refine (HA.out _).mono ?_
            rintro e wn ⟨rfl, hb⟩
            refine hK.out _ _ (⟨bthen hHeld.1 hb, (hb.cell (p := ⟨p, 0, none⟩) (Nat.lt_of_lt_of_le HPL.out hHeld.1.size)).trans hHeld.2.1, (hb.cell (p := ⟨p, 1, none⟩) (Nat.lt_of_lt_of_le HPL.out hHeld.1.size)).trans hHeld.2.2.1, hHeld.2.2.2.1.grow hb, range_grow hHeld.2.2.2.2 (Nat.lt_of_lt_of_le HGA.out hHeld.1.size) hb⟩) (fun hHeld => ?_)
            clear hK K
            try simp only [Act.put, List.getElem_toArray, List.getElem_cons_zero, List.getElem_cons_succ, List.setIfInBounds_toArray, List.set_cons_zero, List.set_cons_succ]
            refine wpAnyH_ready (rs := [7]) (by kernel_rfl) (by simp) ?_
            refine AllReadyH.cons rfl (fun K hK => ?_) AllReadyH.nil
            rw [if_pos (by rfl)]
            go_simp
            go_at_call 22
            refine (ON.out _).mono ?_
            rintro e wn ⟨v, rfl, hv, hb⟩
            refine hK.out _ _ (⟨bthen hHeld.1 hb, (hb.cell (p := ⟨p, 0, none⟩) (Nat.lt_of_lt_of_le HPL.out hHeld.1.size)).trans hHeld.2.1, (hb.cell (p := ⟨p, 1, none⟩) (Nat.lt_of_lt_of_le HPL.out hHeld.1.size)).trans hHeld.2.2.1, hHeld.2.2.2.1.grow hb, range_grow hHeld.2.2.2.2 (Nat.lt_of_lt_of_le HGA.out hHeld.1.size) hb⟩) (fun hHeld => ?_)
            clear hK K
            obtain ⟨ao, cap, rfl, -⟩ := hv.uni'
            clear hv
            generalize L.length = m at hl ⊢
            obtain rfl := hl
            try simp only [Act.put, List.getElem_toArray, List.getElem_cons_zero, List.getElem_cons_succ, List.setIfInBounds_toArray, List.set_cons_zero, List.set_cons_succ]
            refine wpAnyH_take (i := 8) (v := ?v19) rfl (by kernel_rfl) (by kernel_rfl) (by kernel_rfl) (fun _ _ _ h => h) (Or.inl ⟨by rfl, ?y19⟩) (by assumption) ?r19
            case y19 => (intro w hSw; (go_simp <;> first | with_reducible rfl | (rw [if_pos (by omega)] <;> with_reducible rfl)))
            try simp only [Act.put, List.getElem_toArray, List.getElem_cons_zero, List.getElem_cons_succ, List.setIfInBounds_toArray, List.set_cons_zero, List.set_cons_succ]
            refine wpAnyH_take (i := 9) (v := ?v20) rfl (by kernel_rfl) (by kernel_rfl) (by kernel_rfl) (fun _ _ _ h => h) (Or.inl ⟨by rfl, ?y20⟩) (by assumption) ?r20
            case y20 => (intro w hSw; (go_simp <;> first | with_reducible rfl | (rw [if_pos (by omega)] <;> with_reducible rfl)))
            try simp only [Act.put, List.getElem_toArray, List.getElem_cons_zero, List.getElem_cons_succ, List.setIfInBounds_toArray, List.set_cons_zero, List.set_cons_succ]
            refine wpAnyH_take (i := 10) (v := ?v21) rfl (by kernel_rfl) (by kernel_rfl) (by kernel_rfl) (fun _ _ _ h => h) (Or.inl ⟨by rfl, ?y21⟩) (by assumption) ?r21
            case y21 => (intro w hSw; (go_simp <;> first | with_reducible rfl | (rw [if_pos (by omega)] <;> with_reducible rfl)))
            try simp only [Act.put, List.getElem_toArray, List.getElem_cons_zero, List.getElem_cons_succ, List.setIfInBounds_toArray, List.set_cons_zero, List.set_cons_succ]
            refine wpAnyH_done (by kernel_rfl) ?_ _
            go_wp2
            go_roundw
            case rel => exact ⟨k + 1, by omega, by go_num, HW.out.trans (hHeld.1.mono HW.out.size)⟩
            case measure => simp [intOf]; omega
          · rw [decide_eq_false h0, Bool.not_false] at ht
            rw [ht] at HA
            have hl : 0 < (onL Z k s n 81).length := by
              apply Nat.pos_of_ne_zero
              intro e
              exact h0 (hn.1 (List.length_eq_zero_iff.1 e))
            have hl2 : (0 : Int) < ((onL Z k s n 81).length : Int) := by omega
            clear hn h0 ht hW HCW
            generalize onL Z k s n 81 = L at ON hl hl2
            go_wp2_with fail
            refine wp_region_held_drew (S := fun W => Below wr.heap.size wr W ∧ W.cell? ⟨p, 0, none⟩ = some (.int .u64 x) ∧ W.cell? ⟨p, 1, none⟩ = some (.int .u64 y) ∧ PosAt W w.heap.size Z ∧ W.rangeAt ga 0 (arrL n)) (by kernel_rfl) ?_ (fun hHeld => ?_)
            · exact ⟨(bref wr).drew, HC.out.1, HC.out.2, HPW.out, HRW.out⟩
            refine wpAnyH_take (i := 0) (v := ?v22) rfl (by kernel_rfl) (by kernel_rfl) (by kernel_rfl) (fun _ _ _ h => h) (Or.inl ⟨by rfl, ?y22⟩) (by assumption) ?r22
            case y22 => (intro w hSw; have q0 := hSw.2.1; have q1 := hSw.2.2.1; (go_simp <;> first | with_reducible rfl | (rw [if_pos (by omega)] <;> with_reducible rfl)))
            try simp only [Act.put, List.getElem_toArray, List.getElem_cons_zero, List.getElem_cons_succ, List.setIfInBounds_toArray, List.set_cons_zero, List.set_cons_succ]
            refine wpAnyH_take (i := 1) (v := ?v23) rfl (by kernel_rfl) (by kernel_rfl) (by kernel_rfl) (fun _ _ _ h => h) (Or.inl ⟨by rfl, ?y23⟩) (by assumption) ?r23
            case y23 => (intro w hSw; (go_simp <;> first | with_reducible rfl | (rw [if_pos (by omega)] <;> with_reducible rfl)))
            try simp only [Act.put, List.getElem_toArray, List.getElem_cons_zero, List.getElem_cons_succ, List.setIfInBounds_toArray, List.set_cons_zero, List.set_cons_succ]
            refine wpAnyH_take (i := 3) rfl (by kernel_rfl) (by kernel_rfl) (by kernel_rfl) (fun _ _ _ h => h) (yieldsIf_load_mid (by rfl) _ _ rfl _ _ rfl (posC Z) _ (fun w h => h.2.2.2.1.range) (Tryd.underlying28) rfl (HINF.out)) (by assumption) ?_
            try simp only [Act.put, List.getElem_toArray, List.getElem_cons_zero, List.getElem_cons_succ, List.setIfInBounds_toArray, List.set_cons_zero, List.set_cons_succ]
            refine wpAnyH_take (i := 4) (v := ?v24) rfl (by kernel_rfl) (by kernel_rfl) (by kernel_rfl) (fun _ _ _ h => h) (Or.inl ⟨by rfl, ?y24⟩) (by assumption) ?r24
            case y24 => (intro w hSw; (go_simp <;> first | with_reducible rfl | (rw [if_pos (by omega)] <;> with_reducible rfl)))
            try simp only [Act.put, List.getElem_toArray, List.getElem_cons_zero, List.getElem_cons_succ, List.setIfInBounds_toArray, List.set_cons_zero, List.set_cons_succ]
            refine wpAnyH_take (i := 5) (v := ?v25) rfl (by kernel_rfl) (by kernel_rfl) (by kernel_rfl) (fun _ _ _ h => h) (Or.inl ⟨by rfl, ?y25⟩) (by assumption) ?r25
            case y25 => (intro w hSw; (go_simp <;> first | with_reducible rfl | (rw [if_pos (by omega)] <;> with_reducible rfl)))
            try simp only [Act.put, List.getElem_toArray, List.getElem_cons_zero, List.getElem_cons_succ, List.setIfInBounds_toArray, List.set_cons_zero, List.set_cons_succ]
            refine wpAnyH_take (i := 6) rfl (by kernel_rfl) (by kernel_rfl) (by kernel_rfl) (fun _ _ _ h => h) (yieldsIf_load_mid (by rfl) _ _ rfl _ _ rfl (arrL n) _ (fun w h => h.2.2.2.2) (Tryd.underlying42) rfl (HINFA.out)) (by assumption) ?_
            try simp only [Act.put, List.getElem_toArray, List.getElem_cons_zero, List.getElem_cons_succ, List.setIfInBounds_toArray, List.set_cons_zero, List.set_cons_succ]
            refine wpAnyH_ready (rs := [2]) (by kernel_rfl) (by simp) ?_
            refine AllReadyH.cons rfl (fun K hK => ?_) AllReadyH.nil
            rw [if_pos (by rfl)]
            go_simp
            go_at_call 26
            refine (HA.out _).mono ?_
            rintro e wn ⟨rfl, hb⟩
            refine hK.out _ _ (⟨bthen hHeld.1 hb, (hb.cell (p := ⟨p, 0, none⟩) (Nat.lt_of_lt_of_le HPL.out hHeld.1.size)).trans hHeld.2.1, (hb.cell (p := ⟨p, 1, none⟩) (Nat.lt_of_lt_of_le HPL.out hHeld.1.size)).trans hHeld.2.2.1, hHeld.2.2.2.1.grow hb, range_grow hHeld.2.2.2.2 (Nat.lt_of_lt_of_le HGA.out hHeld.1.size) hb⟩) (fun hHeld => ?_)
            clear hK K
            try simp only [Act.put, List.getElem_toArray, List.getElem_cons_zero, List.getElem_cons_succ, List.setIfInBounds_toArray, List.set_cons_zero, List.set_cons_succ]
            refine wpAnyH_ready (rs := [7]) (by kernel_rfl) (by simp) ?_
            refine AllReadyH.cons rfl (fun K hK => ?_) AllReadyH.nil
            rw [if_pos (by rfl)]
            go_simp
            go_at_call 22
            refine (ON.out _).mono ?_
            rintro e wn ⟨v, rfl, hv, hb⟩
            refine hK.out _ _ (⟨bthen hHeld.1 hb, (hb.cell (p := ⟨p, 0, none⟩) (Nat.lt_of_lt_of_le HPL.out hHeld.1.size)).trans hHeld.2.1, (hb.cell (p := ⟨p, 1, none⟩) (Nat.lt_of_lt_of_le HPL.out hHeld.1.size)).trans hHeld.2.2.1, hHeld.2.2.2.1.grow hb, range_grow hHeld.2.2.2.2 (Nat.lt_of_lt_of_le HGA.out hHeld.1.size) hb⟩) (fun hHeld => ?_)
            clear hK K
            obtain ⟨ao, cap, rfl, -⟩ := hv.uni'
            clear hv
            generalize L.length = m at hl hl2 ⊢
            try simp only [Act.put, List.getElem_toArray, List.getElem_cons_zero, List.getElem_cons_succ, List.setIfInBounds_toArray, List.set_cons_zero, List.set_cons_succ]
            refine wpAnyH_take (i := 8) (v := ?v26) rfl (by kernel_rfl) (by kernel_rfl) (by kernel_rfl) (fun _ _ _ h => h) (Or.inl ⟨by rfl, ?y26⟩) (by assumption) ?r26
            case y26 => (intro w hSw; (go_simp <;> first | with_reducible rfl | (rw [if_pos (by omega)] <;> with_reducible rfl)))
            try simp only [Act.put, List.getElem_toArray, List.getElem_cons_zero, List.getElem_cons_succ, List.setIfInBounds_toArray, List.set_cons_zero, List.set_cons_succ]
            refine wpAnyH_take (i := 9) (v := ?v27) rfl (by kernel_rfl) (by kernel_rfl) (by kernel_rfl) (fun _ _ _ h => h) (Or.inl ⟨by rfl, ?y27⟩) (by assumption) ?r27
            case y27 => (intro w hSw; (go_simp <;> first | with_reducible rfl | (rw [if_pos (by omega)] <;> with_reducible rfl)))
            try simp only [Act.put, List.getElem_toArray, List.getElem_cons_zero, List.getElem_cons_succ, List.setIfInBounds_toArray, List.set_cons_zero, List.set_cons_succ]
            refine wpAnyH_take (i := 10) (v := ?v28) rfl (by kernel_rfl) (by kernel_rfl) (by kernel_rfl) (fun _ _ _ h => h) (Or.inl ⟨by rfl, ?y28⟩) (by assumption) ?r28
            case y28 => (intro w hSw; (go_simp <;> first | with_reducible rfl | (rw [if_pos (by omega)] <;> with_reducible rfl)))
            try simp only [Act.put, List.getElem_toArray, List.getElem_cons_zero, List.getElem_cons_succ, List.setIfInBounds_toArray, List.set_cons_zero, List.set_cons_succ]
            refine wpAnyH_done (by kernel_rfl) ?_ _
            go_wp2
            go_roundw
            case rel => exact ⟨k + 1, by omega, by go_num, HW.out.trans (hHeld.1.mono HW.out.size)⟩
            case measure => simp [intOf]; omega
        · obtain rfl : k = 81 := by omega
          go_wp2
          go_ret
          exact ⟨rfl, HB.out.trans (hW.mono HB.out.size)⟩
  · have n1 : (s != 0) = true := by simpa using fun h => hs (.inl h)
    have n2 : (s != 1) = true := by simpa using fun h => hs (.inr h)
    rw [decide_eq_true (HNO.out hs)] at EM
    have c0 := HC.out.1
    have c1 := HC.out.2
    clear HTEST HNIL HNO HANY
    go_wp2_with (go_at_call 20; refine (EM.out _).mono ?_; rintro e w7 ⟨rfl, hb⟩)
    go_ret
    exact ⟨rfl, bthen HB.out hb⟩
end Go.Proofs.YtilhicohfnaclaaDoor.attackAll
