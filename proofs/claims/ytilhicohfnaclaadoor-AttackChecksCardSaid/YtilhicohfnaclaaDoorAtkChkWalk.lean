/-
  The walk of the law AttackChecks.
-/
import Derived.Test.YtilhicohfnaclaaDoorAtkHead
import Derived.Test.YtilhicohfnaclaaDoorAtkRef2
namespace Go.Proofs.YtilhicohfnaclaaDoor.attackChecks
open Go.RowKit
set_option maxRecDepth 100000
set_option linter.unusedVariables false
set_option linter.unusedSimpArgs false

theorem setOf_own (v : Value) (B : Nat) (L : List Int) (hL : L.length ≤ 81) (W : World) (h : Own W B v L) :
    Calls Tryd.prog 21 #[v] W fun e w' => e = .returned (.agg #[.int .u64 (loW (ofN L)), .int .u64 (hiW (ofN L))]) ∧ Below W.heap.size W w' := by
  obtain ⟨ao, cap, rfl, hp⟩ := h.uni'
  by_cases h0 : L.length = 0
  · have e : L = [] := List.length_eq_zero_iff.1 h0
    subst e
    exact of_empty ao cap W
  · obtain ⟨g, rfl, -, hg, hc⟩ := hp h0
    exact of_any g 0 cap L W (by omega) hg (fun j hj => by rw [Nat.zero_add]; exact hc j hj)
set_option maxHeartbeats 8000000 in
theorem walk (z : List Int) (hz : z.length = 98) (h8 : I8s z) (w : World) (hT : Tab w) :
    Calls Tryd.prog 5 #[.agg (posC z).toArray] w fun e w' => e = .returned (.bool true) ∧ Below w.heap.size w w' := by
  have CK := Lib.hid (fun W (t : Tab W) => aCheck_any z hz h8 W t)
  have RC := Lib.hid (fun W => refCheck8_any z hz h8 W)
  have AT := Lib.hid (fun W (t : Tab W) => attacks_true W t)
  have CL := Lib.hid (fun W => clean8_any z hz h8 W)
  have hZ := newZ_len z hz
  have hZ8 := newZ_8 z h8
  have hZc := newZ_clean z hz
  have HINF0 := Lib.hid (show (Tryd.prog.info? 28).map (·.size) = some (posC z).length by rw [posC_len, hz]; exact infoPos)
  have HINF := Lib.hid (show (Tryd.prog.info? 28).map (·.size) = some (posC (newZ z)).length by rw [posC_len, hZ]; exact infoPos)
  have HSC := Lib.hid (show (posC z).toArray.size = (posC (newZ z)).toArray.size by rw [List.size_toArray, List.size_toArray, posC_len, posC_len, hz, hZ])
  have HT := Lib.hid hT
  clear hT
  generalize newZ z = Z at *
  have NE := Lib.hid (fun W => new_brd Z hZ hZ8 W)
  rw [newZ_self Z hZ hZc] at NE
  have ICk := Lib.hid (fun (k : Nat) (hk : k < 2) g W (h : Brd W g Z) (t : Tab W) => inCheck_any g Z k (by omega) hZ W h t)
  have RIk := Lib.hid (fun (k : Nat) (hk : k < 2) W => refInCheck_any Z k (by omega) hZ hZ8 hZc W)
  have CHk := Lib.hid (fun (k : Nat) (hk : k < 2) g W (h : Brd W g Z) (t : Tab W) => checkers_any g Z k (by omega) hZ W h t)
  have KIk := Lib.hid (fun (k : Nat) (hk : k < 2) W => refKing_any Z k (by omega) hZ hZ8 W)
  have TK := Lib.hid (fun W => refTaken_any Z hZ W)
  rw [nzN_taken Z hZc, ← arrL_arr] at TK
  have RAk := Lib.hid (fun (k : Nat) (hk : k < 2) W => refAt_any Z (kingF Z k) (1 - (k : Int)) (takenN Z) hZ hZ8 W)
  have HP := Lib.hid (PosAt.new w z)
  have HB := Lib.hid (ball (bref w) (.cells (posC z).toArray 28))
  clear hZ hZ8 hZc hz h8
  generalize check8F z = c8 at *
  go_enter Tryd.func5, Tryd.ntmps5
  go_upto_region 1 with fail
  generalize w.alloc (.cells (posC z).toArray 28) = w0 at *
  go_upto_region 3 with (go_at_call 15; refine (AT.out _ (HT.out.grow HB.out)).mono ?_; rintro e w1 ⟨rfl, hb⟩; replace HP := Lib.hid (HP.out.grow hb); replace HB := Lib.hid (bthen HB.out hb); clear hb)
  refine wp_region_held_drew (S := fun W => Below w1.heap.size w1 W ∧ PosAt W w.heap.size z) (by kernel_rfl) ?_ (fun hHeld => ?_)
  · exact ⟨(bref w1).drew, HP.out⟩
  refine wpAnyH_take (i := 0) rfl (by kernel_rfl) (by kernel_rfl) (by kernel_rfl) (fun _ _ _ h => h) (yieldsIf_load_mid (by rfl) _ _ rfl _ _ rfl (posC z) _ (fun w h => h.2.range) (Tryd.underlying28) rfl (HINF0.out)) (by assumption) ?_
  try simp only [Act.put, List.getElem_toArray, List.getElem_cons_zero, List.getElem_cons_succ, List.setIfInBounds_toArray, List.set_cons_zero, List.set_cons_succ]
  refine wpAnyH_take (i := 2) rfl (by kernel_rfl) (by kernel_rfl) (by kernel_rfl) (fun _ _ _ h => h) (yieldsIf_load_mid (by rfl) _ _ rfl _ _ rfl (posC z) _ (fun w h => h.2.range) (Tryd.underlying28) rfl (HINF0.out)) (by assumption) ?_
  try simp only [Act.put, List.getElem_toArray, List.getElem_cons_zero, List.getElem_cons_succ, List.setIfInBounds_toArray, List.set_cons_zero, List.set_cons_succ]
  refine wpAnyH_ready (rs := [1]) (by kernel_rfl) (by simp) ?_
  refine AllReadyH.cons rfl (fun K hK => ?_) AllReadyH.nil
  rw [if_pos (by rfl)]
  go_simp
  go_at_call 27
  refine (CK.out _ (HT.out.grow (bthen HB.out hHeld.1))).mono ?_
  rintro e wn ⟨rfl, hb⟩
  refine hK.out _ _ (⟨bthen hHeld.1 hb, hHeld.2.grow hb⟩) (fun hHeld => ?_)
  clear hK K
  try simp only [Act.put, List.getElem_toArray, List.getElem_cons_zero, List.getElem_cons_succ, List.setIfInBounds_toArray, List.set_cons_zero, List.set_cons_succ]
  refine wpAnyH_ready (rs := [3]) (by kernel_rfl) (by simp) ?_
  refine AllReadyH.cons rfl (fun K hK => ?_) AllReadyH.nil
  rw [if_pos (by rfl)]
  go_simp
  go_at_call 28
  refine (RC.out _).mono ?_
  rintro e wn ⟨rfl, hb⟩
  refine hK.out _ _ (⟨bthen hHeld.1 hb, hHeld.2.grow hb⟩) (fun hHeld => ?_)
  clear hK K
  try simp only [Act.put, List.getElem_toArray, List.getElem_cons_zero, List.getElem_cons_succ, List.setIfInBounds_toArray, List.set_cons_zero, List.set_cons_succ]
  refine wpAnyH_take (i := 4) (v := ?v1) rfl (by kernel_rfl) (by kernel_rfl) (by kernel_rfl) (fun _ _ _ h => h) (Or.inl ⟨by rfl, ?y1⟩) (by assumption) ?r1
  case y1 => (intro w hSw; (go_simp <;> first | with_reducible rfl | (rw [if_pos (by omega)] <;> with_reducible rfl)))
  try simp only [Act.put, List.getElem_toArray, List.getElem_cons_zero, List.getElem_cons_succ, List.setIfInBounds_toArray, List.set_cons_zero, List.set_cons_succ]
  refine wpAnyH_done (by kernel_rfl) ?_ _
  replace HP := Lib.hid (HP.out.grow hHeld.1)
  replace HB := Lib.hid (bthen HB.out hHeld.1)
  clear hHeld hb CK RC
  go_upto_region 6 with (first
    | (refine wpList_load_mid rfl 28 _ rfl w.heap.size 0 rfl (posC z) _ HP.out.range Tryd.underlying28 rfl HINF0.out ?_)
    | (go_at_call 16; refine (CL.out _).mono ?_; rintro e w2 ⟨rfl, hb⟩; replace HP := Lib.hid (HP.out.grow hb); replace HB := Lib.hid (bthen HB.out hb); clear hb)
    | (refine wpList_store_row rfl 28 _ _ rfl w.heap.size (posC Z).toArray rfl rfl 28 _ HP.out (by rw [List.size_toArray]; exact HINF.out) HSC.out (posC_one Z) ?_))
  replace HB := Lib.hid (below_row HB.out (Nat.le_refl _) (posC Z).toArray)
  replace HP := Lib.hid (show PosAt (w2.setRow w.heap.size (posC Z).toArray) w.heap.size Z from setRow_heap _ _ _ _ _ _ HP.out)
  generalize w2.setRow w.heap.size (posC Z).toArray = w3 at *
  go_wp2_with (first
    | (refine wpList_load_mid rfl 28 _ rfl w.heap.size 0 rfl (posC Z) _ HP.out.range Tryd.underlying28 rfl HINF.out ?_)
    | (go_at_call 19; refine (NE.out _).mono ?_; rintro e w4 ⟨g, rfl, hg, hbd, hb⟩; replace HP := Lib.hid (HP.out.grow hb); replace HB := Lib.hid (bthen HB.out hb); clear hb hg; have HBD := Lib.hid hbd))
  clear hbd
  go_loopw [4] (fun i wr => ∃ k : Nat, k ≤ 2 ∧ i = .int .i64 k ∧ Below w4.heap.size w4 wr) (fun i _ => 2 - (intOf i).toNat)
  case atStart => exact ⟨0, by omega, rfl, bref _⟩
  case round =>
    obtain ⟨k, hk, rfl, hW⟩ := hrel
    by_cases hlt : k < 2
    · have HG := Lib.hid (show BrdAt wr g Z (setAt Z) from BrdAt.grow HBD.out hW)
      replace HP := Lib.hid (HP.out.grow hW)
      have HW := Lib.hid hW
      replace HB := Lib.hid (bthen HB.out hW)
      have IC := Lib.hid (fun W h t => ICk.out k hlt g W h t)
      have RI := Lib.hid (fun W => RIk.out k hlt W)
      have CH := Lib.hid (fun W h t => CHk.out k hlt g W h t)
      have KI := Lib.hid (fun W => KIk.out k hlt W)
      have RA := Lib.hid (fun W => RAk.out k hlt W)
      have hle : (if 0 ≤ kingF Z k ∧ kingF Z k < 81 then onL Z (kingF Z k) (1 - (k : Int)) (takenN Z) 81 else []).length ≤ 81 := by split <;> first | exact onL_len _ _ _ _ _ | simp
      have SO := Lib.hid (fun B v W (h : Own W B v (if 0 ≤ kingF Z k ∧ kingF Z k < 81 then onL Z (kingF Z k) (1 - (k : Int)) (takenN Z) 81 else [])) => setOf_own v B _ hle W h)
      rw [on_list Z (kingF Z k) (1 - (k : Int)) (takenN Z) (by omega), show onN Z (kingF Z k) (1 - (k : Int)) (takenN Z) = chkN Z k from rfl] at SO
      have HO1 := Lib.hid (show wrap64 (1 - (k : Int)) = 1 - (k : Int) from wrap_other k (by omega))
      have HO2 := Lib.hid (show IntKind.i64.wrap (1 - (k : Int)) = 1 - (k : Int) by rw [wrap_i64_eq]; exact HO1.out)
      clear hW hle
      generalize (if 0 ≤ kingF Z k ∧ kingF Z k < 81 then onL Z (kingF Z k) (1 - (k : Int)) (takenN Z) 81 else []) = L at *
      generalize loW (chkN Z k) = x at *
      generalize hiW (chkN Z k) = y at *
      generalize kingF Z k = kk at *
      generalize inF Z k = r at *
      generalize takenN Z = n at *
      go_wp2_with fail
      refine wp_region_held_drew (S := fun W => Below wr.heap.size wr W ∧ BrdAt W g Z (setAt Z) ∧ PosAt W w.heap.size Z) (by kernel_rfl) ?_ (fun hHeld => ?_)
      · exact ⟨(bref wr).drew, HG.out, HP.out⟩
      refine wpAnyH_take (i := 0) (v := ?v2) rfl (by kernel_rfl) (by kernel_rfl) (by kernel_rfl) (fun _ _ _ h => h) (Or.inl ⟨by rfl, ?y2⟩) (by assumption) ?r2
      case y2 => (intro w hSw; (go_simp <;> first | with_reducible rfl | (rw [if_pos (by omega)] <;> with_reducible rfl)))
      try simp only [Act.put, List.getElem_toArray, List.getElem_cons_zero, List.getElem_cons_succ, List.setIfInBounds_toArray, List.set_cons_zero, List.set_cons_succ]
      refine wpAnyH_take (i := 1) (v := ?v3) rfl (by kernel_rfl) (by kernel_rfl) (by kernel_rfl) (fun _ _ _ h => h) (Or.inl ⟨by rfl, ?y3⟩) (by assumption) ?r3
      case y3 => (intro w hSw; (go_simp <;> first | with_reducible rfl | (rw [if_pos (by omega)] <;> with_reducible rfl)))
      try simp only [Act.put, List.getElem_toArray, List.getElem_cons_zero, List.getElem_cons_succ, List.setIfInBounds_toArray, List.set_cons_zero, List.set_cons_succ]
      refine wpAnyH_take (i := 3) rfl (by kernel_rfl) (by kernel_rfl) (by kernel_rfl) (fun _ _ _ h => h) (yieldsIf_load_mid (by rfl) _ _ rfl _ _ rfl (posC Z) _ (fun w h => h.2.2.range) (Tryd.underlying28) rfl (HINF.out)) (by assumption) ?_
      try simp only [Act.put, List.getElem_toArray, List.getElem_cons_zero, List.getElem_cons_succ, List.setIfInBounds_toArray, List.set_cons_zero, List.set_cons_succ]
      refine wpAnyH_take (i := 4) (v := ?v4) rfl (by kernel_rfl) (by kernel_rfl) (by kernel_rfl) (fun _ _ _ h => h) (Or.inl ⟨by rfl, ?y4⟩) (by assumption) ?r4
      case y4 => (intro w hSw; (go_simp <;> first | with_reducible rfl | (rw [if_pos (by omega)] <;> with_reducible rfl)))
      try simp only [Act.put, List.getElem_toArray, List.getElem_cons_zero, List.getElem_cons_succ, List.setIfInBounds_toArray, List.set_cons_zero, List.set_cons_succ]
      refine wpAnyH_ready (rs := [2]) (by kernel_rfl) (by simp) ?_
      refine AllReadyH.cons rfl (fun K hK => ?_) AllReadyH.nil
      rw [if_pos (by rfl)]
      go_simp
      go_at_call 29
      refine (IC.out _ hHeld.2.1 (HT.out.grow (bthen HB.out hHeld.1))).mono ?_
      rintro e wn ⟨rfl, hb⟩
      refine hK.out _ _ (⟨bthen hHeld.1 hb, hHeld.2.1.grow hb, hHeld.2.2.grow hb⟩) (fun hHeld => ?_)
      clear hK K
      try simp only [Act.put, List.getElem_toArray, List.getElem_cons_zero, List.getElem_cons_succ, List.setIfInBounds_toArray, List.set_cons_zero, List.set_cons_succ]
      refine wpAnyH_ready (rs := [5]) (by kernel_rfl) (by simp) ?_
      refine AllReadyH.cons rfl (fun K hK => ?_) AllReadyH.nil
      rw [if_pos (by rfl)]
      go_simp
      go_at_call 30
      refine (RI.out _).mono ?_
      rintro e wn ⟨rfl, hb⟩
      refine hK.out _ _ (⟨bthen hHeld.1 hb, hHeld.2.1.grow hb, hHeld.2.2.grow hb⟩) (fun hHeld => ?_)
      clear hK K
      try simp only [Act.put, List.getElem_toArray, List.getElem_cons_zero, List.getElem_cons_succ, List.setIfInBounds_toArray, List.set_cons_zero, List.set_cons_succ]
      refine wpAnyH_take (i := 6) (v := ?v5) rfl (by kernel_rfl) (by kernel_rfl) (by kernel_rfl) (fun _ _ _ h => h) (Or.inl ⟨by rfl, ?y5⟩) (by assumption) ?r5
      case y5 => (intro w hSw; (go_simp <;> first | with_reducible rfl | (rw [if_pos (by omega)] <;> with_reducible rfl)))
      try simp only [Act.put, List.getElem_toArray, List.getElem_cons_zero, List.getElem_cons_succ, List.setIfInBounds_toArray, List.set_cons_zero, List.set_cons_succ]
      refine wpAnyH_take (i := 7) (v := ?v6) rfl (by kernel_rfl) (by kernel_rfl) (by kernel_rfl) (fun _ _ _ h => h) (Or.inl ⟨by rfl, ?y6⟩) (by assumption) ?r6
      case y6 => (intro w hSw; (go_simp <;> first | with_reducible rfl | (rw [if_pos (by omega)] <;> with_reducible rfl)))
      try simp only [Act.put, List.getElem_toArray, List.getElem_cons_zero, List.getElem_cons_succ, List.setIfInBounds_toArray, List.set_cons_zero, List.set_cons_succ]
      refine wpAnyH_take (i := 8) (v := ?v7) rfl (by kernel_rfl) (by kernel_rfl) (by kernel_rfl) (fun _ _ _ h => h) (Or.inl ⟨by rfl, ?y7⟩) (by assumption) ?r7
      case y7 => (intro w hSw; (go_simp <;> first | with_reducible rfl | (rw [if_pos (by omega)] <;> with_reducible rfl)))
      try simp only [Act.put, List.getElem_toArray, List.getElem_cons_zero, List.getElem_cons_succ, List.setIfInBounds_toArray, List.set_cons_zero, List.set_cons_succ]
      refine wpAnyH_take (i := 9) (v := ?v8) rfl (by kernel_rfl) (by kernel_rfl) (by kernel_rfl) (fun _ _ _ h => h) (Or.inl ⟨by rfl, ?y8⟩) (by assumption) ?r8
      case y8 => (intro w hSw; (go_simp <;> first | with_reducible rfl | (rw [if_pos (by omega)] <;> with_reducible rfl)))
      try simp only [Act.put, List.getElem_toArray, List.getElem_cons_zero, List.getElem_cons_succ, List.setIfInBounds_toArray, List.set_cons_zero, List.set_cons_succ]
      refine wpAnyH_take (i := 11) rfl (by kernel_rfl) (by kernel_rfl) (by kernel_rfl) (fun _ _ _ h => h) (yieldsIf_load_mid (by rfl) _ _ rfl _ _ rfl (posC Z) _ (fun w h => h.2.2.range) (Tryd.underlying28) rfl (HINF.out)) (by assumption) ?_
      try simp only [Act.put, List.getElem_toArray, List.getElem_cons_zero, List.getElem_cons_succ, List.setIfInBounds_toArray, List.set_cons_zero, List.set_cons_succ]
      refine wpAnyH_take (i := 12) rfl (by kernel_rfl) (by kernel_rfl) (by kernel_rfl) (fun _ _ _ h => h) (yieldsIf_load_mid (by rfl) _ _ rfl _ _ rfl (posC Z) _ (fun w h => h.2.2.range) (Tryd.underlying28) rfl (HINF.out)) (by assumption) ?_
      try simp only [Act.put, List.getElem_toArray, List.getElem_cons_zero, List.getElem_cons_succ, List.setIfInBounds_toArray, List.set_cons_zero, List.set_cons_succ]
      refine wpAnyH_take (i := 13) (v := ?v9) rfl (by kernel_rfl) (by kernel_rfl) (by kernel_rfl) (fun _ _ _ h => h) (Or.inl ⟨by rfl, ?y9⟩) (by assumption) ?r9
      case y9 => (intro w hSw; (go_simp <;> first | with_reducible rfl | (rw [if_pos (by omega)] <;> with_reducible rfl)))
      try simp only [Act.put, List.getElem_toArray, List.getElem_cons_zero, List.getElem_cons_succ, List.setIfInBounds_toArray, List.set_cons_zero, List.set_cons_succ]
      refine wpAnyH_take (i := 15) (v := ?v10) rfl (by kernel_rfl) (by kernel_rfl) (by kernel_rfl) (fun _ _ _ h => h) (Or.inl ⟨by rfl, ?y10⟩) (by assumption) ?r10
      case y10 => (intro w hSw; (go_simp <;> first | with_reducible rfl | (rw [if_pos (by omega)] <;> with_reducible rfl)))
      try simp only [Act.put, List.getElem_toArray, List.getElem_cons_zero, List.getElem_cons_succ, List.setIfInBounds_toArray, List.set_cons_zero, List.set_cons_succ]
      refine wpAnyH_take (i := 16) (v := ?v11) rfl (by kernel_rfl) (by kernel_rfl) (by kernel_rfl) (fun _ _ _ h => h) (Or.inl ⟨by rfl, ?y11⟩) (by assumption) ?r11
      case y11 => (intro w hSw; have w1 := HO1.out; have w2 := HO2.out; (go_simp <;> first | with_reducible rfl | (rw [if_pos (by omega)] <;> with_reducible rfl)))
      try simp only [Act.put, List.getElem_toArray, List.getElem_cons_zero, List.getElem_cons_succ, List.setIfInBounds_toArray, List.set_cons_zero, List.set_cons_succ]
      refine wpAnyH_take (i := 17) rfl (by kernel_rfl) (by kernel_rfl) (by kernel_rfl) (fun _ _ _ h => h) (yieldsIf_load_mid (by rfl) _ _ rfl _ _ rfl (posC Z) _ (fun w h => h.2.2.range) (Tryd.underlying28) rfl (HINF.out)) (by assumption) ?_
      try simp only [Act.put, List.getElem_toArray, List.getElem_cons_zero, List.getElem_cons_succ, List.setIfInBounds_toArray, List.set_cons_zero, List.set_cons_succ]
      refine wpAnyH_ready (rs := [10]) (by kernel_rfl) (by simp) ?_
      refine AllReadyH.cons rfl (fun K hK => ?_) AllReadyH.nil
      rw [if_pos (by rfl)]
      go_simp
      go_at_call 31
      refine (CH.out _ hHeld.2.1 (HT.out.grow (bthen HB.out hHeld.1))).mono ?_
      rintro e wn ⟨rfl, hb⟩
      refine hK.out _ _ (⟨bthen hHeld.1 hb, hHeld.2.1.grow hb, hHeld.2.2.grow hb⟩) (fun hHeld => ?_)
      clear hK K
      try simp only [Act.put, List.getElem_toArray, List.getElem_cons_zero, List.getElem_cons_succ, List.setIfInBounds_toArray, List.set_cons_zero, List.set_cons_succ]
      refine wpAnyH_ready (rs := [14]) (by kernel_rfl) (by simp) ?_
      refine AllReadyH.cons rfl (fun K hK => ?_) AllReadyH.nil
      rw [if_pos (by rfl)]
      go_simp
      go_at_call 32
      refine (KI.out _).mono ?_
      rintro e wn ⟨rfl, hb⟩
      refine hK.out _ _ (⟨bthen hHeld.1 hb, hHeld.2.1.grow hb, hHeld.2.2.grow hb⟩) (fun hHeld => ?_)
      clear hK K
      try simp only [Act.put, List.getElem_toArray, List.getElem_cons_zero, List.getElem_cons_succ, List.setIfInBounds_toArray, List.set_cons_zero, List.set_cons_succ]
      refine wpAnyH_ready (rs := [18]) (by kernel_rfl) (by simp) ?_
      refine AllReadyH.cons rfl (fun K hK => ?_) AllReadyH.nil
      rw [if_pos (by rfl)]
      go_simp
      go_at_call 25
      refine (TK.out _).mono ?_
      rintro e wn ⟨rfl, hb⟩
      refine hK.out _ _ (⟨bthen hHeld.1 hb, hHeld.2.1.grow hb, hHeld.2.2.grow hb⟩) (fun hHeld => ?_)
      clear hK K
      try simp only [Act.put, List.getElem_toArray, List.getElem_cons_zero, List.getElem_cons_succ, List.setIfInBounds_toArray, List.set_cons_zero, List.set_cons_succ]
      refine wpAnyH_ready (rs := [19]) (by kernel_rfl) (by simp) ?_
      refine AllReadyH.cons rfl (fun K hK => ?_) AllReadyH.nil
      rw [if_pos (by rfl)]
      go_simp
      go_at_call 22
      refine (RA.out _).mono ?_
      rintro e wn ⟨v, rfl, hv, hb⟩
      refine hK.out _ _ (⟨bthen hHeld.1 hb, hHeld.2.1.grow hb, hHeld.2.2.grow hb⟩) (fun hHeld => ?_)
      clear hK K
      try simp only [Act.put, List.getElem_toArray, List.getElem_cons_zero, List.getElem_cons_succ, List.setIfInBounds_toArray, List.set_cons_zero, List.set_cons_succ]
      refine wpAnyH_ready (rs := [20]) (by kernel_rfl) (by simp) ?_
      refine AllReadyH.cons rfl (fun K hK => ?_) AllReadyH.nil
      rw [if_pos (by rfl)]
      go_simp
      go_at_call 21
      refine (SO.out _ _ _ hv).mono ?_
      rintro e wn2 ⟨rfl, hb⟩
      refine hK.out _ _ (⟨bthen hHeld.1 hb, hHeld.2.1.grow hb, hHeld.2.2.grow hb⟩) (fun hHeld => ?_)
      clear hK K
      try simp only [Act.put, List.getElem_toArray, List.getElem_cons_zero, List.getElem_cons_succ, List.setIfInBounds_toArray, List.set_cons_zero, List.set_cons_succ]
      refine wpAnyH_take (i := 21) (v := ?v12) rfl (by kernel_rfl) (by kernel_rfl) (by kernel_rfl) (fun _ _ _ h => h) (Or.inl ⟨by rfl, ?y12⟩) (by assumption) ?r12
      case y12 => (intro w hSw; (go_simp <;> first | with_reducible rfl | (rw [if_pos (by omega)] <;> with_reducible rfl)))
      try simp only [Act.put, List.getElem_toArray, List.getElem_cons_zero, List.getElem_cons_succ, List.setIfInBounds_toArray, List.set_cons_zero, List.set_cons_succ]
      refine wpAnyH_take (i := 22) (v := ?v13) rfl (by kernel_rfl) (by kernel_rfl) (by kernel_rfl) (fun _ _ _ h => h) (Or.inl ⟨by rfl, ?y13⟩) (by assumption) ?r13
      case y13 => (intro w hSw; (go_simp <;> first | with_reducible rfl | (rw [if_pos (by omega)] <;> with_reducible rfl)))
      try simp only [Act.put, List.getElem_toArray, List.getElem_cons_zero, List.getElem_cons_succ, List.setIfInBounds_toArray, List.set_cons_zero, List.set_cons_succ]
      refine wpAnyH_done (by kernel_rfl) ?_ _
      go_wp2
      go_roundw
      case rel => exact ⟨k + 1, by omega, by go_num, HW.out.trans (hHeld.1.mono HW.out.size)⟩
      case measure => simp [intOf]; omega
    · obtain rfl : k = 2 := by omega
      go_wp2
      go_ret
      exact ⟨rfl, bthen HB.out hW⟩
end Go.Proofs.YtilhicohfnaclaaDoor.attackChecks
