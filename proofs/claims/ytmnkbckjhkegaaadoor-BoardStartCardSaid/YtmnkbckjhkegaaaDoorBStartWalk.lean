/-
  The walk of the law BoardStart.
-/
import Derived.Test.YtmnkbckjhkegaaaDoorRefStart
import Derived.Test.YtmnkbckjhkegaaaDoorRefChk4
namespace Go.Proofs.YtmnkbckjhkegaaaDoor.boardStart
open Go.RowKit
set_option linter.unusedVariables false
set_option linter.unusedSimpArgs false

theorem start_side : at8 startZ 97 = 0 := by decide +kernel
theorem start_8 : I8s startZ := by unfold I8s; decide +kernel
set_option maxHeartbeats 2000000 in
theorem walk_lo (q x : Int) (h : q < 0) (w : World) (hT : Tab w) (hH : Home w) :
    Calls Tryd.prog 7 #[.int .i64 q, .int .i8 x] w fun e w' => e = .returned (.bool true) ∧ Below w.heap.size w w' := by
  have BE := Lib.hid (fun W (hT : Tab W) (hH : Home W) => begins_true W hT hH)
  have SA := Lib.hid (fun W (hH : Home W) => start_any W hH)
  have RS := Lib.hid (fun W => refStart.refStart_any W)
  have HINF := Lib.hid (show (Tryd.prog.info? 28).map (·.size) = some (posC startZ).length by rw [posC_len, startZ_len]; exact infoPos)
  have HS := Lib.hid (show Tryd.zeroCells28.size = (posC startZ).toArray.size from zeroPos_size.trans (by rw [List.size_toArray, posC_len, startZ_len]))
  have HZ := Lib.hid startZ_len
  have H97 := Lib.hid start_side
  have HB := Lib.hid (bref w)
  have HT := Lib.hid hT
  have HH := Lib.hid hH
  have n0 : decide (q < 0) = true := decide_eq_true h
  clear hT hH
  generalize startZ = sz at *
  go_enter Tryd.func7, Tryd.ntmps7
  go_wp2_with (first
    | (go_at_call 9; refine (BE.out _ (HT.out.grow HB.out) (HH.out.grow HB.out)).mono ?_; rintro e w1 ⟨rfl, hb⟩; have HB := Lib.hid (bthen HB.out hb); clear hb)
    | (go_at_call 28; refine (SA.out _ (HH.out.grow HB.out)).mono ?_; rintro e w2 ⟨rfl, hb⟩; have HB := Lib.hid (bthen HB.out hb); clear hb)
    | (refine wpList_store_row rfl 28 _ _ rfl w2.heap.size (posC sz).toArray rfl rfl 28 Tryd.zeroCells28 (heap_alloc_new w2 _) (by rw [List.size_toArray]; exact HINF.out) HS.out (posC_one sz) ?_
       rw [World.setRow_alloc_new]
       have HP := Lib.hid (PosAt.new w2 sz)
       have HG := Lib.hid HB.out.size
       have HB := Lib.hid (ball HB.out (.cells (posC sz).toArray 28))
       generalize w2.alloc (.cells (posC sz).toArray 28) = wr at *
       generalize w2.heap.size = bs at *))
  refine wp_region_held_drew (S := fun w' => Below wr.heap.size wr w' ∧ PosAt w' bs sz) (by kernel_rfl) ?_ (fun hHeld => ?_)
  · exact ⟨(bref wr).drew, HP.out⟩
  refine wpAnyH_take (i := 0) rfl (by kernel_rfl) (by kernel_rfl) (by kernel_rfl) (fun _ _ _ h => h) (yieldsIf_load_mid (by rfl) _ _ rfl _ _ rfl (posC sz) _ (fun w h => h.2.range) (Tryd.underlying28) rfl (HINF.out)) (by assumption) ?_
  try simp only [Act.put, List.getElem_toArray, List.getElem_cons_zero, List.getElem_cons_succ, List.setIfInBounds_toArray, List.set_cons_zero, List.set_cons_succ]
  refine wpAnyH_ready (rs := [1]) (by kernel_rfl) (by simp) ?_
  refine AllReadyH.cons rfl (fun K hK => ?_) AllReadyH.nil
  rw [if_pos (by rfl)]
  go_simp
  go_at_call 29
  refine (RS.out _).mono ?_
  rintro e wn ⟨rfl, hb⟩
  refine hK.out _ _ (⟨bthen hHeld.1 hb, hHeld.2.grow hb⟩) (fun hHeld => ?_)
  clear hK K
  try simp only [Act.put, List.getElem_toArray, List.getElem_cons_zero, List.getElem_cons_succ, List.setIfInBounds_toArray, List.set_cons_zero, List.set_cons_succ]
  refine wpAnyH_take (i := 2) (v := ?v1) rfl (by kernel_rfl) (by kernel_rfl) (by kernel_rfl) (fun _ _ _ h => h) (Or.inl ⟨by rfl, ?y1⟩) (by assumption) ?r1
  case y1 => (intro w hSw; have E := pos_eq sz HZ.out; (go_simp <;> first | with_reducible rfl | (rw [if_pos (by omega)] <;> with_reducible rfl)))
  try simp only [Act.put, List.getElem_toArray, List.getElem_cons_zero, List.getElem_cons_succ, List.setIfInBounds_toArray, List.set_cons_zero, List.set_cons_succ]
  refine wpAnyH_take (i := 3) (v := ?v2) rfl (by kernel_rfl) (by kernel_rfl) (by kernel_rfl) (fun _ _ _ h => h) (Or.inl ⟨by rfl, ?y2⟩) (by assumption) ?r2
  case y2 => (intro w hSw; (go_simp <;> first | with_reducible rfl | (rw [if_pos (by omega)] <;> with_reducible rfl)))
  try simp only [Act.put, List.getElem_toArray, List.getElem_cons_zero, List.getElem_cons_succ, List.setIfInBounds_toArray, List.set_cons_zero, List.set_cons_succ]
  refine wpAnyH_take (i := 4) (v := ?v3) rfl (by kernel_rfl) (by kernel_rfl) (by kernel_rfl) (fun _ _ _ h => h) (Or.inl ⟨by rfl, ?y3⟩) (by assumption) ?r3
  case y3 => (intro w hSw; (go_simp <;> first | with_reducible rfl | (rw [if_pos (by omega)] <;> with_reducible rfl)))
  try simp only [Act.put, List.getElem_toArray, List.getElem_cons_zero, List.getElem_cons_succ, List.setIfInBounds_toArray, List.set_cons_zero, List.set_cons_succ]
  refine wpAnyH_take (i := 5) (v := ?v4) rfl (by kernel_rfl) (by kernel_rfl) (by kernel_rfl) (fun _ _ _ h => h) (Or.inl ⟨by rfl, ?y4⟩) (by assumption) ?r4
  case y4 => (intro w hSw; have c97 := hSw.2.cell 97 (by rw [HZ.out]; omega); rw [H97.out] at c97; (go_simp <;> first | with_reducible rfl | (rw [if_pos (by omega)] <;> with_reducible rfl)))
  try simp only [Act.put, List.getElem_toArray, List.getElem_cons_zero, List.getElem_cons_succ, List.setIfInBounds_toArray, List.set_cons_zero, List.set_cons_succ]
  refine wpAnyH_take (i := 6) (v := ?v5) rfl (by kernel_rfl) (by kernel_rfl) (by kernel_rfl) (fun _ _ _ h => h) (Or.inl ⟨by rfl, ?y5⟩) (by assumption) ?r5
  case y5 => (intro w hSw; (go_simp <;> first | with_reducible rfl | (rw [if_pos (by omega)] <;> with_reducible rfl)))
  try simp only [Act.put, List.getElem_toArray, List.getElem_cons_zero, List.getElem_cons_succ, List.setIfInBounds_toArray, List.set_cons_zero, List.set_cons_succ]
  refine wpAnyH_take (i := 7) (v := ?v6) rfl (by kernel_rfl) (by kernel_rfl) (by kernel_rfl) (fun _ _ _ h => h) (Or.inl ⟨by rfl, ?y6⟩) (by assumption) ?r6
  case y6 => (intro w hSw; (go_simp <;> first | with_reducible rfl | (rw [if_pos (by omega)] <;> with_reducible rfl)))
  try simp only [Act.put, List.getElem_toArray, List.getElem_cons_zero, List.getElem_cons_succ, List.setIfInBounds_toArray, List.set_cons_zero, List.set_cons_succ]
  refine wpAnyH_done (by kernel_rfl) ?_ _
  go_wp2
  go_ret
  exact ⟨rfl, bthen HB.out hHeld.1⟩
set_option maxHeartbeats 2000000 in
theorem walk_hi (q x : Int) (h : 80 < q) (w : World) (hT : Tab w) (hH : Home w) :
    Calls Tryd.prog 7 #[.int .i64 q, .int .i8 x] w fun e w' => e = .returned (.bool true) ∧ Below w.heap.size w w' := by
  have BE := Lib.hid (fun W (hT : Tab W) (hH : Home W) => begins_true W hT hH)
  have SA := Lib.hid (fun W (hH : Home W) => start_any W hH)
  have RS := Lib.hid (fun W => refStart.refStart_any W)
  have HINF := Lib.hid (show (Tryd.prog.info? 28).map (·.size) = some (posC startZ).length by rw [posC_len, startZ_len]; exact infoPos)
  have HS := Lib.hid (show Tryd.zeroCells28.size = (posC startZ).toArray.size from zeroPos_size.trans (by rw [List.size_toArray, posC_len, startZ_len]))
  have HZ := Lib.hid startZ_len
  have H97 := Lib.hid start_side
  have HB := Lib.hid (bref w)
  have HT := Lib.hid hT
  have HH := Lib.hid hH
  have n2 : ¬ q < 0 := by omega
  have n0 : decide (q < 0) = false := decide_eq_false n2
  have n1 : decide (80 < q) = true := decide_eq_true h
  clear hT hH
  generalize startZ = sz at *
  go_enter Tryd.func7, Tryd.ntmps7
  go_wp2_with (first
    | (go_at_call 9; refine (BE.out _ (HT.out.grow HB.out) (HH.out.grow HB.out)).mono ?_; rintro e w1 ⟨rfl, hb⟩; have HB := Lib.hid (bthen HB.out hb); clear hb)
    | (go_at_call 28; refine (SA.out _ (HH.out.grow HB.out)).mono ?_; rintro e w2 ⟨rfl, hb⟩; have HB := Lib.hid (bthen HB.out hb); clear hb)
    | (refine wpList_store_row rfl 28 _ _ rfl w2.heap.size (posC sz).toArray rfl rfl 28 Tryd.zeroCells28 (heap_alloc_new w2 _) (by rw [List.size_toArray]; exact HINF.out) HS.out (posC_one sz) ?_
       rw [World.setRow_alloc_new]
       have HP := Lib.hid (PosAt.new w2 sz)
       have HG := Lib.hid HB.out.size
       have HB := Lib.hid (ball HB.out (.cells (posC sz).toArray 28))
       generalize w2.alloc (.cells (posC sz).toArray 28) = wr at *
       generalize w2.heap.size = bs at *))
  refine wp_region_held_drew (S := fun w' => Below wr.heap.size wr w' ∧ PosAt w' bs sz) (by kernel_rfl) ?_ (fun hHeld => ?_)
  · exact ⟨(bref wr).drew, HP.out⟩
  refine wpAnyH_take (i := 0) rfl (by kernel_rfl) (by kernel_rfl) (by kernel_rfl) (fun _ _ _ h => h) (yieldsIf_load_mid (by rfl) _ _ rfl _ _ rfl (posC sz) _ (fun w h => h.2.range) (Tryd.underlying28) rfl (HINF.out)) (by assumption) ?_
  try simp only [Act.put, List.getElem_toArray, List.getElem_cons_zero, List.getElem_cons_succ, List.setIfInBounds_toArray, List.set_cons_zero, List.set_cons_succ]
  refine wpAnyH_ready (rs := [1]) (by kernel_rfl) (by simp) ?_
  refine AllReadyH.cons rfl (fun K hK => ?_) AllReadyH.nil
  rw [if_pos (by rfl)]
  go_simp
  go_at_call 29
  refine (RS.out _).mono ?_
  rintro e wn ⟨rfl, hb⟩
  refine hK.out _ _ (⟨bthen hHeld.1 hb, hHeld.2.grow hb⟩) (fun hHeld => ?_)
  clear hK K
  try simp only [Act.put, List.getElem_toArray, List.getElem_cons_zero, List.getElem_cons_succ, List.setIfInBounds_toArray, List.set_cons_zero, List.set_cons_succ]
  refine wpAnyH_take (i := 2) (v := ?v7) rfl (by kernel_rfl) (by kernel_rfl) (by kernel_rfl) (fun _ _ _ h => h) (Or.inl ⟨by rfl, ?y7⟩) (by assumption) ?r7
  case y7 => (intro w hSw; have E := pos_eq sz HZ.out; (go_simp <;> first | with_reducible rfl | (rw [if_pos (by omega)] <;> with_reducible rfl)))
  try simp only [Act.put, List.getElem_toArray, List.getElem_cons_zero, List.getElem_cons_succ, List.setIfInBounds_toArray, List.set_cons_zero, List.set_cons_succ]
  refine wpAnyH_take (i := 3) (v := ?v8) rfl (by kernel_rfl) (by kernel_rfl) (by kernel_rfl) (fun _ _ _ h => h) (Or.inl ⟨by rfl, ?y8⟩) (by assumption) ?r8
  case y8 => (intro w hSw; (go_simp <;> first | with_reducible rfl | (rw [if_pos (by omega)] <;> with_reducible rfl)))
  try simp only [Act.put, List.getElem_toArray, List.getElem_cons_zero, List.getElem_cons_succ, List.setIfInBounds_toArray, List.set_cons_zero, List.set_cons_succ]
  refine wpAnyH_take (i := 4) (v := ?v9) rfl (by kernel_rfl) (by kernel_rfl) (by kernel_rfl) (fun _ _ _ h => h) (Or.inl ⟨by rfl, ?y9⟩) (by assumption) ?r9
  case y9 => (intro w hSw; (go_simp <;> first | with_reducible rfl | (rw [if_pos (by omega)] <;> with_reducible rfl)))
  try simp only [Act.put, List.getElem_toArray, List.getElem_cons_zero, List.getElem_cons_succ, List.setIfInBounds_toArray, List.set_cons_zero, List.set_cons_succ]
  refine wpAnyH_take (i := 5) (v := ?v10) rfl (by kernel_rfl) (by kernel_rfl) (by kernel_rfl) (fun _ _ _ h => h) (Or.inl ⟨by rfl, ?y10⟩) (by assumption) ?r10
  case y10 => (intro w hSw; have c97 := hSw.2.cell 97 (by rw [HZ.out]; omega); rw [H97.out] at c97; (go_simp <;> first | with_reducible rfl | (rw [if_pos (by omega)] <;> with_reducible rfl)))
  try simp only [Act.put, List.getElem_toArray, List.getElem_cons_zero, List.getElem_cons_succ, List.setIfInBounds_toArray, List.set_cons_zero, List.set_cons_succ]
  refine wpAnyH_take (i := 6) (v := ?v11) rfl (by kernel_rfl) (by kernel_rfl) (by kernel_rfl) (fun _ _ _ h => h) (Or.inl ⟨by rfl, ?y11⟩) (by assumption) ?r11
  case y11 => (intro w hSw; (go_simp <;> first | with_reducible rfl | (rw [if_pos (by omega)] <;> with_reducible rfl)))
  try simp only [Act.put, List.getElem_toArray, List.getElem_cons_zero, List.getElem_cons_succ, List.setIfInBounds_toArray, List.set_cons_zero, List.set_cons_succ]
  refine wpAnyH_take (i := 7) (v := ?v12) rfl (by kernel_rfl) (by kernel_rfl) (by kernel_rfl) (fun _ _ _ h => h) (Or.inl ⟨by rfl, ?y12⟩) (by assumption) ?r12
  case y12 => (intro w hSw; (go_simp <;> first | with_reducible rfl | (rw [if_pos (by omega)] <;> with_reducible rfl)))
  try simp only [Act.put, List.getElem_toArray, List.getElem_cons_zero, List.getElem_cons_succ, List.setIfInBounds_toArray, List.set_cons_zero, List.set_cons_succ]
  refine wpAnyH_done (by kernel_rfl) ?_ _
  go_wp2
  go_ret
  exact ⟨rfl, bthen HB.out hHeld.1⟩
set_option maxHeartbeats 2000000 in
theorem walk_sq81 (n : Nat) (x : Int) (hn : n < 81) (hx : -128 ≤ x ∧ x ≤ 127) (w : World) (hT : Tab w) (hH : Home w) :
    Calls Tryd.prog 7 #[.int .i64 n, .int .i8 x] w fun e w' => e = .returned (.bool true) ∧ Below w.heap.size w w' := by
  have BE := Lib.hid (fun W (hT : Tab W) (hH : Home W) => begins_true W hT hH)
  have SA := Lib.hid (fun W (hH : Home W) => start_any W hH)
  have RS := Lib.hid (fun W => refStart.refStart_any W)
  have HINF := Lib.hid (show (Tryd.prog.info? 28).map (·.size) = some (posC startZ).length by rw [posC_len, startZ_len]; exact infoPos)
  have HS := Lib.hid (show Tryd.zeroCells28.size = (posC startZ).toArray.size from zeroPos_size.trans (by rw [List.size_toArray, posC_len, startZ_len]))
  have HZ := Lib.hid startZ_len
  have H97 := Lib.hid start_side
  have HB := Lib.hid (bref w)
  have HT := Lib.hid hT
  have HH := Lib.hid hH
  have h8 := start_8
  have h1 : (startZ.set n x).length = 98 := by rw [List.length_set]; exact startZ_len
  have CH := Lib.hid (fun W => check_any (startZ.set n x) h1 (set_8 h8 n hx) W)
  have RC := Lib.hid (fun W => refCheck_any (startZ.set n x) h1 (set_8 h8 n hx) W)
  have HINF2 := Lib.hid (show (Tryd.prog.info? 28).map (·.size) = some (posC (startZ.set n x)).length by rw [posC_len, h1]; exact infoPos)
  generalize checkF (startZ.set n x) = c at CH RC
  have q0 : ¬ (n : Int) < 0 := by omega
  have q1 : ¬ 80 < (n : Int) := by omega
  have d0 : decide ((n : Int) < 0) = false := decide_eq_false q0
  have d1 : decide (80 < (n : Int)) = false := decide_eq_false q1
  clear h8 h1 hx
  clear hT hH
  generalize startZ = sz at *
  go_enter Tryd.func7, Tryd.ntmps7
  go_wp2_with (first
    | (go_at_call 9; refine (BE.out _ (HT.out.grow HB.out) (HH.out.grow HB.out)).mono ?_; rintro e w1 ⟨rfl, hb⟩; have HB := Lib.hid (bthen HB.out hb); clear hb)
    | (go_at_call 28; refine (SA.out _ (HH.out.grow HB.out)).mono ?_; rintro e w2 ⟨rfl, hb⟩; have HB := Lib.hid (bthen HB.out hb); clear hb)
    | (refine wpList_store_row rfl 28 _ _ rfl w2.heap.size (posC sz).toArray rfl rfl 28 Tryd.zeroCells28 (heap_alloc_new w2 _) (by rw [List.size_toArray]; exact HINF.out) HS.out (posC_one sz) ?_
       rw [World.setRow_alloc_new]
       have HP := Lib.hid (PosAt.new w2 sz)
       have HG := Lib.hid HB.out.size
       have HB := Lib.hid (ball HB.out (.cells (posC sz).toArray 28))
       generalize w2.alloc (.cells (posC sz).toArray 28) = wr at *
       generalize w2.heap.size = bs at *))
  refine wp_region_held_drew (S := fun w' => Below wr.heap.size wr w' ∧ PosAt w' bs sz) (by kernel_rfl) ?_ (fun hHeld => ?_)
  · exact ⟨(bref wr).drew, HP.out⟩
  refine wpAnyH_take (i := 0) rfl (by kernel_rfl) (by kernel_rfl) (by kernel_rfl) (fun _ _ _ h => h) (yieldsIf_load_mid (by rfl) _ _ rfl _ _ rfl (posC sz) _ (fun w h => h.2.range) (Tryd.underlying28) rfl (HINF.out)) (by assumption) ?_
  try simp only [Act.put, List.getElem_toArray, List.getElem_cons_zero, List.getElem_cons_succ, List.setIfInBounds_toArray, List.set_cons_zero, List.set_cons_succ]
  refine wpAnyH_ready (rs := [1]) (by kernel_rfl) (by simp) ?_
  refine AllReadyH.cons rfl (fun K hK => ?_) AllReadyH.nil
  rw [if_pos (by rfl)]
  go_simp
  go_at_call 29
  refine (RS.out _).mono ?_
  rintro e wn ⟨rfl, hb⟩
  refine hK.out _ _ (⟨bthen hHeld.1 hb, hHeld.2.grow hb⟩) (fun hHeld => ?_)
  clear hK K
  try simp only [Act.put, List.getElem_toArray, List.getElem_cons_zero, List.getElem_cons_succ, List.setIfInBounds_toArray, List.set_cons_zero, List.set_cons_succ]
  refine wpAnyH_take (i := 2) (v := ?v13) rfl (by kernel_rfl) (by kernel_rfl) (by kernel_rfl) (fun _ _ _ h => h) (Or.inl ⟨by rfl, ?y13⟩) (by assumption) ?r13
  case y13 => (intro w hSw; have E := pos_eq sz HZ.out; (go_simp <;> first | with_reducible rfl | (rw [if_pos (by omega)] <;> with_reducible rfl)))
  try simp only [Act.put, List.getElem_toArray, List.getElem_cons_zero, List.getElem_cons_succ, List.setIfInBounds_toArray, List.set_cons_zero, List.set_cons_succ]
  refine wpAnyH_take (i := 3) (v := ?v14) rfl (by kernel_rfl) (by kernel_rfl) (by kernel_rfl) (fun _ _ _ h => h) (Or.inl ⟨by rfl, ?y14⟩) (by assumption) ?r14
  case y14 => (intro w hSw; (go_simp <;> first | with_reducible rfl | (rw [if_pos (by omega)] <;> with_reducible rfl)))
  try simp only [Act.put, List.getElem_toArray, List.getElem_cons_zero, List.getElem_cons_succ, List.setIfInBounds_toArray, List.set_cons_zero, List.set_cons_succ]
  refine wpAnyH_take (i := 4) (v := ?v15) rfl (by kernel_rfl) (by kernel_rfl) (by kernel_rfl) (fun _ _ _ h => h) (Or.inl ⟨by rfl, ?y15⟩) (by assumption) ?r15
  case y15 => (intro w hSw; (go_simp <;> first | with_reducible rfl | (rw [if_pos (by omega)] <;> with_reducible rfl)))
  try simp only [Act.put, List.getElem_toArray, List.getElem_cons_zero, List.getElem_cons_succ, List.setIfInBounds_toArray, List.set_cons_zero, List.set_cons_succ]
  refine wpAnyH_take (i := 5) (v := ?v16) rfl (by kernel_rfl) (by kernel_rfl) (by kernel_rfl) (fun _ _ _ h => h) (Or.inl ⟨by rfl, ?y16⟩) (by assumption) ?r16
  case y16 => (intro w hSw; have c97 := hSw.2.cell 97 (by rw [HZ.out]; omega); rw [H97.out] at c97; (go_simp <;> first | with_reducible rfl | (rw [if_pos (by omega)] <;> with_reducible rfl)))
  try simp only [Act.put, List.getElem_toArray, List.getElem_cons_zero, List.getElem_cons_succ, List.setIfInBounds_toArray, List.set_cons_zero, List.set_cons_succ]
  refine wpAnyH_take (i := 6) (v := ?v17) rfl (by kernel_rfl) (by kernel_rfl) (by kernel_rfl) (fun _ _ _ h => h) (Or.inl ⟨by rfl, ?y17⟩) (by assumption) ?r17
  case y17 => (intro w hSw; (go_simp <;> first | with_reducible rfl | (rw [if_pos (by omega)] <;> with_reducible rfl)))
  try simp only [Act.put, List.getElem_toArray, List.getElem_cons_zero, List.getElem_cons_succ, List.setIfInBounds_toArray, List.set_cons_zero, List.set_cons_succ]
  refine wpAnyH_take (i := 7) (v := ?v18) rfl (by kernel_rfl) (by kernel_rfl) (by kernel_rfl) (fun _ _ _ h => h) (Or.inl ⟨by rfl, ?y18⟩) (by assumption) ?r18
  case y18 => (intro w hSw; (go_simp <;> first | with_reducible rfl | (rw [if_pos (by omega)] <;> with_reducible rfl)))
  try simp only [Act.put, List.getElem_toArray, List.getElem_cons_zero, List.getElem_cons_succ, List.setIfInBounds_toArray, List.set_cons_zero, List.set_cons_succ]
  refine wpAnyH_done (by kernel_rfl) ?_ _
  have c1 := hHeld.2.cell n (by rw [HZ.out]; omega)
  have f1 := hHeld.2.frozen n
  have zb := hHeld.2.lt
  have HP2 := Lib.hid (hHeld.2.set n x)
  have HB := Lib.hid ((bthen HB.out hHeld.1).setCell (p := ⟨bs, n, none⟩) HG.out (.int .i8 x))
  clear hHeld HP
  go_wp2_with fail
  generalize wn.setCell { block := bs, off := n } (Value.int IntKind.i8 x) = w1 at *
  clear c1 f1 zb
  generalize sz.set n x = z at *
  refine wp_region_held_drew (S := fun w' => Below w1.heap.size w1 w' ∧ PosAt w' bs z) (by kernel_rfl) ?_ (fun hHeld => ?_)
  · exact ⟨(bref w1).drew, HP2.out⟩
  refine wpAnyH_take (i := 0) rfl (by kernel_rfl) (by kernel_rfl) (by kernel_rfl) (fun _ _ _ h => h) (yieldsIf_load_mid (by rfl) _ _ rfl _ _ rfl (posC z) _ (fun w h => h.2.range) (Tryd.underlying28) rfl (HINF2.out)) (by assumption) ?_
  try simp only [Act.put, List.getElem_toArray, List.getElem_cons_zero, List.getElem_cons_succ, List.setIfInBounds_toArray, List.set_cons_zero, List.set_cons_succ]
  refine wpAnyH_take (i := 2) rfl (by kernel_rfl) (by kernel_rfl) (by kernel_rfl) (fun _ _ _ h => h) (yieldsIf_load_mid (by rfl) _ _ rfl _ _ rfl (posC z) _ (fun w h => h.2.range) (Tryd.underlying28) rfl (HINF2.out)) (by assumption) ?_
  try simp only [Act.put, List.getElem_toArray, List.getElem_cons_zero, List.getElem_cons_succ, List.setIfInBounds_toArray, List.set_cons_zero, List.set_cons_succ]
  refine wpAnyH_ready (rs := [1]) (by kernel_rfl) (by simp) ?_
  refine AllReadyH.cons rfl (fun K hK => ?_) AllReadyH.nil
  rw [if_pos (by rfl)]
  go_simp
  go_at_call 22
  refine (CH.out _).mono ?_
  rintro e wn ⟨rfl, hb⟩
  refine hK.out _ _ (⟨bthen hHeld.1 hb, hHeld.2.grow hb⟩) (fun hHeld => ?_)
  clear hK K
  try simp only [Act.put, List.getElem_toArray, List.getElem_cons_zero, List.getElem_cons_succ, List.setIfInBounds_toArray, List.set_cons_zero, List.set_cons_succ]
  refine wpAnyH_ready (rs := [3]) (by kernel_rfl) (by simp) ?_
  refine AllReadyH.cons rfl (fun K hK => ?_) AllReadyH.nil
  rw [if_pos (by rfl)]
  go_simp
  go_at_call 23
  refine (RC.out _).mono ?_
  rintro e wn ⟨rfl, hb⟩
  refine hK.out _ _ (⟨bthen hHeld.1 hb, hHeld.2.grow hb⟩) (fun hHeld => ?_)
  clear hK K
  try simp only [Act.put, List.getElem_toArray, List.getElem_cons_zero, List.getElem_cons_succ, List.setIfInBounds_toArray, List.set_cons_zero, List.set_cons_succ]
  refine wpAnyH_take (i := 4) (v := ?v19) rfl (by kernel_rfl) (by kernel_rfl) (by kernel_rfl) (fun _ _ _ h => h) (Or.inl ⟨by rfl, ?y19⟩) (by assumption) ?r19
  case y19 => (intro w hSw; (go_simp <;> first | with_reducible rfl | (rw [if_pos (by omega)] <;> with_reducible rfl)))
  try simp only [Act.put, List.getElem_toArray, List.getElem_cons_zero, List.getElem_cons_succ, List.setIfInBounds_toArray, List.set_cons_zero, List.set_cons_succ]
  refine wpAnyH_take (i := 5) (v := ?v20) rfl (by kernel_rfl) (by kernel_rfl) (by kernel_rfl) (fun _ _ _ h => h) (Or.inl ⟨by rfl, ?y20⟩) (by assumption) ?r20
  case y20 => (intro w hSw; (go_simp <;> first | with_reducible rfl | (rw [if_pos (by omega)] <;> with_reducible rfl)))
  try simp only [Act.put, List.getElem_toArray, List.getElem_cons_zero, List.getElem_cons_succ, List.setIfInBounds_toArray, List.set_cons_zero, List.set_cons_succ]
  refine wpAnyH_done (by kernel_rfl) ?_ _
  go_wp2
  go_ret
  exact ⟨rfl, bthen HB.out hHeld.1⟩
theorem walk (q x : Int) (g0 : (Lit.int .i64 q).wf = true) (g1 : (Lit.int .i8 x).wf = true) (w : World) (hT : Tab w) (hH : Home w) :
    Calls Tryd.prog 7 #[.int .i64 q, .int .i8 x] w fun e w' => e = .returned (.bool true) ∧ Below w.heap.size w w' := by
  by_cases h0 : q < 0
  · exact walk_lo q x h0 w hT hH
  · by_cases h1 : 80 < q
    · exact walk_hi q x h1 w hT hH
    · obtain ⟨n, rfl⟩ : ∃ n : Nat, q = n := ⟨q.toNat, by omega⟩
      exact walk_sq81 n x (by omega) (bounds_i8 g1) w hT hH
end Go.Proofs.YtmnkbckjhkegaaaDoor.boardStart
