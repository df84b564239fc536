/-
  The walk of the law BoardClones.
-/
import Derived.Test.YtmnkbckjhkegaaaDoorBackWalk
namespace Go.Proofs.YtmnkbckjhkegaaaDoor.boardClones
open Go.RowKit
set_option linter.unusedVariables false
set_option linter.unusedSimpArgs false

theorem setAt_same (z : List Int) (hz : z.length = 98) (j : Nat) (hj : 81 ≤ j) (v : Int) : setAt (z.set j v) = setAt z := by
  funext i
  have e : ∀ k, k < 81 → at8 (z.set j v) k = at8 z k := fun k hk => by
    by_cases h : j < 98
    · rw [at8_set z j v k (by omega), if_neg (by omega)]
    · rw [List.set_eq_of_length_le (by omega)]
  unfold setAt pieceN sideN
  split
  · exact where_congr _ _ _ _ fun k hk => by rw [e k hk]
  · exact where_congr _ _ _ _ fun k hk => by rw [e k hk]

set_option maxHeartbeats 4000000 in
theorem walk (z : List Int) (q x : Int) (hz : z.length = 98) (h8 : I8s z) (g1 : (Lit.int .i64 q).wf = true) (g2 : (Lit.int .i8 x).wf = true) (w : World) (hT : Tab w) (hH : Home w) :
    Calls Tryd.prog 6 #[.agg (posC z).toArray, .int .i64 q, .int .i8 x] w fun e w' => e = .returned (.bool true) ∧ Below w.heap.size w w' := by
  have hx := bounds_i8 g2
  have BE := Lib.hid (fun W (hT : Tab W) (hH : Home W) => begins_true W hT hH)
  have NE := Lib.hid (fun W => new_brd z hz h8 W)
  have hZ := newZ_len z hz
  have hZ8 := newZ_8 z h8
  have hZc := newZ_clean z hz
  have HINF0 := Lib.hid (show (Tryd.prog.info? 28).map (·.size) = some (posC z).length by rw [posC_len, hz]; exact infoPos)
  have HP := Lib.hid (PosAt.new w z)
  have HB := Lib.hid (ball (bref w) (.cells (posC z).toArray 28))
  generalize newZ z = Z at *
  have NE2 := Lib.hid (fun W => new_brd Z hZ hZ8 W)
  rw [newZ_self Z hZ hZc] at NE2
  have TA := Lib.hid (fun g W (h : Brd W g Z) => taken_brd g Z hZ W h)
  have CL := Lib.hid (fun g W (h : BrdAt W g Z (setAt Z)) => clone_brd g Z (setAt Z) hZ W h)
  have P1 := Lib.hid (fun g W (h : Brd W g Z) => put_any g Z q x hx hZ hZc W h)
  have h1 : (putZ Z q x).length = 98 := by rw [putZ_len, hZ]
  have h18 := putZ_8 hZ8 q x hx
  have h1c := putZ_clean hZc hZ q x
  have HINF := Lib.hid (show (Tryd.prog.info? 28).map (·.size) = some (posC Z).length by rw [posC_len, hZ]; exact infoPos)
  have HS := Lib.hid (show Tryd.zeroCells28.size = (posC Z).toArray.size from zeroPos_size.trans (by rw [List.size_toArray, posC_len, hZ]))
  have HZ := Lib.hid hZ
  have HT := Lib.hid hT
  have HH := Lib.hid hH
  clear g1 g2 hT hH hz h8 hZ hZ8 hZc hx
  generalize loW (takenN Z) = tl at TA
  generalize hiW (takenN Z) = th at TA
  generalize putZ Z q x = Z1 at P1 h1 h18 h1c
  have H1 := Lib.hid (And.intro h1 (And.intro h18 h1c))
  clear h1 h18 h1c
  go_enter Tryd.func6, Tryd.ntmps6
  go_wp2_with (first
    | (go_at_call 9; refine (BE.out _ (HT.out.grow HB.out) (HH.out.grow HB.out)).mono ?_; rintro e w1 ⟨rfl, hb⟩; have HP := Lib.hid (HP.out.grow hb); have HB := Lib.hid (bthen HB.out hb); clear hb)
    | (refine wpList_load_mid rfl 28 _ rfl w.heap.size 0 rfl (posC z) _ HP.out.range Tryd.underlying28 rfl HINF0.out ?_)
    | (go_at_call 10; refine (NE.out _).mono ?_; rintro e w2 ⟨bd, rfl, hg, hbd, hb⟩; have HG := Lib.hid (Nat.le_trans HB.out.size hg); have HBD := Lib.hid (show BrdAt w2 bd Z (setAt Z) from hbd); have HB := Lib.hid (bthen HB.out hb); clear hb hbd hg)
    | (go_at_call 27; refine (CL.out _ _ HBD.out).mono ?_; rintro e w3 ⟨rfl, hcd, hlt, hb⟩; have HCD := Lib.hid hcd; have NBC := Lib.hid (show bd ≠ w2.heap.size from fun e => by have := HBD.out.lt; omega); have HBD := Lib.hid (HBD.out.grow hb); have HGC := Lib.hid HB.out.size; have HB := Lib.hid (bthen HB.out hb); clear hb hcd hlt)
    | (refine wpList_load_mid rfl 28 _ rfl bd 0 rfl (posC Z) _ (HBD.out.posRange HZ.out) Tryd.underlying28 rfl HINF.out ?_)
    | (refine wpList_store_row rfl 28 _ _ rfl w3.heap.size (posC Z).toArray rfl rfl 28 Tryd.zeroCells28 (heap_alloc_new w3 _) (by rw [List.size_toArray]; exact HINF.out) HS.out (posC_one Z) ?_
       rw [World.setRow_alloc_new]
       have HPW := Lib.hid (PosAt.new w3 Z)
       have NPC := Lib.hid (show w3.heap.size ≠ w2.heap.size from fun e => by have := HCD.out.lt; omega)
       have hb := ball (bref w3) (.cells (posC Z).toArray 28)
       have HBD := Lib.hid (HBD.out.grow hb)
       have HCD := Lib.hid (HCD.out.grow hb)
       have HB := Lib.hid (bthen HB.out hb)
       clear hb
       generalize w3.alloc (.cells (posC Z).toArray 28) = w4 at *
       generalize w3.heap.size = pw at *
       generalize w2.heap.size = cd at *)
    | (go_at_call 12; refine (P1.out _ _ HCD.out).mono ?_; rintro e w5 ⟨rfl, hcd, hbt⟩; have HCD := Lib.hid (show BrdAt w5 cd Z1 (setAt Z1) from hcd); have HBD := Lib.hid (HBD.out.but hbt NBC.out); have HPW := Lib.hid (HPW.out.but hbt NPC.out); have HB := Lib.hid (HB.out.trans (hbt.below HGC.out HB.out.size)); clear hcd hbt; have c97 := HCD.out.cell H1.out.1 97 (by omega); have f97 := HCD.out.frozen 97))
  have xb := bounds_i8 (wf_bits .xor .i8 (at8 Z1 97) 1)
  have HCD1 := Lib.hid (HCD.out.setP H1.out.1 97 (by omega) (bits .xor .i8 (at8 Z1 97) 1))
  have BT := Lib.hid ((But.refl cd w5).setCell ⟨cd, 97, none⟩ rfl (.int .i8 (bits .xor .i8 (at8 Z1 97) 1)))
  generalize bits .xor .i8 (at8 Z1 97) 1 = v1 at *
  generalize w5.setCell ⟨cd, 97, none⟩ (.int .i8 v1) = w5a at *
  have h2 : (Z1.set 97 v1).length = 98 := by rw [List.length_set]; exact H1.out.1
  have h28 := set_8 H1.out.2.1 97 xb
  have h2c := clean_set H1.out.2.2 H1.out.1 97 v1
  have c82 := HCD1.out.cell h2 82 (by omega)
  have f82 := HCD1.out.frozen 82
  clear c97 f97
  go_region
  have HCD2 := Lib.hid (HCD1.out.setP h2 82 (by omega) (IntKind.i8.wrap (at8 (Z1.set 97 v1) 82 + 1)))
  have BT2 := Lib.hid ((BT.out.setCell ⟨cd, 82, none⟩ rfl (.int .i8 (IntKind.i8.wrap (at8 (Z1.set 97 v1) 82 + 1)))).drew)
  have wb := bounds_i8 (wf_wrap .i8 (at8 (Z1.set 97 v1) 82 + 1))
  generalize IntKind.i8.wrap (at8 (Z1.set 97 v1) 82 + 1) = v2 at *
  have h3 : ((Z1.set 97 v1).set 82 v2).length = 98 := by rw [List.length_set]; exact h2
  have h38 := set_8 h28 82 wb
  have h3c : Clean ((Z1.set 97 v1).set 82 v2) := by
    intro k hk h0
    rw [at8_set _ 82 v2 k (by omega), if_neg (by omega), at8_set _ 97 v1 k (by have := H1.out.1; omega), if_neg (by omega)] at h0 ⊢
    exact H1.out.2.2 k hk h0
  have hset : setAt Z1 = setAt ((Z1.set 97 v1).set 82 v2) := by rw [setAt_same _ h2 82 (by omega), setAt_same _ H1.out.1 97 (by omega)]
  rw [hset] at HCD2
  have HCD := Lib.hid (show BrdAt (w5a.setCell ⟨cd, 82, none⟩ (.int .i8 v2)).drew cd ((Z1.set 97 v1).set 82 v2) (setAt ((Z1.set 97 v1).set 82 v2)) from HCD2.out)
  have HBD := Lib.hid (HBD.out.but BT2.out NBC.out)
  have HPW := Lib.hid (HPW.out.but BT2.out NPC.out)
  have HB := Lib.hid (HB.out.trans (BT2.out.below HGC.out HB.out.size))
  clear HCD1 HCD2 BT BT2 c82 f82 h2 h28 h2c hset xb wb
  generalize (Z1.set 97 v1).set 82 v2 = z3 at *
  have NE3 := Lib.hid (fun W => new_brd z3 h3 h38 W)
  rw [newZ_self z3 h3 h3c] at NE3
  have T3 := Lib.hid (fun g W (h : Brd W g z3) => taken_brd g z3 h3 W h)
  have S0 := Lib.hid (fun g W (h : Brd W g z3) => pieces_brd g z3 0 h3 W h)
  have S1 := Lib.hid (fun g W (h : Brd W g z3) => pieces_brd g z3 1 h3 W h)
  rw [if_pos (Or.inl rfl)] at S0
  rw [if_pos (Or.inr rfl)] at S1
  have HINF3 := Lib.hid (show (Tryd.prog.info? 28).map (·.size) = some (posC z3).length by rw [posC_len, h3]; exact infoPos)
  have H3 := Lib.hid h3
  clear h3 h38 h3c
  generalize loW (takenN z3) = ul at T3
  generalize hiW (takenN z3) = uh at T3
  generalize loW (sideN z3 0) = al at S0
  generalize hiW (sideN z3 0) = ah at S0
  generalize loW (sideN z3 1) = bl at S1
  generalize hiW (sideN z3 1) = bh at S1
  go_wp2_with (first
    | (refine wpList_load_mid rfl 28 _ rfl cd 0 rfl (posC z3) _ (HCD.out.posRange H3.out) Tryd.underlying28 rfl HINF3.out ?_)
    | (go_at_call 10; refine (NE3.out _).mono ?_; rintro e w6 ⟨dd, rfl, hge, hdd, hb⟩; have R2 := Lib.hid (show BrdAt w6 dd z3 (setAt z3) from hdd); have R0 := Lib.hid (HBD.out.grow hb); have R1 := Lib.hid (HCD.out.grow hb); have R3 := Lib.hid (HPW.out.grow hb); have HB := Lib.hid (bthen HB.out hb); clear hb hdd hge))
  refine wp_region_held_drew (S := fun w' => Below w6.heap.size w6 w' ∧ BrdAt w' bd Z (setAt Z) ∧ BrdAt w' cd z3 (setAt z3) ∧ BrdAt w' dd z3 (setAt z3) ∧ PosAt w' pw Z) (by kernel_rfl) ?_ (fun hHeld => ?_)
  · exact ⟨(bref w6).drew, R0.out, R1.out, R2.out, R3.out⟩
  refine wpAnyH_take (i := 0) (v := ?v1) rfl (by kernel_rfl) (by kernel_rfl) (by kernel_rfl) (fun _ _ _ h => h) (Or.inl ⟨by rfl, ?y1⟩) (by assumption) ?r1
  case y1 => (intro w hSw; (go_simp <;> first | with_reducible rfl | (rw [if_pos (by omega)] <;> with_reducible rfl)))
  try simp only [Act.put, List.getElem_toArray, List.getElem_cons_zero, List.getElem_cons_succ, List.setIfInBounds_toArray, List.set_cons_zero, List.set_cons_succ]
  refine wpAnyH_take (i := 1) (v := ?v2) rfl (by kernel_rfl) (by kernel_rfl) (by kernel_rfl) (fun _ _ _ h => h) (Or.inl ⟨by rfl, ?y2⟩) (by assumption) ?r2
  case y2 => (intro w hSw; (go_simp <;> first | with_reducible rfl | (rw [if_pos (by omega)] <;> with_reducible rfl)))
  try simp only [Act.put, List.getElem_toArray, List.getElem_cons_zero, List.getElem_cons_succ, List.setIfInBounds_toArray, List.set_cons_zero, List.set_cons_succ]
  refine wpAnyH_take (i := 2) (v := ?v3) rfl (by kernel_rfl) (by kernel_rfl) (by kernel_rfl) (fun _ _ _ h => h) (Or.inl ⟨by rfl, ?y3⟩) (by assumption) ?r3
  case y3 => (intro w hSw; (go_simp <;> first | with_reducible rfl | (rw [if_pos (by omega)] <;> with_reducible rfl)))
  try simp only [Act.put, List.getElem_toArray, List.getElem_cons_zero, List.getElem_cons_succ, List.setIfInBounds_toArray, List.set_cons_zero, List.set_cons_succ]
  refine wpAnyH_take (i := 3) rfl (by kernel_rfl) (by kernel_rfl) (by kernel_rfl) (fun _ _ _ h => h) (yieldsIf_load_mid (by rfl) _ _ rfl _ _ rfl (posC Z) _ (fun w h => h.2.1.posRange HZ.out) (Tryd.underlying28) rfl (HINF.out)) (by assumption) ?_
  try simp only [Act.put, List.getElem_toArray, List.getElem_cons_zero, List.getElem_cons_succ, List.setIfInBounds_toArray, List.set_cons_zero, List.set_cons_succ]
  refine wpAnyH_take (i := 4) rfl (by kernel_rfl) (by kernel_rfl) (by kernel_rfl) (fun _ _ _ h => h) (yieldsIf_load_mid (by rfl) _ _ rfl _ _ rfl (posC Z) _ (fun w h => h.2.2.2.2.range) (Tryd.underlying28) rfl (HINF.out)) (by assumption) ?_
  try simp only [Act.put, List.getElem_toArray, List.getElem_cons_zero, List.getElem_cons_succ, List.setIfInBounds_toArray, List.set_cons_zero, List.set_cons_succ]
  refine wpAnyH_take (i := 5) (v := ?v4) rfl (by kernel_rfl) (by kernel_rfl) (by kernel_rfl) (fun _ _ _ h => h) (Or.inl ⟨by rfl, ?y4⟩) (by assumption) ?r4
  case y4 => (intro w hSw; have E := pos_eq Z HZ.out; (go_simp <;> first | with_reducible rfl | (rw [if_pos (by omega)] <;> with_reducible rfl)))
  try simp only [Act.put, List.getElem_toArray, List.getElem_cons_zero, List.getElem_cons_succ, List.setIfInBounds_toArray, List.set_cons_zero, List.set_cons_succ]
  refine wpAnyH_take (i := 6) (v := ?v5) rfl (by kernel_rfl) (by kernel_rfl) (by kernel_rfl) (fun _ _ _ h => h) (Or.inl ⟨by rfl, ?y5⟩) (by assumption) ?r5
  case y5 => (intro w hSw; (go_simp <;> first | with_reducible rfl | (rw [if_pos (by omega)] <;> with_reducible rfl)))
  try simp only [Act.put, List.getElem_toArray, List.getElem_cons_zero, List.getElem_cons_succ, List.setIfInBounds_toArray, List.set_cons_zero, List.set_cons_succ]
  refine wpAnyH_take (i := 7) (v := ?v6) rfl (by kernel_rfl) (by kernel_rfl) (by kernel_rfl) (fun _ _ _ h => h) (Or.inl ⟨by rfl, ?y6⟩) (by assumption) ?r6
  case y6 => (intro w hSw; (go_simp <;> first | with_reducible rfl | (rw [if_pos (by omega)] <;> with_reducible rfl)))
  try simp only [Act.put, List.getElem_toArray, List.getElem_cons_zero, List.getElem_cons_succ, List.setIfInBounds_toArray, List.set_cons_zero, List.set_cons_succ]
  refine wpAnyH_take (i := 9) rfl (by kernel_rfl) (by kernel_rfl) (by kernel_rfl) (fun _ _ _ h => h) (yieldsIf_load_mid (by rfl) _ _ rfl _ _ rfl (posC Z) _ (fun w h => h.2.2.2.2.range) (Tryd.underlying28) rfl (HINF.out)) (by assumption) ?_
  try simp only [Act.put, List.getElem_toArray, List.getElem_cons_zero, List.getElem_cons_succ, List.setIfInBounds_toArray, List.set_cons_zero, List.set_cons_succ]
  refine wpAnyH_ready (rs := [8]) (by kernel_rfl) (by simp) ?_
  refine AllReadyH.cons rfl (fun K hK => ?_) AllReadyH.nil
  rw [if_pos (by rfl)]
  go_simp
  go_at_call 21
  refine (TA.out _ _ hHeld.2.1).mono ?_
  rintro e wn ⟨rfl, hb⟩
  refine hK.out _ _ (⟨bthen hHeld.1 hb, hHeld.2.1.grow hb, hHeld.2.2.1.grow hb, hHeld.2.2.2.1.grow hb, hHeld.2.2.2.2.grow hb⟩) (fun hHeld => ?_)
  clear hK K
  try simp only [Act.put, List.getElem_toArray, List.getElem_cons_zero, List.getElem_cons_succ, List.setIfInBounds_toArray, List.set_cons_zero, List.set_cons_succ]
  refine wpAnyH_ready (rs := [10]) (by kernel_rfl) (by simp) ?_
  refine AllReadyH.cons rfl (fun K hK => ?_) AllReadyH.nil
  rw [if_pos (by rfl)]
  go_simp
  go_at_call 10
  refine (NE2.out _).mono ?_
  rintro e wn ⟨ed, rfl, hge, hed, hb⟩
  refine hK.out _ _ (⟨bthen hHeld.1 hb, hHeld.2.1.grow hb, hHeld.2.2.1.grow hb, hHeld.2.2.2.1.grow hb, hHeld.2.2.2.2.grow hb⟩) (fun hHeld => ?_)
  clear hK K
  try simp only [Act.put, List.getElem_toArray, List.getElem_cons_zero, List.getElem_cons_succ, List.setIfInBounds_toArray, List.set_cons_zero, List.set_cons_succ]
  refine wpAnyH_ready (rs := [11]) (by kernel_rfl) (by simp) ?_
  refine AllReadyH.cons rfl (fun K hK => ?_) AllReadyH.nil
  rw [if_pos (by rfl)]
  go_simp
  go_at_call 21
  refine (TA.out _ _ hed).mono ?_
  rintro e wn ⟨rfl, hb⟩
  refine hK.out _ _ (⟨bthen hHeld.1 hb, hHeld.2.1.grow hb, hHeld.2.2.1.grow hb, hHeld.2.2.2.1.grow hb, hHeld.2.2.2.2.grow hb⟩) (fun hHeld => ?_)
  clear hK K
  try simp only [Act.put, List.getElem_toArray, List.getElem_cons_zero, List.getElem_cons_succ, List.setIfInBounds_toArray, List.set_cons_zero, List.set_cons_succ]
  refine wpAnyH_take (i := 12) (v := ?v7) rfl (by kernel_rfl) (by kernel_rfl) (by kernel_rfl) (fun _ _ _ h => h) (Or.inl ⟨by rfl, ?y7⟩) (by assumption) ?r7
  case y7 => (intro w hSw; (go_simp <;> first | with_reducible rfl | (rw [if_pos (by omega)] <;> with_reducible rfl)))
  try simp only [Act.put, List.getElem_toArray, List.getElem_cons_zero, List.getElem_cons_succ, List.setIfInBounds_toArray, List.set_cons_zero, List.set_cons_succ]
  refine wpAnyH_take (i := 13) (v := ?v8) rfl (by kernel_rfl) (by kernel_rfl) (by kernel_rfl) (fun _ _ _ h => h) (Or.inl ⟨by rfl, ?y8⟩) (by assumption) ?r8
  case y8 => (intro w hSw; (go_simp <;> first | with_reducible rfl | (rw [if_pos (by omega)] <;> with_reducible rfl)))
  try simp only [Act.put, List.getElem_toArray, List.getElem_cons_zero, List.getElem_cons_succ, List.setIfInBounds_toArray, List.set_cons_zero, List.set_cons_succ]
  refine wpAnyH_take (i := 14) (v := ?v9) rfl (by kernel_rfl) (by kernel_rfl) (by kernel_rfl) (fun _ _ _ h => h) (Or.inl ⟨by rfl, ?y9⟩) (by assumption) ?r9
  case y9 => (intro w hSw; (go_simp <;> first | with_reducible rfl | (rw [if_pos (by omega)] <;> with_reducible rfl)))
  try simp only [Act.put, List.getElem_toArray, List.getElem_cons_zero, List.getElem_cons_succ, List.setIfInBounds_toArray, List.set_cons_zero, List.set_cons_succ]
  refine wpAnyH_take (i := 15) (v := ?v10) rfl (by kernel_rfl) (by kernel_rfl) (by kernel_rfl) (fun _ _ _ h => h) (Or.inl ⟨by rfl, ?y10⟩) (by assumption) ?r10
  case y10 => (intro w hSw; (go_simp <;> first | with_reducible rfl | (rw [if_pos (by omega)] <;> with_reducible rfl)))
  try simp only [Act.put, List.getElem_toArray, List.getElem_cons_zero, List.getElem_cons_succ, List.setIfInBounds_toArray, List.set_cons_zero, List.set_cons_succ]
  refine wpAnyH_take (i := 17) (v := ?v11) rfl (by kernel_rfl) (by kernel_rfl) (by kernel_rfl) (fun _ _ _ h => h) (Or.inl ⟨by rfl, ?y11⟩) (by assumption) ?r11
  case y11 => (intro w hSw; (go_simp <;> first | with_reducible rfl | (rw [if_pos (by omega)] <;> with_reducible rfl)))
  try simp only [Act.put, List.getElem_toArray, List.getElem_cons_zero, List.getElem_cons_succ, List.setIfInBounds_toArray, List.set_cons_zero, List.set_cons_succ]
  refine wpAnyH_ready (rs := [16]) (by kernel_rfl) (by simp) ?_
  refine AllReadyH.cons rfl (fun K hK => ?_) AllReadyH.nil
  rw [if_pos (by rfl)]
  go_simp
  go_at_call 21
  refine (T3.out _ _ hHeld.2.2.1).mono ?_
  rintro e wn ⟨rfl, hb⟩
  refine hK.out _ _ (⟨bthen hHeld.1 hb, hHeld.2.1.grow hb, hHeld.2.2.1.grow hb, hHeld.2.2.2.1.grow hb, hHeld.2.2.2.2.grow hb⟩) (fun hHeld => ?_)
  clear hK K
  try simp only [Act.put, List.getElem_toArray, List.getElem_cons_zero, List.getElem_cons_succ, List.setIfInBounds_toArray, List.set_cons_zero, List.set_cons_succ]
  refine wpAnyH_ready (rs := [18]) (by kernel_rfl) (by simp) ?_
  refine AllReadyH.cons rfl (fun K hK => ?_) AllReadyH.nil
  rw [if_pos (by rfl)]
  go_simp
  go_at_call 21
  refine (T3.out _ _ hHeld.2.2.2.1).mono ?_
  rintro e wn ⟨rfl, hb⟩
  refine hK.out _ _ (⟨bthen hHeld.1 hb, hHeld.2.1.grow hb, hHeld.2.2.1.grow hb, hHeld.2.2.2.1.grow hb, hHeld.2.2.2.2.grow hb⟩) (fun hHeld => ?_)
  clear hK K
  try simp only [Act.put, List.getElem_toArray, List.getElem_cons_zero, List.getElem_cons_succ, List.setIfInBounds_toArray, List.set_cons_zero, List.set_cons_succ]
  refine wpAnyH_take (i := 19) (v := ?v12) rfl (by kernel_rfl) (by kernel_rfl) (by kernel_rfl) (fun _ _ _ h => h) (Or.inl ⟨by rfl, ?y12⟩) (by assumption) ?r12
  case y12 => (intro w hSw; (go_simp <;> first | with_reducible rfl | (rw [if_pos (by omega)] <;> with_reducible rfl)))
  try simp only [Act.put, List.getElem_toArray, List.getElem_cons_zero, List.getElem_cons_succ, List.setIfInBounds_toArray, List.set_cons_zero, List.set_cons_succ]
  refine wpAnyH_take (i := 20) (v := ?v13) rfl (by kernel_rfl) (by kernel_rfl) (by kernel_rfl) (fun _ _ _ h => h) (Or.inl ⟨by rfl, ?y13⟩) (by assumption) ?r13
  case y13 => (intro w hSw; (go_simp <;> first | with_reducible rfl | (rw [if_pos (by omega)] <;> with_reducible rfl)))
  try simp only [Act.put, List.getElem_toArray, List.getElem_cons_zero, List.getElem_cons_succ, List.setIfInBounds_toArray, List.set_cons_zero, List.set_cons_succ]
  refine wpAnyH_take (i := 21) (v := ?v14) rfl (by kernel_rfl) (by kernel_rfl) (by kernel_rfl) (fun _ _ _ h => h) (Or.inl ⟨by rfl, ?y14⟩) (by assumption) ?r14
  case y14 => (intro w hSw; (go_simp <;> first | with_reducible rfl | (rw [if_pos (by omega)] <;> with_reducible rfl)))
  try simp only [Act.put, List.getElem_toArray, List.getElem_cons_zero, List.getElem_cons_succ, List.setIfInBounds_toArray, List.set_cons_zero, List.set_cons_succ]
  refine wpAnyH_take (i := 22) (v := ?v15) rfl (by kernel_rfl) (by kernel_rfl) (by kernel_rfl) (fun _ _ _ h => h) (Or.inl ⟨by rfl, ?y15⟩) (by assumption) ?r15
  case y15 => (intro w hSw; (go_simp <;> first | with_reducible rfl | (rw [if_pos (by omega)] <;> with_reducible rfl)))
  try simp only [Act.put, List.getElem_toArray, List.getElem_cons_zero, List.getElem_cons_succ, List.setIfInBounds_toArray, List.set_cons_zero, List.set_cons_succ]
  refine wpAnyH_take (i := 24) (v := ?v16) rfl (by kernel_rfl) (by kernel_rfl) (by kernel_rfl) (fun _ _ _ h => h) (Or.inl ⟨by rfl, ?y16⟩) (by assumption) ?r16
  case y16 => (intro w hSw; (go_simp <;> first | with_reducible rfl | (rw [if_pos (by omega)] <;> with_reducible rfl)))
  try simp only [Act.put, List.getElem_toArray, List.getElem_cons_zero, List.getElem_cons_succ, List.setIfInBounds_toArray, List.set_cons_zero, List.set_cons_succ]
  refine wpAnyH_ready (rs := [23]) (by kernel_rfl) (by simp) ?_
  refine AllReadyH.cons rfl (fun K hK => ?_) AllReadyH.nil
  rw [if_pos (by rfl)]
  go_simp
  go_at_call 20
  refine (S0.out _ _ hHeld.2.2.1).mono ?_
  rintro e wn ⟨rfl, hb⟩
  refine hK.out _ _ (⟨bthen hHeld.1 hb, hHeld.2.1.grow hb, hHeld.2.2.1.grow hb, hHeld.2.2.2.1.grow hb, hHeld.2.2.2.2.grow hb⟩) (fun hHeld => ?_)
  clear hK K
  try simp only [Act.put, List.getElem_toArray, List.getElem_cons_zero, List.getElem_cons_succ, List.setIfInBounds_toArray, List.set_cons_zero, List.set_cons_succ]
  refine wpAnyH_ready (rs := [25]) (by kernel_rfl) (by simp) ?_
  refine AllReadyH.cons rfl (fun K hK => ?_) AllReadyH.nil
  rw [if_pos (by rfl)]
  go_simp
  go_at_call 20
  refine (S0.out _ _ hHeld.2.2.2.1).mono ?_
  rintro e wn ⟨rfl, hb⟩
  refine hK.out _ _ (⟨bthen hHeld.1 hb, hHeld.2.1.grow hb, hHeld.2.2.1.grow hb, hHeld.2.2.2.1.grow hb, hHeld.2.2.2.2.grow hb⟩) (fun hHeld => ?_)
  clear hK K
  try simp only [Act.put, List.getElem_toArray, List.getElem_cons_zero, List.getElem_cons_succ, List.setIfInBounds_toArray, List.set_cons_zero, List.set_cons_succ]
  refine wpAnyH_take (i := 26) (v := ?v17) rfl (by kernel_rfl) (by kernel_rfl) (by kernel_rfl) (fun _ _ _ h => h) (Or.inl ⟨by rfl, ?y17⟩) (by assumption) ?r17
  case y17 => (intro w hSw; (go_simp <;> first | with_reducible rfl | (rw [if_pos (by omega)] <;> with_reducible rfl)))
  try simp only [Act.put, List.getElem_toArray, List.getElem_cons_zero, List.getElem_cons_succ, List.setIfInBounds_toArray, List.set_cons_zero, List.set_cons_succ]
  refine wpAnyH_take (i := 27) (v := ?v18) rfl (by kernel_rfl) (by kernel_rfl) (by kernel_rfl) (fun _ _ _ h => h) (Or.inl ⟨by rfl, ?y18⟩) (by assumption) ?r18
  case y18 => (intro w hSw; (go_simp <;> first | with_reducible rfl | (rw [if_pos (by omega)] <;> with_reducible rfl)))
  try simp only [Act.put, List.getElem_toArray, List.getElem_cons_zero, List.getElem_cons_succ, List.setIfInBounds_toArray, List.set_cons_zero, List.set_cons_succ]
  refine wpAnyH_take (i := 28) (v := ?v19) rfl (by kernel_rfl) (by kernel_rfl) (by kernel_rfl) (fun _ _ _ h => h) (Or.inl ⟨by rfl, ?y19⟩) (by assumption) ?r19
  case y19 => (intro w hSw; (go_simp <;> first | with_reducible rfl | (rw [if_pos (by omega)] <;> with_reducible rfl)))
  try simp only [Act.put, List.getElem_toArray, List.getElem_cons_zero, List.getElem_cons_succ, List.setIfInBounds_toArray, List.set_cons_zero, List.set_cons_succ]
  refine wpAnyH_take (i := 29) (v := ?v20) rfl (by kernel_rfl) (by kernel_rfl) (by kernel_rfl) (fun _ _ _ h => h) (Or.inl ⟨by rfl, ?y20⟩) (by assumption) ?r20
  case y20 => (intro w hSw; (go_simp <;> first | with_reducible rfl | (rw [if_pos (by omega)] <;> with_reducible rfl)))
  try simp only [Act.put, List.getElem_toArray, List.getElem_cons_zero, List.getElem_cons_succ, List.setIfInBounds_toArray, List.set_cons_zero, List.set_cons_succ]
  refine wpAnyH_take (i := 31) (v := ?v21) rfl (by kernel_rfl) (by kernel_rfl) (by kernel_rfl) (fun _ _ _ h => h) (Or.inl ⟨by rfl, ?y21⟩) (by assumption) ?r21
  case y21 => (intro w hSw; (go_simp <;> first | with_reducible rfl | (rw [if_pos (by omega)] <;> with_reducible rfl)))
  try simp only [Act.put, List.getElem_toArray, List.getElem_cons_zero, List.getElem_cons_succ, List.setIfInBounds_toArray, List.set_cons_zero, List.set_cons_succ]
  refine wpAnyH_ready (rs := [30]) (by kernel_rfl) (by simp) ?_
  refine AllReadyH.cons rfl (fun K hK => ?_) AllReadyH.nil
  rw [if_pos (by rfl)]
  go_simp
  go_at_call 20
  refine (S1.out _ _ hHeld.2.2.1).mono ?_
  rintro e wn ⟨rfl, hb⟩
  refine hK.out _ _ (⟨bthen hHeld.1 hb, hHeld.2.1.grow hb, hHeld.2.2.1.grow hb, hHeld.2.2.2.1.grow hb, hHeld.2.2.2.2.grow hb⟩) (fun hHeld => ?_)
  clear hK K
  try simp only [Act.put, List.getElem_toArray, List.getElem_cons_zero, List.getElem_cons_succ, List.setIfInBounds_toArray, List.set_cons_zero, List.set_cons_succ]
  refine wpAnyH_ready (rs := [32]) (by kernel_rfl) (by simp) ?_
  refine AllReadyH.cons rfl (fun K hK => ?_) AllReadyH.nil
  rw [if_pos (by rfl)]
  go_simp
  go_at_call 20
  refine (S1.out _ _ hHeld.2.2.2.1).mono ?_
  rintro e wn ⟨rfl, hb⟩
  refine hK.out _ _ (⟨bthen hHeld.1 hb, hHeld.2.1.grow hb, hHeld.2.2.1.grow hb, hHeld.2.2.2.1.grow hb, hHeld.2.2.2.2.grow hb⟩) (fun hHeld => ?_)
  clear hK K
  try simp only [Act.put, List.getElem_toArray, List.getElem_cons_zero, List.getElem_cons_succ, List.setIfInBounds_toArray, List.set_cons_zero, List.set_cons_succ]
  refine wpAnyH_take (i := 33) (v := ?v22) rfl (by kernel_rfl) (by kernel_rfl) (by kernel_rfl) (fun _ _ _ h => h) (Or.inl ⟨by rfl, ?y22⟩) (by assumption) ?r22
  case y22 => (intro w hSw; (go_simp <;> first | with_reducible rfl | (rw [if_pos (by omega)] <;> with_reducible rfl)))
  try simp only [Act.put, List.getElem_toArray, List.getElem_cons_zero, List.getElem_cons_succ, List.setIfInBounds_toArray, List.set_cons_zero, List.set_cons_succ]
  refine wpAnyH_take (i := 34) (v := ?v23) rfl (by kernel_rfl) (by kernel_rfl) (by kernel_rfl) (fun _ _ _ h => h) (Or.inl ⟨by rfl, ?y23⟩) (by assumption) ?r23
  case y23 => (intro w hSw; (go_simp <;> first | with_reducible rfl | (rw [if_pos (by omega)] <;> with_reducible rfl)))
  try simp only [Act.put, List.getElem_toArray, List.getElem_cons_zero, List.getElem_cons_succ, List.setIfInBounds_toArray, List.set_cons_zero, List.set_cons_succ]
  refine wpAnyH_take (i := 35) (v := ?v24) rfl (by kernel_rfl) (by kernel_rfl) (by kernel_rfl) (fun _ _ _ h => h) (Or.inl ⟨by rfl, ?y24⟩) (by assumption) ?r24
  case y24 => (intro w hSw; (go_simp <;> first | with_reducible rfl | (rw [if_pos (by omega)] <;> with_reducible rfl)))
  try simp only [Act.put, List.getElem_toArray, List.getElem_cons_zero, List.getElem_cons_succ, List.setIfInBounds_toArray, List.set_cons_zero, List.set_cons_succ]
  refine wpAnyH_done (by kernel_rfl) ?_ _
  go_wp2
  go_ret
  exact ⟨rfl, bthen HB.out hHeld.1⟩
end Go.Proofs.YtmnkbckjhkegaaaDoor.boardClones
