/-
  The walk of the law AttackMore.
-/
import Derived.Test.YtilhicohfnaclaaDoorAtkHead
import Derived.Test.YtilhicohfnaclaaDoorAtkRef2
namespace Go.Proofs.YtilhicohfnaclaaDoor.attackMore
open Go.RowKit
set_option maxRecDepth 100000
set_option linter.unusedVariables false
set_option linter.unusedSimpArgs false

theorem has_all (z : List Int) (q s : Int) (hs : s = 0 ∨ s = 1) : (!decide (allN z s &&& oneN q = 0)) = !decide (onN z q s (takenN z) = 0) := by
  by_cases hq : 0 ≤ q ∧ q < 81
  · obtain ⟨k, rfl⟩ : ∃ k : Nat, q = k := ⟨q.toNat, by omega⟩
    rw [has_nat _ k (by omega), all_test z s hs k (by omega)]
    rfl
  · rw [onN_out z q s _ hq, show oneN q = 0 from if_neg hq, Nat.and_zero]
theorem more_any (z : List Int) (q s : Int) (n : Nat) (hs : s = 0 ∨ s = 1) : minusN (onN z q s (takenN z)) (onN z q s (n &&& takenN z)) = 0 := by
  by_cases hq : 0 ≤ q ∧ q < 81
  · obtain ⟨k, rfl⟩ : ∃ k : Nat, q = k := ⟨q.toNat, by omega⟩
    refine on_more z k s _ _ hs (by omega) fun i hi => ?_
    rw [Nat.testBit_and, Bool.and_eq_true] at hi
    exact hi.2
  · rw [onN_out z q s _ hq, onN_out z q s _ hq]
    rfl
structure ABm (w : World) (Z : List Int) (xn yn : Int) (W : World) : Prop where
  pos : PosAt W w.heap.size Z
  x0 : W.cell? ⟨w.heap.size + 1, 0, none⟩ = some (.int .u64 xn)
  y0 : W.cell? ⟨w.heap.size + 1, 1, none⟩ = some (.int .u64 yn)
  lt : w.heap.size + 1 < W.heap.size
theorem ABm.grow {w W W' : World} {Z : List Int} {xn yn : Int} (h : ABm w Z xn yn W) (hb : Below W.heap.size W W') : ABm w Z xn yn W' := by
  obtain ⟨h0, h3, h4, h7⟩ := h
  have hs := hb.size
  exact ⟨h0.grow hb, (hb.cell (p := ⟨w.heap.size + 1, 0, none⟩) h7).trans h3, (hb.cell (p := ⟨w.heap.size + 1, 1, none⟩) h7).trans h4, by omega⟩
theorem ABm.start (w : World) (z : List Int) (a b : Int) : ABm w z a b ((w.alloc (.cells (posC z).toArray 28)).alloc (.cells #[.int .u64 a, .int .u64 b] 32)) := by
  refine ⟨(PosAt.new w z).grow (ball (bref _) _), ?_, ?_, by simp⟩
  all_goals go_simp
theorem ABm.setRow {w W : World} {Z Z' : List Int} {xn yn : Int} (h : ABm w Z xn yn W) : ABm w Z' xn yn (W.setRow w.heap.size (posC Z').toArray) := by
  obtain ⟨h0, h3, h4, h7⟩ := h
  have e : ∀ k, k ≠ w.heap.size → (W.setRow w.heap.size (posC Z').toArray).heap[k]? = W.heap[k]? := fun k hk => setRow_other _ _ _ _ hk
  have c2 : ∀ o, (W.setRow w.heap.size (posC Z').toArray).cell? ⟨w.heap.size + 1, o, none⟩ = W.cell? ⟨w.heap.size + 1, o, none⟩ := fun o => World.cell?_of_block (w := W) (a := ⟨w.heap.size + 1, o, none⟩) (e _ (by simp))
  exact ⟨setRow_heap _ _ _ _ _ _ h0, (c2 0).trans h3, (c2 1).trans h4, by simpa using h7⟩

set_option maxHeartbeats 8000000 in
theorem walk (z : List Int) (q a b : Int) (hz : z.length = 98) (h8 : I8s z) (g1 : (Lit.int .i64 q).wf = true) (g3 : (Lit.int .u64 a).wf = true) (g4 : (Lit.int .u64 b).wf = true) (w : World) (hT : Tab w) :
    Calls Tryd.prog 7 #[.agg (posC z).toArray, .int .i64 q, .agg #[.int .u64 a, .int .u64 b]] w fun e w' => e = .returned (.bool true) ∧ Below w.heap.size w w' := by
  have AT := Lib.hid (fun W (t : Tab W) => attacks_true W t)
  have CL := Lib.hid (fun W => clean8_any z hz h8 W)
  have hZ := newZ_len z hz
  have hZ8 := newZ_8 z h8
  have hZc := newZ_clean z hz
  have HINF0 := Lib.hid (show (Tryd.prog.info? 28).map (·.size) = some (posC z).length by rw [posC_len, hz]; exact infoPos)
  have HINF := Lib.hid (show (Tryd.prog.info? 28).map (·.size) = some (posC (newZ z)).length by rw [posC_len, hZ]; exact infoPos)
  have HSC := Lib.hid (show (posC z).toArray.size = (posC (newZ z)).toArray.size by rw [List.size_toArray, List.size_toArray, posC_len, posC_len, hz, hZ])
  have HT := Lib.hid hT
  clear hT
  generalize newZ z = Z at *
  have NE := Lib.hid (fun W => new_brd Z hZ hZ8 W)
  rw [newZ_self Z hZ hZc] at NE
  obtain ⟨a0, a1⟩ := bounds_u64 g3
  obtain ⟨b0, b1⟩ := bounds_u64 g4
  have RE := Lib.hid (fun W => real8_any a b a0 a1 b0 b1 W)
  have hsq := realN_sq a b
  generalize realN a b = n at *
  have TAg := Lib.hid (fun g W (h : Brd W g Z) => taken_brd g Z hZ W h)
  have AN := Lib.hid (fun W => and_any n (takenN Z) hsq (takenN_sq Z) W)
  have ON1k := Lib.hid (fun (k : Nat) g W (h : Brd W g Z) => on_any g Z q k (takenN Z) hZ (takenN_sq Z) W h)
  have ON2k := Lib.hid (fun (k : Nat) g W (h : Brd W g Z) => on_any g Z q k (n &&& takenN Z) hZ hsq.and W h)
  have ALk := Lib.hid (fun (k : Nat) g W (h : Brd W g Z) (t : Tab W) => aAll_any g Z k hZ hZ8 W h t)
  have R := Lib.hid (ABm.start w z a b)
  have HB := Lib.hid (ball (ball (bref w) (.cells (posC z).toArray 28)) (.cells #[.int .u64 a, .int .u64 b] 32))
  clear g1 g3 g4 hZ hZ8 hZc hz h8 a0 a1 b0 b1 hsq
  generalize loW n = xn at *
  generalize hiW n = yn at *
  generalize loW (n &&& takenN Z) = x at *
  generalize hiW (n &&& takenN Z) = y at *
  generalize loW (takenN Z) = tl at *
  generalize hiW (takenN Z) = th at *
  go_enter Tryd.func7, Tryd.ntmps7
  go_upto_region 1 with fail
  generalize (w.alloc (.cells (posC z).toArray 28)).alloc (.cells #[.int .u64 a, .int .u64 b] 32) = w0 at *
  go_upto_region 4 with (first
    | (go_at_call 15; refine (AT.out _ (HT.out.grow HB.out)).mono ?_; rintro e w1 ⟨rfl, hb⟩; replace R := Lib.hid (R.out.grow hb); replace HB := Lib.hid (bthen HB.out hb); clear hb)
    | (refine wpList_load_mid rfl 28 _ rfl w.heap.size 0 rfl (posC z) _ R.out.pos.range Tryd.underlying28 rfl HINF0.out ?_)
    | (go_at_call 16; refine (CL.out _).mono ?_; rintro e w2 ⟨rfl, hb⟩; replace R := Lib.hid (R.out.grow hb); replace HB := Lib.hid (bthen HB.out hb); clear hb)
    | (refine wpList_store_row rfl 28 _ _ rfl w.heap.size (posC Z).toArray rfl rfl 28 _ R.out.pos (by rw [List.size_toArray]; exact HINF.out) HSC.out (posC_one Z) ?_))
  replace HB := Lib.hid (below_row HB.out (Nat.le_refl _) (posC Z).toArray)
  replace R := Lib.hid (R.out.setRow (Z' := Z))
  generalize w2.setRow w.heap.size (posC Z).toArray = w3 at *
  go_upto_region 5 with (first
    | (refine wpList_load_mid rfl 28 _ rfl w.heap.size 0 rfl (posC Z) _ R.out.pos.range Tryd.underlying28 rfl HINF.out ?_)
    | (go_at_call 19; refine (NE.out _).mono ?_; rintro e w4 ⟨gb, rfl, hg, hbd, hb⟩; replace R := Lib.hid (R.out.grow hb); replace HB := Lib.hid (bthen HB.out hb); clear hb hg; have HBD := Lib.hid hbd))
  clear hbd
  have TA := Lib.hid (fun W h => TAg.out gb W h)
  have c0 := R.out.x0
  have c1 := R.out.y0
  have hz0 : ∀ W : World, (zeroValue 32).run Tryd.prog W = .ok (.agg #[.int .u64 0, .int .u64 0]) W := fun W => by kernel_rfl
  go_upto_region 6 with (first
    | (go_at_call 17; refine (RE.out _).mono ?_; rintro e w5 ⟨rfl, hb⟩; replace HBD := Lib.hid (BrdAt.grow HBD.out hb); replace HB := Lib.hid (bthen HB.out hb); clear hb)
    | (go_at_call 39; refine (TA.out _ HBD.out).mono ?_; rintro e w6 ⟨rfl, hb⟩; replace HBD := Lib.hid (BrdAt.grow HBD.out hb); replace HB := Lib.hid (bthen HB.out hb); clear hb)
    | (go_at_call 38; refine (AN.out _).mono ?_; rintro e w7 ⟨rfl, hb⟩; replace HBD := Lib.hid (BrdAt.grow HBD.out hb); replace HB := Lib.hid (bthen HB.out hb); clear hb))
  replace HB := Lib.hid (ball HB.out (.cells #[.int .u64 x, .int .u64 y] 32))
  replace HBD := Lib.hid (show Brd (w7.alloc (.cells #[.int .u64 x, .int .u64 y] 32)) gb Z from BrdAt.grow HBD.out (ball (bref w7) _))
  have HV := Lib.hid (show Var (w7.alloc (.cells #[.int .u64 x, .int .u64 y] 32)) w7.heap.size x y from ⟨by simp, by go_simp, by go_simp, by go_simp, by go_simp⟩)
  clear c0 c1 hz0 R TAg RE AN NE AT CL
  generalize w7.alloc (.cells #[.int .u64 x, .int .u64 y] 32) = wv at *
  generalize w7.heap.size = p at *
  go_wp2_with fail
  go_loopw [9] (fun i wr => ∃ k : Nat, k ≤ 2 ∧ i = .int .i64 k ∧ Below wv.heap.size wv wr) (fun i _ => 2 - (intOf i).toNat)
  case atStart => exact ⟨0, by omega, rfl, bref _⟩
  case round =>
    obtain ⟨k, hk, rfl, hW⟩ := hrel
    by_cases hlt : k < 2
    · have HG := Lib.hid (show BrdAt wr gb Z (setAt Z) from BrdAt.grow HBD.out hW)
      have HW := Lib.hid hW
      have HVV := HV.out.grow hW
      replace HV := Lib.hid (show wr.cell? ⟨p, 0, none⟩ = some (.int .u64 x) ∧ wr.cell? ⟨p, 1, none⟩ = some (.int .u64 y) from ⟨HVV.lo, HVV.hi⟩)
      have HPL := Lib.hid HVV.lt
      replace HB := Lib.hid (bthen HB.out hW)
      have ON1 := Lib.hid (fun W h => ON1k.out k gb W h)
      have ON2 := Lib.hid (fun W h => ON2k.out k gb W h)
      have AL := Lib.hid (fun W h t => ALk.out k gb W h t)
      have MI := Lib.hid (fun W => minus_any (onN Z q k (takenN Z)) (onN Z q k (n &&& takenN Z)) (onN_sq _ _ _ _) (onN_sq _ _ _ _) W)
      have EM := Lib.hid (fun W => empty_any (minusN (onN Z q k (takenN Z)) (onN Z q k (n &&& takenN Z))) W)
      rw [decide_eq_true (more_any Z q k n (by omega))] at EM
      have EO := Lib.hid (fun W => empty_any (onN Z q k (takenN Z)) W)
      have HA := Lib.hid (fun W => has_any (allN Z k) q (allN_sq Z k) W)
      rw [has_all Z q k (by omega)] at HA
      clear hW HVV
      generalize loW (minusN (onN Z q k (takenN Z)) (onN Z q k (n &&& takenN Z))) = ml at *
      generalize hiW (minusN (onN Z q k (takenN Z)) (onN Z q k (n &&& takenN Z))) = mh at *
      generalize loW (onN Z q k (n &&& takenN Z)) = fl at *
      generalize hiW (onN Z q k (n &&& takenN Z)) = fh at *
      generalize loW (onN Z q k (takenN Z)) = ol at *
      generalize hiW (onN Z q k (takenN Z)) = oh at *
      generalize loW (allN Z k) = al at *
      generalize hiW (allN Z k) = ah at *
      generalize decide (onN Z q k (takenN Z) = 0) = d at *
      go_wp2_with fail
      refine wp_region_held_drew (S := fun W => Below wr.heap.size wr W ∧ BrdAt W gb Z (setAt Z) ∧ W.cell? ⟨p, 0, none⟩ = some (.int .u64 x) ∧ W.cell? ⟨p, 1, none⟩ = some (.int .u64 y)) (by kernel_rfl) ?_ (fun hHeld => ?_)
      · exact ⟨(bref wr).drew, HG.out, HV.out.1, HV.out.2⟩
      refine wpAnyH_take (i := 0) (v := ?v1) rfl (by kernel_rfl) (by kernel_rfl) (by kernel_rfl) (fun _ _ _ h => h) (Or.inl ⟨by rfl, ?y1⟩) (by assumption) ?r1
      case y1 => (intro w hSw; (go_simp <;> first | with_reducible rfl | (rw [if_pos (by omega)] <;> with_reducible rfl)))
      try simp only [Act.put, List.getElem_toArray, List.getElem_cons_zero, List.getElem_cons_succ, List.setIfInBounds_toArray, List.set_cons_zero, List.set_cons_succ]
      refine wpAnyH_take (i := 1) (v := ?v2) rfl (by kernel_rfl) (by kernel_rfl) (by kernel_rfl) (fun _ _ _ h => h) (Or.inl ⟨by rfl, ?y2⟩) (by assumption) ?r2
      case y2 => (intro w hSw; (go_simp <;> first | with_reducible rfl | (rw [if_pos (by omega)] <;> with_reducible rfl)))
      try simp only [Act.put, List.getElem_toArray, List.getElem_cons_zero, List.getElem_cons_succ, List.setIfInBounds_toArray, List.set_cons_zero, List.set_cons_succ]
      refine wpAnyH_take (i := 2) (v := ?v3) rfl (by kernel_rfl) (by kernel_rfl) (by kernel_rfl) (fun _ _ _ h => h) (Or.inl ⟨by rfl, ?y3⟩) (by assumption) ?r3
      case y3 => (intro w hSw; (go_simp <;> first | with_reducible rfl | (rw [if_pos (by omega)] <;> with_reducible rfl)))
      try simp only [Act.put, List.getElem_toArray, List.getElem_cons_zero, List.getElem_cons_succ, List.setIfInBounds_toArray, List.set_cons_zero, List.set_cons_succ]
      refine wpAnyH_take (i := 3) (v := ?v4) rfl (by kernel_rfl) (by kernel_rfl) (by kernel_rfl) (fun _ _ _ h => h) (Or.inl ⟨by rfl, ?y4⟩) (by assumption) ?r4
      case y4 => (intro w hSw; (go_simp <;> first | with_reducible rfl | (rw [if_pos (by omega)] <;> with_reducible rfl)))
      try simp only [Act.put, List.getElem_toArray, List.getElem_cons_zero, List.getElem_cons_succ, List.setIfInBounds_toArray, List.set_cons_zero, List.set_cons_succ]
      refine wpAnyH_take (i := 6) (v := ?v5) rfl (by kernel_rfl) (by kernel_rfl) (by kernel_rfl) (fun _ _ _ h => h) (Or.inl ⟨by rfl, ?y5⟩) (by assumption) ?r5
      case y5 => (intro w hSw; (go_simp <;> first | with_reducible rfl | (rw [if_pos (by omega)] <;> with_reducible rfl)))
      try simp only [Act.put, List.getElem_toArray, List.getElem_cons_zero, List.getElem_cons_succ, List.setIfInBounds_toArray, List.set_cons_zero, List.set_cons_succ]
      refine wpAnyH_take (i := 7) (v := ?v6) rfl (by kernel_rfl) (by kernel_rfl) (by kernel_rfl) (fun _ _ _ h => h) (Or.inl ⟨by rfl, ?y6⟩) (by assumption) ?r6
      case y6 => (intro w hSw; (go_simp <;> first | with_reducible rfl | (rw [if_pos (by omega)] <;> with_reducible rfl)))
      try simp only [Act.put, List.getElem_toArray, List.getElem_cons_zero, List.getElem_cons_succ, List.setIfInBounds_toArray, List.set_cons_zero, List.set_cons_succ]
      refine wpAnyH_take (i := 8) (v := ?v7) rfl (by kernel_rfl) (by kernel_rfl) (by kernel_rfl) (fun _ _ _ h => h) (Or.inl ⟨by rfl, ?y7⟩) (by assumption) ?r7
      case y7 => (intro w hSw; (go_simp <;> first | with_reducible rfl | (rw [if_pos (by omega)] <;> with_reducible rfl)))
      try simp only [Act.put, List.getElem_toArray, List.getElem_cons_zero, List.getElem_cons_succ, List.setIfInBounds_toArray, List.set_cons_zero, List.set_cons_succ]
      refine wpAnyH_take (i := 9) (v := ?v8) rfl (by kernel_rfl) (by kernel_rfl) (by kernel_rfl) (fun _ _ _ h => h) (Or.inl ⟨by rfl, ?y8⟩) (by assumption) ?r8
      case y8 => (intro w hSw; have q0 := hSw.2.2.1; have q1 := hSw.2.2.2; (go_simp <;> first | with_reducible rfl | (rw [if_pos (by omega)] <;> with_reducible rfl)))
      try simp only [Act.put, List.getElem_toArray, List.getElem_cons_zero, List.getElem_cons_succ, List.setIfInBounds_toArray, List.set_cons_zero, List.set_cons_succ]
      refine wpAnyH_ready (rs := [4]) (by kernel_rfl) (by simp) ?_
      refine AllReadyH.cons rfl (fun K hK => ?_) AllReadyH.nil
      rw [if_pos (by rfl)]
      go_simp
      go_at_call 39
      refine (TA.out _ hHeld.2.1).mono ?_
      rintro e wn ⟨rfl, hb⟩
      refine hK.out _ _ (⟨bthen hHeld.1 hb, hHeld.2.1.grow hb, (hb.cell (p := ⟨p, 0, none⟩) (Nat.lt_of_lt_of_le HPL.out hHeld.1.size)).trans hHeld.2.2.1, (hb.cell (p := ⟨p, 1, none⟩) (Nat.lt_of_lt_of_le HPL.out hHeld.1.size)).trans hHeld.2.2.2⟩) (fun hHeld => ?_)
      clear hK K
      try simp only [Act.put, List.getElem_toArray, List.getElem_cons_zero, List.getElem_cons_succ, List.setIfInBounds_toArray, List.set_cons_zero, List.set_cons_succ]
      refine wpAnyH_ready (rs := [5]) (by kernel_rfl) (by simp) ?_
      refine AllReadyH.cons rfl (fun K hK => ?_) AllReadyH.nil
      rw [if_pos (by rfl)]
      go_simp
      go_at_call 18
      refine (ON1.out _ hHeld.2.1).mono ?_
      rintro e wn ⟨rfl, hb⟩
      refine hK.out _ _ (⟨bthen hHeld.1 hb, hHeld.2.1.grow hb, (hb.cell (p := ⟨p, 0, none⟩) (Nat.lt_of_lt_of_le HPL.out hHeld.1.size)).trans hHeld.2.2.1, (hb.cell (p := ⟨p, 1, none⟩) (Nat.lt_of_lt_of_le HPL.out hHeld.1.size)).trans hHeld.2.2.2⟩) (fun hHeld => ?_)
      clear hK K
      try simp only [Act.put, List.getElem_toArray, List.getElem_cons_zero, List.getElem_cons_succ, List.setIfInBounds_toArray, List.set_cons_zero, List.set_cons_succ]
      refine wpAnyH_ready (rs := [10]) (by kernel_rfl) (by simp) ?_
      refine AllReadyH.cons rfl (fun K hK => ?_) AllReadyH.nil
      rw [if_pos (by rfl)]
      go_simp
      go_at_call 18
      refine (ON2.out _ hHeld.2.1).mono ?_
      rintro e wn ⟨rfl, hb⟩
      refine hK.out _ _ (⟨bthen hHeld.1 hb, hHeld.2.1.grow hb, (hb.cell (p := ⟨p, 0, none⟩) (Nat.lt_of_lt_of_le HPL.out hHeld.1.size)).trans hHeld.2.2.1, (hb.cell (p := ⟨p, 1, none⟩) (Nat.lt_of_lt_of_le HPL.out hHeld.1.size)).trans hHeld.2.2.2⟩) (fun hHeld => ?_)
      clear hK K
      try simp only [Act.put, List.getElem_toArray, List.getElem_cons_zero, List.getElem_cons_succ, List.setIfInBounds_toArray, List.set_cons_zero, List.set_cons_succ]
      refine wpAnyH_ready (rs := [11]) (by kernel_rfl) (by simp) ?_
      refine AllReadyH.cons rfl (fun K hK => ?_) AllReadyH.nil
      rw [if_pos (by rfl)]
      go_simp
      go_at_call 36
      refine (MI.out _).mono ?_
      rintro e wn ⟨rfl, hb⟩
      refine hK.out _ _ (⟨bthen hHeld.1 hb, hHeld.2.1.grow hb, (hb.cell (p := ⟨p, 0, none⟩) (Nat.lt_of_lt_of_le HPL.out hHeld.1.size)).trans hHeld.2.2.1, (hb.cell (p := ⟨p, 1, none⟩) (Nat.lt_of_lt_of_le HPL.out hHeld.1.size)).trans hHeld.2.2.2⟩) (fun hHeld => ?_)
      clear hK K
      try simp only [Act.put, List.getElem_toArray, List.getElem_cons_zero, List.getElem_cons_succ, List.setIfInBounds_toArray, List.set_cons_zero, List.set_cons_succ]
      refine wpAnyH_ready (rs := [12]) (by kernel_rfl) (by simp) ?_
      refine AllReadyH.cons rfl (fun K hK => ?_) AllReadyH.nil
      rw [if_pos (by rfl)]
      go_simp
      go_at_call 20
      refine (EM.out _).mono ?_
      rintro e wn ⟨rfl, hb⟩
      refine hK.out _ _ (⟨bthen hHeld.1 hb, hHeld.2.1.grow hb, (hb.cell (p := ⟨p, 0, none⟩) (Nat.lt_of_lt_of_le HPL.out hHeld.1.size)).trans hHeld.2.2.1, (hb.cell (p := ⟨p, 1, none⟩) (Nat.lt_of_lt_of_le HPL.out hHeld.1.size)).trans hHeld.2.2.2⟩) (fun hHeld => ?_)
      clear hK K
      try simp only [Act.put, List.getElem_toArray, List.getElem_cons_zero, List.getElem_cons_succ, List.setIfInBounds_toArray, List.set_cons_zero, List.set_cons_succ]
      refine wpAnyH_take (i := 13) (v := ?v9) rfl (by kernel_rfl) (by kernel_rfl) (by kernel_rfl) (fun _ _ _ h => h) (Or.inl ⟨by rfl, ?y9⟩) (by assumption) ?r9
      case y9 => (intro w hSw; (go_simp <;> first | with_reducible rfl | (rw [if_pos (by omega)] <;> with_reducible rfl)))
      try simp only [Act.put, List.getElem_toArray, List.getElem_cons_zero, List.getElem_cons_succ, List.setIfInBounds_toArray, List.set_cons_zero, List.set_cons_succ]
      refine wpAnyH_done (by kernel_rfl) ?_ _
      replace HG := Lib.hid hHeld.2.1
      have HW2 := Lib.hid hHeld.1
      replace HB := Lib.hid (bthen HB.out hHeld.1)
      clear hHeld hb
      go_wp2_with (first
        | (go_at_call 24; refine (AL.out _ HG.out (HT.out.grow HB.out)).mono ?_; rintro e wa ⟨rfl, hb⟩; replace HG := Lib.hid (HG.out.grow hb); replace HB := Lib.hid (bthen HB.out hb); replace HW2 := Lib.hid (bthen HW2.out hb); clear hb)
        | (go_at_call 26; refine (HA.out _).mono ?_; rintro e wb ⟨rfl, hb⟩; replace HG := Lib.hid (HG.out.grow hb); replace HB := Lib.hid (bthen HB.out hb); replace HW2 := Lib.hid (bthen HW2.out hb); clear hb)
        | (go_at_call 39; refine (TA.out _ HG.out).mono ?_; rintro e wc ⟨rfl, hb⟩; replace HG := Lib.hid (HG.out.grow hb); replace HB := Lib.hid (bthen HB.out hb); replace HW2 := Lib.hid (bthen HW2.out hb); clear hb)
        | (go_at_call 18; refine (ON1.out _ HG.out).mono ?_; rintro e wd ⟨rfl, hb⟩; replace HG := Lib.hid (HG.out.grow hb); replace HB := Lib.hid (bthen HB.out hb); replace HW2 := Lib.hid (bthen HW2.out hb); clear hb)
        | (go_at_call 20; refine (EO.out _).mono ?_; rintro e we ⟨rfl, hb⟩; replace HG := Lib.hid (HG.out.grow hb); replace HB := Lib.hid (bthen HB.out hb); replace HW2 := Lib.hid (bthen HW2.out hb); clear hb))
      go_roundw
      case rel => exact ⟨k + 1, by omega, by go_num, HW.out.trans (HW2.out.mono HW.out.size)⟩
      case measure => simp [intOf]; omega
    · obtain rfl : k = 2 := by omega
      go_wp2
      go_ret
      exact ⟨rfl, bthen HB.out hW⟩
end Go.Proofs.YtilhicohfnaclaaDoor.attackMore
