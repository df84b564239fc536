/-
  The walk of the law BoardBack.
-/
import Derived.Test.YtmnkbckjhkegaaaDoorBegins
import Derived.Test.YtmnkbckjhkegaaaDoorBlkt
import Derived.Test.YtmnkbckjhkegaaaDoorRegionInv
namespace Go.Proofs.YtmnkbckjhkegaaaDoor.boardBack
open Go.RowKit
set_option linter.unusedVariables false
set_option linter.unusedSimpArgs false

theorem zero_set (w : World) : (zeroValue 40).run Tryd.prog w = .ok (.agg #[.int .u64 0, .int .u64 0]) w := by kernel_rfl
theorem infoSet2 : (Tryd.prog.info? 40).map (·.size) = some 2 := by kernel_rfl
theorem row_cell0 {w : World} {g : Nat} {x y : Value} {T : TypeId} (h : w.heap[g]? = some (.cells #[x, y] T (0, 0))) : w.cell? ⟨g, 0, none⟩ = some x := by simp [World.cell?, h]
theorem row_cell1 {w : World} {g : Nat} {x y : Value} {T : TypeId} (h : w.heap[g]? = some (.cells #[x, y] T (0, 0))) : w.cell? ⟨g, 1, none⟩ = some y := by simp [World.cell?, h]
theorem _root_.Go.Proofs.YtmnkbckjhkegaaaDoor.BrdAt.posRange {w : World} {b : Nat} {z : List Int} {S : Nat → Nat} (h : BrdAt w b z S) (hz : z.length = 98) : w.rangeAt b 0 (posC z) := fun j v hj => by
  have hl : j < 98 := by
    have := (List.getElem?_eq_some_iff.1 hj).1
    rwa [posC_len, hz] at this
  rw [Nat.zero_add, h.cell hz j hl, ← posC_get z j (by omega), hj]
theorem sides_apart (z : List Int) : sideN z 0 &&& sideN z 1 = 0 := by
  apply Nat.eq_of_testBit_eq
  intro i
  unfold sideN
  rw [Nat.testBit_and, where_test, where_test, Nat.zero_testBit]
  unfold sideB
  by_cases h : sideF (at8 z i) = 0
  · rw [h]; simp
  · simp [h]
theorem put_back (z : List Int) (hz : z.length = 98) (hc : Clean z) (q x : Int) : putZ (putZ z q x) q (if 0 ≤ q ∧ q < 81 then at8 z q.toNat else 0) = z := by
  by_cases hq : 0 ≤ q ∧ q < 81
  · rw [if_pos hq]
    unfold putZ
    rw [if_pos hq, if_pos hq, List.set_set]
    refine at8_ext _ _ (by rw [List.length_set, hz]) hz fun i hi => ?_
    rw [at8_set z _ _ i (by omega)]
    by_cases e : i = q.toNat
    · rw [if_pos e, e]
      split
      · rename_i h
        exact (hc _ (by omega) h).symm
      · rfl
    · rw [if_neg e]
  · unfold putZ
    rw [if_neg hq, if_neg hq]

theorem _root_.Go.Proofs.YtmnkbckjhkegaaaDoor.Blg.but {T : TypeId} {wc w w' : World} {g b : Nat} {A : Array Value} (h : Blg T wc w g A) (hb : But b w w') (hg : g ≠ b) : Blg T wc w' g A :=
  ⟨h.le, (hb.block g h.lt hg).trans h.row⟩
set_option maxHeartbeats 4000000 in
theorem walk (z : List Int) (q x : Int) (hz : z.length = 98) (h8 : I8s z) (g1 : (Lit.int .i64 q).wf = true) (g2 : (Lit.int .i8 x).wf = true) (w : World) (hT : Tab w) (hH : Home w) :
    Calls Tryd.prog 8 #[.agg (posC z).toArray, .int .i64 q, .int .i8 x] w fun e w' => e = .returned (.bool true) ∧ Below w.heap.size w w' := by
  have hx := bounds_i8 g2
  have BE := Lib.hid (fun W (hT : Tab W) (hH : Home W) => begins_true W hT hH)
  have NE := Lib.hid (fun W => new_brd z hz h8 W)
  have hZ := newZ_len z hz
  have hZ8 := newZ_8 z h8
  have hZc := newZ_clean z hz
  have HINF0 := Lib.hid (show (Tryd.prog.info? 28).map (·.size) = some (posC z).length by rw [posC_len, hz]; exact infoPos)
  have HP := Lib.hid (PosAt.new w z)
  have HB := Lib.hid (ball (bref w) (.cells (posC z).toArray 28))
  generalize newZ z = Z at *
  have AT := Lib.hid (fun g W (h : Brd W g Z) => at_brd g Z q hZ W h)
  have TA := Lib.hid (fun g W (h : Brd W g Z) => taken_brd g Z hZ W h)
  have hold : -128 ≤ (if 0 ≤ q ∧ q < 81 then at8 Z q.toNat else 0) ∧ (if 0 ≤ q ∧ q < 81 then at8 Z q.toNat else 0) ≤ 127 := by
    split
    · exact hZ8.at _
    · omega
  have P1 := Lib.hid (fun g W (h : Brd W g Z) => put_any g Z q x hx hZ hZc W h)
  have h1 : (putZ Z q x).length = 98 := by rw [putZ_len, hZ]
  have P2 := Lib.hid (fun g W (h : Brd W g (putZ Z q x)) => put_any g (putZ Z q x) q (if 0 ≤ q ∧ q < 81 then at8 Z q.toNat else 0) hold h1 (putZ_clean hZc hZ q x) W h)
  rw [put_back Z hZ hZc q x] at P2
  have S0 := Lib.hid (fun g W (h : Brd W g (putZ Z q x)) => pieces_brd g (putZ Z q x) 0 h1 W h)
  have S1 := Lib.hid (fun g W (h : Brd W g (putZ Z q x)) => pieces_brd g (putZ Z q x) 1 h1 W h)
  rw [if_pos (Or.inl rfl)] at S0
  rw [if_pos (Or.inr rfl)] at S1
  have T1 := Lib.hid (fun g W (h : Brd W g (putZ Z q x)) => taken_brd g (putZ Z q x) h1 W h)
  have OR := Lib.hid (fun W => or_any (sideN (putZ Z q x) 0) (sideN (putZ Z q x) 1) (sideN_sq _ _) (sideN_sq _ _) W)
  rw [show sideN (putZ Z q x) 0 ||| sideN (putZ Z q x) 1 = takenN (putZ Z q x) from rfl] at OR
  have AN := Lib.hid (fun W => and_any (sideN (putZ Z q x) 0) (sideN (putZ Z q x) 1) (sideN_sq _ _) (sideN_sq _ _) W)
  rw [sides_apart, lo_zero, hi_zero] at AN
  have EM := Lib.hid (fun W => empty_any 0 W)
  rw [decide_eq_true (rfl : (0 : Nat) = 0), lo_zero, hi_zero] at EM
  have HINF := Lib.hid (show (Tryd.prog.info? 28).map (·.size) = some (posC Z).length by rw [posC_len, hZ]; exact infoPos)
  have HS := Lib.hid (show Tryd.zeroCells28.size = (posC Z).toArray.size from zeroPos_size.trans (by rw [List.size_toArray, posC_len, hZ]))
  have HZ := Lib.hid hZ
  have HT := Lib.hid hT
  have HH := Lib.hid hH
  clear g1 g2 hT hH hz h8 hZ hZ8 hZc hx hold h1
  generalize (if 0 ≤ q ∧ q < 81 then at8 Z q.toNat else 0) = old at AT P2
  generalize loW (takenN Z) = tl at TA
  generalize hiW (takenN Z) = th at TA
  generalize putZ Z q x = Z1 at P1 P2 S0 S1 T1 OR AN
  generalize loW (takenN Z1) = ul at T1 OR
  generalize hiW (takenN Z1) = uh at T1 OR
  generalize loW (sideN Z1 0) = al at S0 OR AN
  generalize hiW (sideN Z1 0) = ah at S0 OR AN
  generalize loW (sideN Z1 1) = bl at S1 OR AN
  generalize hiW (sideN Z1 1) = bh at S1 OR AN
  go_enter Tryd.func8, Tryd.ntmps8
  go_wp2_with (first
    | (go_at_call 9; refine (BE.out _ (HT.out.grow HB.out) (HH.out.grow HB.out)).mono ?_; rintro e w1 ⟨rfl, hb⟩; have HP := Lib.hid (HP.out.grow hb); have HB := Lib.hid (bthen HB.out hb); clear hb)
    | (refine wpList_load_mid rfl 28 _ rfl w.heap.size 0 rfl (posC z) _ HP.out.range Tryd.underlying28 rfl HINF0.out ?_)
    | (go_at_call 10; refine (NE.out _).mono ?_; rintro e w2 ⟨bd, rfl, hg, hbd, hb⟩; have HG := Lib.hid (Nat.le_trans HB.out.size hg); have HBD := Lib.hid hbd; have HB := Lib.hid (bthen HB.out hb); clear hb hbd hg))
  have HR2 := Lib.hid (BrdAt.posRange HBD.out HZ.out)
  have hTT : ∃ TT : Nat → TypeId, TT 0 = 28 ∧ TT 1 = 40 := ⟨fun j => if j = 0 then 28 else 40, rfl, rfl⟩
  obtain ⟨TT, tt0, tt1⟩ := hTT
  have hZZ : ∃ ZZ : Nat → Array Value, ZZ 0 = Tryd.zeroCells28 ∧ ZZ 1 = #[.int .u64 0, .int .u64 0] := ⟨fun j => if j = 0 then Tryd.zeroCells28 else #[.int .u64 0, .int .u64 0], rfl, rfl⟩
  obtain ⟨ZZ, zz0, zz1⟩ := hZZ
  have hNN : ∃ NN : Nat → Array Value, NN 0 = (posC Z).toArray ∧ NN 1 = #[.int .u64 tl, .int .u64 th] := ⟨fun j => if j = 0 then (posC Z).toArray else #[.int .u64 tl, .int .u64 th], rfl, rfl⟩
  obtain ⟨NN, nn0, nn1⟩ := hNN
  refine wp_region_any (by kernel_rfl) ?_
  change wpAny _ _ _ _ _ _ _ (World.drew _)
  refine wpAny_inv3 (fun a0 => a0.eval (.tmp 7) = .pointer (some ⟨bd, 0, none⟩) ∧ 50 < a0.tmps.size) ⟨rfl, of_decide_eq_true rfl⟩
    (fun a0 ls a w' => ls.size = 10 ∧ Below w2.heap.size w2 w' ∧ ∃ g : Nat → Nat, Blgt TT ZZ w2 w' NN ls 6 8 2 g ∧ a = cput (ls.getD 7 false) 9 (.pointer (some ⟨g 1, 0, none⟩)) (cput (ls.getD 6 false) 8 (.pointer (some ⟨g 0, 0, none⟩)) (cput (ls.getD 5 false) 20 (.agg #[.int .u64 tl, .int .u64 th]) (cput (ls.getD 4 false) 19 (.pointer (some ⟨bd, 0, none⟩)) (cput (ls.getD 3 false) 18 (.agg (posC Z).toArray) (cput (ls.getD 2 false) 17 (.pointer (some ⟨bd, 0, none⟩)) (cput (ls.getD 1 false) 16 (.pointer (some ⟨bd, 0, none⟩)) (cput (ls.getD 0 false) 15 (.pointer (some ⟨bd, 0, none⟩)) (a0))))))))) ?step ?fin ?start (by decide)
  case start => exact ⟨rfl, (bref w2).drew, fun _ => 0, ⟨fun j hj h => absurd h (by (obtain rfl | rfl : j = 0 ∨ j = 1 := by omega) <;> decide), fun i j hi hj _ h => absurd h (by (obtain rfl | rfl : i = 0 ∨ i = 1 := by omega) <;> decide), fun j hj h => absurd h (by (obtain rfl | rfl : j = 0 ∨ j = 1 := by omega) <;> decide)⟩, rfl⟩
  case step =>
    rintro a0 ⟨e7, esz⟩ ls a w' ⟨hl, hb, g, hK, ha⟩ i o ho hu hw
    have hu' := undone hu
    rcases i with _ | _ | _ | _ | _ | _ | _ | _ | _ | _ | i
    · have ho' : some _ = some o := ho
      cases ho'
      have E7 : a.eval (.tmp 7) = .pointer (some ⟨bd, 0, none⟩) := by rw [ha]; simp [eval_cput_ne, e7]
      refine wpOp_step ho (fun K hK' => ?_)
      rw [if_pos (by rfl)]
      refine wp_valueK (w' := w') (.pointer (some ⟨bd, 0, none⟩)) ?_ (hK' _ _ ⟨by simp [hl], hb, g, hK.other (bref w') 0 (by omega) (fun j hj => by omega) (fun j hj => by omega), by rw [ha]; simp [cput_put, getF, hl, hu', cput_at]⟩)
      exact congrArg (fun v => Result.ok (Next.value v) w') E7
    · have ho' : some _ = some o := ho
      cases ho'
      have d15 : ls.getD 0 false = true := hw ⟨0, .data⟩ (by simp) rfl
      have z15 : 15 < a0.tmps.size := by omega
      have E15 : a.eval (.tmp 15) = .pointer (some ⟨bd, 0, none⟩) := by rw [ha]; simp [eval_cput_ne, d15, eval_cput_at, size_cput, z15]
      refine wpOp_step ho (fun K hK' => ?_)
      rw [if_pos (by rfl)]
      refine wp_valueK (w' := w') (.pointer (some ⟨bd, 0, none⟩)) ?_ (hK' _ _ ⟨by simp [hl], hb, g, hK.other (bref w') 1 (by omega) (fun j hj => by omega) (fun j hj => by omega), by rw [ha]; simp [cput_put, getF, hl, hu', cput_at]⟩)
      clear ha
      have EE : a.tmps[15]?.getD undef = .pointer (some ⟨bd, 0, none⟩) := by first | exact E15 | simpa [Act.eval] using E15
      go_simp
      all_goals first | (rw [EE]; go_simp; done) | decide | rfl
    · have ho' : some _ = some o := ho
      cases ho'
      have d16 : ls.getD 1 false = true := hw ⟨1, .data⟩ (by simp) rfl
      have z16 : 16 < a0.tmps.size := by omega
      have E16 : a.eval (.tmp 16) = .pointer (some ⟨bd, 0, none⟩) := by rw [ha]; simp [eval_cput_ne, d16, eval_cput_at, size_cput, z16]
      refine wpOp_step ho (fun K hK' => ?_)
      rw [if_pos (by rfl)]
      refine wp_valueK (w' := w') (.pointer (some ⟨bd, 0, none⟩)) ?_ (hK' _ _ ⟨by simp [hl], hb, g, hK.other (bref w') 2 (by omega) (fun j hj => by omega) (fun j hj => by omega), by rw [ha]; simp [cput_put, getF, hl, hu', cput_at]⟩)
      clear ha
      have EE : a.tmps[16]?.getD undef = .pointer (some ⟨bd, 0, none⟩) := by first | exact E16 | simpa [Act.eval] using E16
      go_simp
      all_goals first | (rw [EE]; go_simp; done) | decide | rfl
    · have ho' : some _ = some o := ho
      cases ho'
      have d17 : ls.getD 2 false = true := hw ⟨2, .data⟩ (by simp) rfl
      have z17 : 17 < a0.tmps.size := by omega
      have E17 : a.eval (.tmp 17) = .pointer (some ⟨bd, 0, none⟩) := by rw [ha]; simp [eval_cput_ne, d17, eval_cput_at, size_cput, z17]
      refine wpOp_step ho (fun K hK' => ?_)
      rw [if_pos (by rfl)]
      refine wp_load_mid _ _ rfl (bd) 0 E17 (posC Z) _ (range_grow HR2.out (HBD.out.lt) hb) Tryd.underlying28 rfl (HINF.out) ?_
      exact hK' _ _ ⟨by simp [hl], hb, g, hK.other (bref w') 3 (by omega) (fun j hj => by omega) (fun j hj => by omega), by rw [ha]; simp [cput_put, getF, hl, hu', cput_at]⟩
    · have ho' : some _ = some o := ho
      cases ho'
      have E7 : a.eval (.tmp 7) = .pointer (some ⟨bd, 0, none⟩) := by rw [ha]; simp [eval_cput_ne, e7]
      refine wpOp_step ho (fun K hK' => ?_)
      rw [if_pos (by rfl)]
      refine wp_valueK (w' := w') (.pointer (some ⟨bd, 0, none⟩)) ?_ (hK' _ _ ⟨by simp [hl], hb, g, hK.other (bref w') 4 (by omega) (fun j hj => by omega) (fun j hj => by omega), by rw [ha]; simp [cput_put, getF, hl, hu', cput_at]⟩)
      exact congrArg (fun v => Result.ok (Next.value v) w') E7
    · have ho' : some _ = some o := ho
      cases ho'
      have d19 : ls.getD 4 false = true := hw ⟨4, .data⟩ (by simp) rfl
      have z19 : 19 < a0.tmps.size := by omega
      have E19 : a.eval (.tmp 19) = .pointer (some ⟨bd, 0, none⟩) := by rw [ha]; simp [eval_cput_ne, d19, eval_cput_at, size_cput, z19]
      refine wpOp_step ho (fun K hK' => ?_)
      rw [if_pos (by rfl)]
      refine wp_callK 21 #[a.eval (.tmp 19)] ?_ ?_
      · clear ha E19
        go_simp
      · rw [E19]
        refine (TA.out _ _ (HBD.out.grow hb)).mono ?_
        rintro e w2 ⟨rfl, hb2⟩
        exact ⟨_, rfl, hK' _ _ ⟨by simp [hl], bthen hb hb2, g, hK.other hb2 5 (by omega) (fun j hj => by omega) (fun j hj => by omega), by rw [ha]; simp [cput_put, getF, hl, hu', cput_at]⟩⟩
    · have ho' : some _ = some o := ho
      cases ho'
      refine wpOp_step ho (fun K hK' => ?_)
      rw [if_pos (by rfl)]
      refine wp_valueK (w' := w'.alloc (.cells Tryd.zeroCells28 28)) (.pointer (some ⟨w'.heap.size, 0, none⟩)) ?_ ?_
      · skip
        clear ha
        go_simp
      · have hL := hK.laid hb 0 (by omega) (by omega) hu' (by omega)
        rw [tt0, zz0] at hL
        exact hK' _ _ ⟨by simp [hl], ball hb _, _, hL, by rw [ha]; simp [cput_put, getF, hl, hu', cput_at]⟩
    · have ho' : some _ = some o := ho
      cases ho'
      refine wpOp_step ho (fun K hK' => ?_)
      rw [if_pos (by rfl)]
      refine wp_valueK (w' := w'.alloc (.cells #[.int .u64 0, .int .u64 0] 40)) (.pointer (some ⟨w'.heap.size, 0, none⟩)) ?_ ?_
      · have hz := zero_set
        clear ha
        go_simp
      · have hL := hK.laid hb 1 (by omega) (by omega) hu' (by omega)
        rw [tt1, zz1] at hL
        exact hK' _ _ ⟨by simp [hl], ball hb _, _, hL, by rw [ha]; simp [cput_put, getF, hl, hu', cput_at]⟩
    · have ho' : some _ = some o := ho
      cases ho'
      have d8 : ls.getD 6 false = true := hw ⟨6, .data⟩ (by simp) rfl
      have z8 : 8 < a0.tmps.size := by omega
      have E8 : a.eval (.tmp 8) = .pointer (some ⟨g 0, 0, none⟩) := by rw [ha]; simp [eval_cput_ne, d8, eval_cput_at, size_cput, z8]
      have d18 : ls.getD 3 false = true := hw ⟨3, .data⟩ (by simp) rfl
      have z18 : 18 < a0.tmps.size := by omega
      have E18 : a.eval (.tmp 18) = .agg (posC Z).toArray := by rw [ha]; simp [eval_cput_ne, d18, eval_cput_at, size_cput, z18]
      refine wpOp_step ho (fun K hK' => ?_)
      rw [if_pos (by rfl)]
      have hB := hK.blk 0 (by omega) d8
      rw [show ls.getD (8 + 0) false = false from hu', if_neg (by decide), tt0, zz0] at hB
      have gg : ∀ j, j ≠ 8 → (ls.setIfInBounds 8 true).getD j false = ls.getD j false := fun j hj => (getF (by omega : 8 < ls.size)).trans (if_neg (Ne.symm hj))
      have hF := hK.filled 0 (by omega) (by omega) d8 (by omega)
      rw [nn0] at hF
      refine wp_store_row 28 _ _ rfl (g 0) ((posC Z).toArray) E8 E18 28 Tryd.zeroCells28 hB.row (by rw [List.size_toArray]; exact HINF.out) (HS.out) (posC_one Z) ?_
      refine hK' _ _ ⟨by simp [hl], below_row hb hB.le _, g, hF, ?_⟩
      rw [gg 7 (by decide), gg 6 (by decide), gg 5 (by decide), gg 4 (by decide), gg 3 (by decide), gg 2 (by decide), gg 1 (by decide), gg 0 (by decide), ha]
      rfl
    · have ho' : some _ = some o := ho
      cases ho'
      have d9 : ls.getD 7 false = true := hw ⟨7, .data⟩ (by simp) rfl
      have z9 : 9 < a0.tmps.size := by omega
      have E9 : a.eval (.tmp 9) = .pointer (some ⟨g 1, 0, none⟩) := by rw [ha]; simp [eval_cput_ne, d9, eval_cput_at, size_cput, z9]
      have d20 : ls.getD 5 false = true := hw ⟨5, .data⟩ (by simp) rfl
      have z20 : 20 < a0.tmps.size := by omega
      have E20 : a.eval (.tmp 20) = .agg #[.int .u64 tl, .int .u64 th] := by rw [ha]; simp [eval_cput_ne, d20, eval_cput_at, size_cput, z20]
      refine wpOp_step ho (fun K hK' => ?_)
      rw [if_pos (by rfl)]
      have hB := hK.blk 1 (by omega) d9
      rw [show ls.getD (8 + 1) false = false from hu', if_neg (by decide), tt1, zz1] at hB
      have gg : ∀ j, j ≠ 9 → (ls.setIfInBounds 9 true).getD j false = ls.getD j false := fun j hj => (getF (by omega : 9 < ls.size)).trans (if_neg (Ne.symm hj))
      have hF := hK.filled 1 (by omega) (by omega) d9 (by omega)
      rw [nn1] at hF
      refine wp_store_row 40 _ _ rfl (g 1) (#[.int .u64 tl, .int .u64 th]) E9 E20 40 #[.int .u64 0, .int .u64 0] hB.row (infoSet2) (rfl) (by simp [Value.oneCell']) ?_
      refine hK' _ _ ⟨by simp [hl], below_row hb hB.le _, g, hF, ?_⟩
      rw [gg 7 (by decide), gg 6 (by decide), gg 5 (by decide), gg 4 (by decide), gg 3 (by decide), gg 2 (by decide), gg 1 (by decide), gg 0 (by decide), ha]
      rfl
    · cases ho
  case fin =>
    rintro ls a w' ⟨hl, hb, g, hK, ha⟩ hr
    have d : ∀ i, i < 10 → ls.getD i false = true := all_doneB hr (by kernel_rfl) (by rw [hl]; rfl)
    have K0 := hK.blk 0 (by omega) (d 6 (by decide))
    rw [show ls.getD (8 + 0) false = true from d 8 (by decide), if_pos rfl, nn0, tt0] at K0
    have K1 := hK.blk 1 (by omega) (d 7 (by decide))
    rw [show ls.getD (8 + 1) false = true from d 9 (by decide), if_pos rfl, nn1, tt1] at K1
    have KN := hK.ne 0 1 (by omega) (by omega) (by omega) (d 6 (by decide)) (d 7 (by decide))
    rw [d 7 (by decide), d 6 (by decide), d 5 (by decide), d 4 (by decide), d 3 (by decide), d 2 (by decide), d 1 (by decide), d 0 (by decide)] at ha
    subst ha
    simp only [cput, if_true, Act.put, List.setIfInBounds_toArray, List.set_cons_zero, List.set_cons_succ]
    clear d hr hl hK
    have HK0 := Lib.hid (show PosAt w' (g 0) Z from K0.row)
    have HK1 := Lib.hid K1
    have N0 := Lib.hid (show g 0 ≠ bd from fun e => by have := K0.le; have := HBD.out.lt; omega)
    have N1 := Lib.hid (show g 1 ≠ bd from fun e => by have := K1.le; have := HBD.out.lt; omega)
    have HBD := Lib.hid (HBD.out.grow hb)
    have HB := Lib.hid (bthen HB.out hb)
    clear K0 K1 KN hb HR2 tt0 tt1 zz0 zz1 nn0 nn1
    generalize g 0 = p1 at *
    generalize g 1 = p2 at *
    go_wp2_with (first
      | (go_at_call 13; refine (AT.out _ _ HBD.out).mono ?_; rintro e w3 ⟨rfl, rfl⟩)
      | (go_at_call_of 12 (Value.int .i8 x); refine (P1.out _ _ HBD.out).mono ?_; rintro e w4 ⟨rfl, hbd, hbt⟩; have HBD := Lib.hid hbd; have HK0 := Lib.hid (HK0.out.but hbt N0.out); have HK1 := Lib.hid (HK1.out.but hbt N1.out); have HB := Lib.hid (HB.out.trans (hbt.below HG.out HB.out.size)); clear hbd hbt)
      | (go_at_call_of 20 (Value.int .i64 0); refine (S0.out _ _ HBD.out).mono ?_; rintro e wn ⟨rfl, hb⟩; have HBD := Lib.hid (HBD.out.grow hb); have HK0 := Lib.hid (HK0.out.grow hb); have HK1 := Lib.hid (HK1.out.grow hb); have HB := Lib.hid (bthen HB.out hb); clear hb)
      | (go_at_call_of 20 (Value.int .i64 1); refine (S1.out _ _ HBD.out).mono ?_; rintro e wn ⟨rfl, hb⟩; have HBD := Lib.hid (HBD.out.grow hb); have HK0 := Lib.hid (HK0.out.grow hb); have HK1 := Lib.hid (HK1.out.grow hb); have HB := Lib.hid (bthen HB.out hb); clear hb)
      | (go_at_call 19; refine (OR.out _).mono ?_; rintro e wn ⟨rfl, hb⟩; have HBD := Lib.hid (HBD.out.grow hb); have HK0 := Lib.hid (HK0.out.grow hb); have HK1 := Lib.hid (HK1.out.grow hb); have HB := Lib.hid (bthen HB.out hb); clear hb)
      | (go_at_call 21; refine (T1.out _ _ HBD.out).mono ?_; rintro e wn ⟨rfl, hb⟩; have HBD := Lib.hid (HBD.out.grow hb); have HK0 := Lib.hid (HK0.out.grow hb); have HK1 := Lib.hid (HK1.out.grow hb); have HB := Lib.hid (bthen HB.out hb); clear hb)
      | (go_at_call 30; refine (AN.out _).mono ?_; rintro e wn ⟨rfl, hb⟩; have HBD := Lib.hid (HBD.out.grow hb); have HK0 := Lib.hid (HK0.out.grow hb); have HK1 := Lib.hid (HK1.out.grow hb); have HB := Lib.hid (bthen HB.out hb); clear hb)
      | (go_at_call 26; refine (EM.out _).mono ?_; rintro e wn ⟨rfl, hb⟩; have HBD := Lib.hid (HBD.out.grow hb); have HK0 := Lib.hid (HK0.out.grow hb); have HK1 := Lib.hid (HK1.out.grow hb); have HB := Lib.hid (bthen HB.out hb); clear hb)
      | (go_at_call 12; refine (P2.out _ _ HBD.out).mono ?_; rintro e w5 ⟨rfl, hbd, hbt⟩; have HBD := Lib.hid hbd; have HK0 := Lib.hid (HK0.out.but hbt N0.out); have HK1 := Lib.hid (HK1.out.but hbt N1.out); have HB := Lib.hid (HB.out.trans (hbt.below HG.out HB.out.size)); clear hbd hbt))
    have R0 := Lib.hid (show BrdAt w5 bd Z (setAt Z) from HBD.out)
    have R1 := HK0
    have R2 := HK1
    refine wp_region_held_drew (S := fun w' => Below w5.heap.size w5 w' ∧ BrdAt w' bd Z (setAt Z) ∧ PosAt w' p1 Z ∧ Blg 40 w2 w' p2 #[.int .u64 tl, .int .u64 th]) (by kernel_rfl) ?_ (fun hHeld => ?_)
    · exact ⟨(bref w5).drew, R0.out, R1.out, ⟨R2.out.le, R2.out.row⟩⟩
    refine wpAnyH_take (i := 0) (v := ?v1) rfl (by kernel_rfl) (by kernel_rfl) (by kernel_rfl) (fun _ _ _ h => h) (Or.inl ⟨by rfl, ?y1⟩) (by assumption) ?r1
    case y1 => (intro w hSw; (go_simp <;> first | with_reducible rfl | (rw [if_pos (by omega)] <;> with_reducible rfl)))
    try simp only [Act.put, List.getElem_toArray, List.getElem_cons_zero, List.getElem_cons_succ, List.setIfInBounds_toArray, List.set_cons_zero, List.set_cons_succ]
    refine wpAnyH_take (i := 1) (v := ?v2) rfl (by kernel_rfl) (by kernel_rfl) (by kernel_rfl) (fun _ _ _ h => h) (Or.inl ⟨by rfl, ?y2⟩) (by assumption) ?r2
    case y2 => (intro w hSw; (go_simp <;> first | with_reducible rfl | (rw [if_pos (by omega)] <;> with_reducible rfl)))
    try simp only [Act.put, List.getElem_toArray, List.getElem_cons_zero, List.getElem_cons_succ, List.setIfInBounds_toArray, List.set_cons_zero, List.set_cons_succ]
    refine wpAnyH_take (i := 2) (v := ?v3) rfl (by kernel_rfl) (by kernel_rfl) (by kernel_rfl) (fun _ _ _ h => h) (Or.inl ⟨by rfl, ?y3⟩) (by assumption) ?r3
    case y3 => (intro w hSw; (go_simp <;> first | with_reducible rfl | (rw [if_pos (by omega)] <;> with_reducible rfl)))
    try simp only [Act.put, List.getElem_toArray, List.getElem_cons_zero, List.getElem_cons_succ, List.setIfInBounds_toArray, List.set_cons_zero, List.set_cons_succ]
    refine wpAnyH_take (i := 3) rfl (by kernel_rfl) (by kernel_rfl) (by kernel_rfl) (fun _ _ _ h => h) (yieldsIf_load_mid (by rfl) _ _ rfl _ _ rfl (posC Z) _ (fun w h => h.2.1.posRange HZ.out) (Tryd.underlying28) rfl (HINF.out)) (by assumption) ?_
    try simp only [Act.put, List.getElem_toArray, List.getElem_cons_zero, List.getElem_cons_succ, List.setIfInBounds_toArray, List.set_cons_zero, List.set_cons_succ]
    refine wpAnyH_take (i := 4) rfl (by kernel_rfl) (by kernel_rfl) (by kernel_rfl) (fun _ _ _ h => h) (yieldsIf_load_mid (by rfl) _ _ rfl _ _ rfl (posC Z) _ (fun w h => h.2.2.1.range) (Tryd.underlying28) rfl (HINF.out)) (by assumption) ?_
    try simp only [Act.put, List.getElem_toArray, List.getElem_cons_zero, List.getElem_cons_succ, List.setIfInBounds_toArray, List.set_cons_zero, List.set_cons_succ]
    refine wpAnyH_take (i := 5) (v := ?v4) rfl (by kernel_rfl) (by kernel_rfl) (by kernel_rfl) (fun _ _ _ h => h) (Or.inl ⟨by rfl, ?y4⟩) (by assumption) ?r4
    case y4 => (intro w hSw; have E := pos_eq Z HZ.out; (go_simp <;> first | with_reducible rfl | (rw [if_pos (by omega)] <;> with_reducible rfl)))
    try simp only [Act.put, List.getElem_toArray, List.getElem_cons_zero, List.getElem_cons_succ, List.setIfInBounds_toArray, List.set_cons_zero, List.set_cons_succ]
    refine wpAnyH_take (i := 6) (v := ?v5) rfl (by kernel_rfl) (by kernel_rfl) (by kernel_rfl) (fun _ _ _ h => h) (Or.inl ⟨by rfl, ?y5⟩) (by assumption) ?r5
    case y5 => (intro w hSw; (go_simp <;> first | with_reducible rfl | (rw [if_pos (by omega)] <;> with_reducible rfl)))
    try simp only [Act.put, List.getElem_toArray, List.getElem_cons_zero, List.getElem_cons_succ, List.setIfInBounds_toArray, List.set_cons_zero, List.set_cons_succ]
    refine wpAnyH_take (i := 7) (v := ?v6) rfl (by kernel_rfl) (by kernel_rfl) (by kernel_rfl) (fun _ _ _ h => h) (Or.inl ⟨by rfl, ?y6⟩) (by assumption) ?r6
    case y6 => (intro w hSw; (go_simp <;> first | with_reducible rfl | (rw [if_pos (by omega)] <;> with_reducible rfl)))
    try simp only [Act.put, List.getElem_toArray, List.getElem_cons_zero, List.getElem_cons_succ, List.setIfInBounds_toArray, List.set_cons_zero, List.set_cons_succ]
    refine wpAnyH_take (i := 9) (v := ?v7) rfl (by kernel_rfl) (by kernel_rfl) (by kernel_rfl) (fun _ _ _ h => h) (Or.inl ⟨by rfl, ?y7⟩) (by assumption) ?r7
    case y7 => (intro w hSw; have q0 := row_cell0 hSw.2.2.2.row; have q1 := row_cell1 hSw.2.2.2.row; (go_simp <;> first | with_reducible rfl | (rw [if_pos (by omega)] <;> with_reducible rfl)))
    try simp only [Act.put, List.getElem_toArray, List.getElem_cons_zero, List.getElem_cons_succ, List.setIfInBounds_toArray, List.set_cons_zero, List.set_cons_succ]
    refine wpAnyH_ready (rs := [8]) (by kernel_rfl) (by simp) ?_
    refine AllReadyH.cons rfl (fun K hK => ?_) AllReadyH.nil
    rw [if_pos (by rfl)]
    go_simp
    go_at_call 21
    refine (TA.out _ _ hHeld.2.1).mono ?_
    rintro e wn ⟨rfl, hb⟩
    refine hK.out _ _ (⟨bthen hHeld.1 hb, hHeld.2.1.grow hb, hHeld.2.2.1.grow hb, hHeld.2.2.2.grow hb⟩) (fun hHeld => ?_)
    clear hK K
    try simp only [Act.put, List.getElem_toArray, List.getElem_cons_zero, List.getElem_cons_succ, List.setIfInBounds_toArray, List.set_cons_zero, List.set_cons_succ]
    refine wpAnyH_take (i := 10) (v := ?v8) rfl (by kernel_rfl) (by kernel_rfl) (by kernel_rfl) (fun _ _ _ h => h) (Or.inl ⟨by rfl, ?y8⟩) (by assumption) ?r8
    case y8 => (intro w hSw; (go_simp <;> first | with_reducible rfl | (rw [if_pos (by omega)] <;> with_reducible rfl)))
    try simp only [Act.put, List.getElem_toArray, List.getElem_cons_zero, List.getElem_cons_succ, List.setIfInBounds_toArray, List.set_cons_zero, List.set_cons_succ]
    refine wpAnyH_take (i := 11) (v := ?v9) rfl (by kernel_rfl) (by kernel_rfl) (by kernel_rfl) (fun _ _ _ h => h) (Or.inl ⟨by rfl, ?y9⟩) (by assumption) ?r9
    case y9 => (intro w hSw; (go_simp <;> first | with_reducible rfl | (rw [if_pos (by omega)] <;> with_reducible rfl)))
    try simp only [Act.put, List.getElem_toArray, List.getElem_cons_zero, List.getElem_cons_succ, List.setIfInBounds_toArray, List.set_cons_zero, List.set_cons_succ]
    refine wpAnyH_take (i := 12) (v := ?v10) rfl (by kernel_rfl) (by kernel_rfl) (by kernel_rfl) (fun _ _ _ h => h) (Or.inl ⟨by rfl, ?y10⟩) (by assumption) ?r10
    case y10 => (intro w hSw; (go_simp <;> first | with_reducible rfl | (rw [if_pos (by omega)] <;> with_reducible rfl)))
    try simp only [Act.put, List.getElem_toArray, List.getElem_cons_zero, List.getElem_cons_succ, List.setIfInBounds_toArray, List.set_cons_zero, List.set_cons_succ]
    refine wpAnyH_done (by kernel_rfl) ?_ _
    go_wp2
    go_ret
    exact ⟨rfl, bthen HB.out hHeld.1⟩
end Go.Proofs.YtmnkbckjhkegaaaDoor.boardBack
