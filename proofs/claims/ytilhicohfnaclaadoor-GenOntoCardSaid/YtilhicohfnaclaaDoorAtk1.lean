/-
  The attack package: other, On.
-/
import Derived.Test.YtilhicohfnaclaaDoorAtkMath
import Derived.Test.YtilhicohfnaclaaDoorRay2
import Derived.Test.YtilhicohfnaclaaDoorBrdAll
namespace Go.Proofs.YtilhicohfnaclaaDoor
open Go.RowKit
set_option maxRecDepth 100000
set_option linter.unusedVariables false
set_option linter.unusedSimpArgs false

theorem other_any (s : Int) (w : World) : Calls Tryd.prog 64 #[.int .i64 s] w fun e w' => e = .returned (.int .i64 (wrap64 (1 - s))) ∧ w = w' := by
  go_enter Tryd.func64, Tryd.ntmps64
  go_wp2
  go_ret
  exact ⟨rfl, rfl⟩
theorem onPart_next (z : List Int) (q s : Int) (n k : Nat) (hk : 1 ≤ k) : onPart z q s n k = onPart z q s n (k - 1) ||| (pieceN z (ofF s k) &&& rayN (ofF (1 - s) k) q n) := by
  obtain ⟨j, rfl⟩ : ∃ j, k = j + 1 := ⟨k - 1, by omega⟩
  rfl
theorem ofF_bd (s k : Int) : -128 ≤ ofF s k ∧ ofF s k ≤ 127 := by
  obtain ⟨x, hx, hx2⟩ := of_nat s k
  omega
/-- What a round of On's loop holds while its statement draws its order: what is taken (block b), the result (block b + 1), the set (block b + 2) can be written, and the pieces of the kind at hand (block d). -/
structure HeldO (w W : World) (d : Nat) (xn yn : Int) (u v : Value) : Prop where
  below : Below w.heap.size w W
  t0 : W.cell? ⟨w.heap.size, 0, none⟩ = some (.int .u64 xn)
  t1 : W.cell? ⟨w.heap.size, 1, none⟩ = some (.int .u64 yn)
  res : Var W (w.heap.size + 1) 0 0
  lt : w.heap.size + 2 < W.heap.size
  f0 : W.frozen? ⟨w.heap.size + 2, 0, none⟩ = false
  f1 : W.frozen? ⟨w.heap.size + 2, 1, none⟩ = false
  dne : w.heap.size + 2 < d
  dlt : d < W.heap.size
  c0 : W.cell? ⟨d, 0, none⟩ = some u
  c1 : W.cell? ⟨d, 1, none⟩ = some v
theorem HeldO.step {w W W' : World} {d : Nat} {xn yn : Int} {u v : Value} (h : HeldO w W d xn yn u v) (hb : Below W.heap.size W W') : HeldO w W' d xn yn u v := by
  obtain ⟨h0, a0, a1, hr, h2, h3, h4, h5, h6, h7, h8⟩ := h
  have hs := hb.size
  exact ⟨bthen h0 hb, (hb.cell (p := ⟨w.heap.size, 0, none⟩) (by omega : w.heap.size < _)).trans a0, (hb.cell (p := ⟨w.heap.size, 1, none⟩) (by omega : w.heap.size < _)).trans a1, hr.grow hb, by omega,
    (hb.frozen (p := ⟨w.heap.size + 2, 0, none⟩) h2).trans h3, (hb.frozen (p := ⟨w.heap.size + 2, 1, none⟩) h2).trans h4, h5, by omega, (hb.cell (p := ⟨d, 0, none⟩) h6).trans h7, (hb.cell (p := ⟨d, 1, none⟩) h6).trans h8⟩
theorem HeldO.store {w W : World} {d : Nat} {xn yn : Int} {u v : Value} (h : HeldO w W d xn yn u v) (x y : Value) : HeldO w ((W.setCell ⟨w.heap.size + 2, 0, none⟩ x).setCell ⟨w.heap.size + 2, 1, none⟩ y) d xn yn u v := by
  obtain ⟨h0, a0, a1, hr, h2, h3, h4, h5, h6, h7, h8⟩ := h
  have k0 : w.heap.size ≠ w.heap.size + 2 := by omega
  have k1 : d ≠ w.heap.size + 2 := by omega
  refine ⟨(h0.setCell (by simp) _).setCell (by simp) _, by go_simp, by go_simp, hr.other (by omega) _ _, by simpa using h2, by simpa using h3, by simpa using h4, h5, by simpa using h6, by go_simp, by go_simp⟩

set_option maxHeartbeats 4000000 in
theorem on_any (b : Nat) (z : List Int) (q s : Int) (n : Nat) (hz : z.length = 98) (hn : Sq n) (w : World) (hb : Brd w b z) :
    Calls Tryd.prog 18 #[.pointer (some ⟨b, 0, none⟩), .int .i64 q, .int .i64 s, .agg #[.int .u64 (loW n), .int .u64 (hiW n)]] w fun e w' => e = .returned (.agg #[.int .u64 (loW (onN z q s n)), .int .u64 (hiW (onN z q s n))]) ∧ Below w.heap.size w w' := by
  have HBD := Lib.hid hb
  have HN := Lib.hid hn
  have HZ := Lib.hid hz
  unfold onN
  clear hb hn hz
  generalize hxn : loW n = xn
  generalize hyn : hiW n = yn
  have HXN := Lib.hid hxn
  have HYN := Lib.hid hyn
  clear hxn hyn
  go_enter Tryd.func18, Tryd.ntmps18
  go_wp2
  go_loopw [10] (fun i wr => ∃ k : Nat, 1 ≤ k ∧ k ≤ 16 ∧ i = .int .i64 k ∧ Below w.heap.size w wr ∧ wr.cell? ⟨w.heap.size, 0, none⟩ = some (.int .u64 xn) ∧ wr.cell? ⟨w.heap.size, 1, none⟩ = some (.int .u64 yn) ∧ Var wr (w.heap.size + 1) 0 0 ∧ Var wr (w.heap.size + 2) (loW (onPart z q s n (k - 1))) (hiW (onPart z q s n (k - 1)))) (fun i _ => 16 - (intOf i).toNat)
  case atStart =>
    refine ⟨1, by omega, by omega, rfl, ball (ball (ball (bref w) _) _) _, by go_simp, by go_simp, ?_, ?_⟩
    · exact ⟨by simp, by go_simp, by go_simp, by go_simp, by go_simp⟩
    · rw [show onPart z q s n (1 - 1) = 0 from rfl, lo_zero, hi_zero]
      exact ⟨by simp, by go_simp, by go_simp, by go_simp, by go_simp⟩
  case round =>
    obtain ⟨k, hk1, hk2, rfl, hB, t0, t1, hR, hV⟩ := hrel
    have HB := Lib.hid hB
    have HR := Lib.hid hR
    have HV := Lib.hid hV
    have HT0 := Lib.hid t0
    have HT1 := Lib.hid t1
    have hzs := hV.lt
    have wk : wrap64 ((k : Int) + 1) = ((k + 1 : Nat) : Int) := by unfold wrap64; omega
    by_cases hlt : k ≤ 15
    · have OF := Lib.hid (fun W (h : Brd W b z) => of_brd b z s k (by omega) HZ.out W h)
      have EM := Lib.hid (fun W => empty_any (pieceN z (ofF s k)) W)
      by_cases hp : pieceN z (ofF s k) = 0
      · have hnx : onPart z q s n k = onPart z q s n (k - 1) := by
          rw [onPart_next z q s n k hk1, hp, Nat.zero_and, Nat.or_zero]
        rw [decide_eq_true hp] at EM
        have HNX := Lib.hid hnx
        clear hB hV hR t0 t1 hp hnx
        generalize loW (pieceN z (ofF s k)) = al at OF EM
        generalize hiW (pieceN z (ofF s k)) = ah at OF EM
        go_wp2_with (first
          | (go_at_call 60; refine (OF.out _ (HBD.out.grow HB.out)).mono ?_; rintro e w1 ⟨rfl, hb1⟩; have q1 := hb1.size)
          | (go_at_call 20; refine (EM.out _).mono ?_; rintro e w2 ⟨rfl, hb2⟩))
        go_roundw
        case rel =>
          have hb3 : Below wr.heap.size wr w2 := bthen (ball hb1 _) hb2
          refine ⟨k + 1, by omega, by omega, by go_num, bthen HB.out hb3, (hb3.cell (p := ⟨w.heap.size, 0, none⟩) (by omega : w.heap.size < _)).trans HT0.out, (hb3.cell (p := ⟨w.heap.size, 1, none⟩) (by omega : w.heap.size < _)).trans HT1.out, HR.out.grow hb3, ?_⟩
          rw [Nat.add_sub_cancel, HNX.out]
          exact HV.out.grow hb3
        case measure => simp [intOf]; omega
      · have hs : s = 0 ∨ s = 1 := by
          apply Classical.byContradiction
          intro h
          apply hp
          have e : ofF s k = 0 := by
            unfold ofF
            split
            · rfl
            · rw [if_neg (fun e => h (.inl e)), if_neg (fun e => h (.inr e))]
          rw [e, pieceN_zero]
        have ws : wrap64 (1 - s) = 1 - s := by unfold wrap64; omega
        rw [decide_eq_false hp] at EM
        have OT := Lib.hid (fun W => stays (other_any s W))
        rw [ws] at OT
        have PO := Lib.hid (fun W => stays (pof_any (1 - s) k W (by omega) (by omega)))
        have hpb := ofF_bd (1 - s) k
        have RA := Lib.hid (fun W => rayOf_any (ofF (1 - s) k) q n hpb.1 hpb.2 HN.out W)
        rw [HXN.out, HYN.out] at RA
        have AN := Lib.hid (fun W => and_any (pieceN z (ofF s k)) (rayN (ofF (1 - s) k) q n) (pieceN_sq _ _) (rayN_sq _ _ _) W)
        have OR := Lib.hid (fun W => or_any (onPart z q s n (k - 1)) (pieceN z (ofF s k) &&& rayN (ofF (1 - s) k) q n) (onPart_sq _ _ _ _ _) (pieceN_sq _ _).and W)
        rw [← onPart_next z q s n k hk1] at OR
        have l0 := hV.lo
        have l1 := hV.hi
        have l2 := hV.f0
        have l3 := hV.f1
        clear hB hV hR hp hs ws hpb
        generalize loW (pieceN z (ofF s k)) = al at OF EM AN
        generalize hiW (pieceN z (ofF s k)) = ah at OF EM AN
        generalize loW (pieceN z (ofF s k) &&& rayN (ofF (1 - s) k) q n) = bl at AN OR
        generalize hiW (pieceN z (ofF s k) &&& rayN (ofF (1 - s) k) q n) = bh at AN OR
        generalize loW (rayN (ofF (1 - s) k) q n) = rl at RA AN
        generalize hiW (rayN (ofF (1 - s) k) q n) = rh at RA AN
        generalize ofF (1 - s) k = p at PO RA
        generalize 1 - s = o at OT PO
        generalize loW (onPart z q s n (k - 1)) = x at OR l0 HV
        generalize hiW (onPart z q s n (k - 1)) = y at OR l1 HV
        generalize hx : loW (onPart z q s n k) = x2 at OR
        generalize hy : hiW (onPart z q s n k) = y2 at OR
        have HX := Lib.hid hx
        have HY := Lib.hid hy
        clear hx hy
        go_wp2_with (first
          | (go_at_call 60; refine (OF.out _ (HBD.out.grow HB.out)).mono ?_; rintro e w1 ⟨rfl, hb1⟩; have q1 := hb1.size)
          | (go_at_call 20; refine (EM.out _).mono ?_; rintro e w2 ⟨rfl, hb2⟩))
        have hb3 : Below wr.heap.size wr w2 := bthen (ball hb1 _) hb2
        have HC0 := Lib.hid (show w2.cell? ⟨w1.heap.size, 0, none⟩ = some (.int .u64 al) from (hb2.cell (p := ⟨w1.heap.size, 0, none⟩) (by simp)).trans (by go_simp))
        have HC1 := Lib.hid (show w2.cell? ⟨w1.heap.size, 1, none⟩ = some (.int .u64 ah) from (hb2.cell (p := ⟨w1.heap.size, 1, none⟩) (by simp)).trans (by go_simp))
        have V3 := HV.out.grow hb3
        have hd1 : w.heap.size + 2 < w1.heap.size := by omega
        have hd2 : w1.heap.size < w2.heap.size := by have := hb2.size; simp at this; omega
        have H0 : Hid (HeldO w w2.drew w1.heap.size xn yn (.int .u64 al) (.int .u64 ah)) :=
          ⟨(bthen HB.out hb3).drew, (hb3.cell (p := ⟨w.heap.size, 0, none⟩) (by omega : w.heap.size < _)).trans HT0.out, (hb3.cell (p := ⟨w.heap.size, 1, none⟩) (by omega : w.heap.size < _)).trans HT1.out, (HR.out.grow hb3).grow (bref w2).drew, V3.lt, V3.f0, V3.f1, hd1, hd2, HC0.out, HC1.out⟩
        have HS0 := Lib.hid V3.lo
        have HS1 := Lib.hid V3.hi
        clear hb1 hb2 hb3 V3 l0 l1 l2 l3 t0 t1
        generalize w1.heap.size = d at *
        refine wp_region_any (by kernel_rfl) ?_
        change wpAny _ _ _ _ _ _ _ (World.drew _)
        refine wpAny_inv3 (fun a0 => a0.eval (.tmp 1) = .int .i64 q ∧ a0.eval (.tmp 2) = .int .i64 s ∧ a0.eval (.tmp 7) = .pointer (some ⟨w.heap.size, 0, none⟩) ∧ a0.eval (.tmp 9) = .pointer (some ⟨w.heap.size + 2, 0, none⟩) ∧ a0.eval (.tmp 10) = .int .i64 k ∧ a0.eval (.tmp 11) = .pointer (some ⟨d, 0, none⟩) ∧ 34 < a0.tmps.size) ⟨rfl, rfl, rfl, rfl, rfl, rfl, of_decide_eq_true rfl⟩
          (fun a0 ls a w' => ls.size = 12 ∧ HeldO w w' d xn yn (.int .u64 al) (.int .u64 ah) ∧ (ls.getD 11 false = false → w'.cell? ⟨(w.heap.size + 2), 0, none⟩ = some (.int .u64 x) ∧ w'.cell? ⟨(w.heap.size + 2), 1, none⟩ = some (.int .u64 y)) ∧ (ls.getD 11 false = true → w'.cell? ⟨(w.heap.size + 2), 0, none⟩ = some (.int .u64 x2) ∧ w'.cell? ⟨(w.heap.size + 2), 1, none⟩ = some (.int .u64 y2)) ∧ (ls.getD 11 false = true → ls.getD 0 false = true) ∧ a = cput (ls.getD 10 false) 33 (.agg #[.int .u64 x2, .int .u64 y2]) (cput (ls.getD 9 false) 32 (.agg #[.int .u64 bl, .int .u64 bh]) (cput (ls.getD 8 false) 31 (.agg #[.int .u64 rl, .int .u64 rh]) (cput (ls.getD 7 false) 30 (.agg #[.int .u64 xn, .int .u64 yn]) (cput (ls.getD 6 false) 29 (.int .i64 q) (cput (ls.getD 5 false) 28 (.int .i8 p) (cput (ls.getD 4 false) 27 (.int .i64 k) (cput (ls.getD 3 false) 26 (.int .i64 o) (cput (ls.getD 2 false) 25 (.int .i64 s) (cput (ls.getD 1 false) 24 (.agg #[.int .u64 al, .int .u64 ah]) (cput (ls.getD 0 false) 23 (.agg #[.int .u64 x, .int .u64 y]) (a0)))))))))))) ?step ?fin ?start (by decide)
        case start => exact ⟨rfl, H0.out, fun _ => ⟨HS0.out, HS1.out⟩, (fun h => nomatch h), (fun h => nomatch h), rfl⟩
        case step =>
          rintro a0 ⟨e1, e2, e7, e9, e10, e11, esz⟩ ls a w' ⟨hl, hH, hS, hD, h80, ha⟩ i o ho hu hw
          have hu' := undone hu
          rcases i with _ | _ | _ | _ | _ | _ | _ | _ | _ | _ | _ | _ | i
          · have ho' : some _ = some o := ho
            cases ho'
            have E9 : a.eval (.tmp 9) = .pointer (some ⟨w.heap.size + 2, 0, none⟩) := by rw [ha]; simp [eval_cput_ne, e9]
            have l8 : ls.getD 11 false = false := by
              cases h : ls.getD 11 false
              · rfl
              · rw [h80 h] at hu'; cases hu'
            have hS' := hS l8
            refine wpOp_step ho (fun K hK => ?_)
            rw [if_pos (by rfl)]
            refine wp_load_mid _ _ rfl ((w.heap.size + 2)) 0 E9 [.int .u64 x, .int .u64 y] _ (range2 hS'.1 hS'.2) Tryd.underlying32 rfl infoSet2 ?_
            exact hK _ _ ⟨by simp [hl], hH, by simpa [getF, hl] using hS, by simpa [getF, hl] using hD, by simp [getF, hl], by rw [ha]; simp [cput_put, getF, hl, hu', cput_at]⟩
          · have ho' : some _ = some o := ho
            cases ho'
            have E11 : a.eval (.tmp 11) = .pointer (some ⟨d, 0, none⟩) := by rw [ha]; simp [eval_cput_ne, e11]
            refine wpOp_step ho (fun K hK => ?_)
            rw [if_pos (by rfl)]
            refine wp_load_mid _ _ rfl (d) 0 E11 [.int .u64 al, .int .u64 ah] _ (range2 hH.c0 hH.c1) Tryd.underlying32 rfl infoSet2 ?_
            exact hK _ _ ⟨by simp [hl], hH, by simpa [getF, hl] using hS, by simpa [getF, hl] using hD, by simpa [getF, hl] using h80, by rw [ha]; simp [cput_put, getF, hl, hu', cput_at]⟩
          · have ho' : some _ = some o := ho
            cases ho'
            have E2 : a.eval (.tmp 2) = .int .i64 s := by rw [ha]; simp [eval_cput_ne, e2]
            refine wpOp_step ho (fun K hK => ?_)
            rw [if_pos (by rfl)]
            refine wp_valueK (w' := w') (.int .i64 s) ?_ (hK _ _ ⟨by simp [hl], hH, by simpa [getF, hl] using hS, by simpa [getF, hl] using hD, by simpa [getF, hl] using h80, by rw [ha]; simp [cput_put, getF, hl, hu', cput_at]⟩)
            clear ha
            exact congrArg (fun v => Result.ok (Next.value v) w') E2
          · have ho' : some _ = some o := ho
            cases ho'
            have d25 : ls.getD 2 false = true := hw ⟨2, .data⟩ (by simp) rfl
            have z25 : 25 < a0.tmps.size := by omega
            have E25 : a.eval (.tmp 25) = .int .i64 s := by rw [ha]; simp [eval_cput_ne, d25, eval_cput_at, size_cput, z25]
            refine wpOp_step ho (fun K hK => ?_)
            rw [if_pos (by rfl)]
            refine wp_callK 64 #[a.eval (.tmp 25)] ?_ ?_
            · clear ha E25
              go_simp
            · rw [E25]
              refine (OT.out _).mono ?_
              rintro e w2 ⟨rfl, hb2⟩
              refine ⟨_, rfl, hK _ _ ⟨by simp [hl], hH.step hb2, by simpa [getF, hl] using (fun h => cells2_grow hH.lt hb2 (hS h)), by simpa [getF, hl] using (fun h => cells2_grow hH.lt hb2 (hD h)), by simpa [getF, hl] using h80, by rw [ha]; simp [cput_put, getF, hl, hu', cput_at]⟩⟩
          · have ho' : some _ = some o := ho
            cases ho'
            have E10 : a.eval (.tmp 10) = .int .i64 k := by rw [ha]; simp [eval_cput_ne, e10]
            refine wpOp_step ho (fun K hK => ?_)
            rw [if_pos (by rfl)]
            refine wp_valueK (w' := w') (.int .i64 k) ?_ (hK _ _ ⟨by simp [hl], hH, by simpa [getF, hl] using hS, by simpa [getF, hl] using hD, by simpa [getF, hl] using h80, by rw [ha]; simp [cput_put, getF, hl, hu', cput_at]⟩)
            clear ha
            exact congrArg (fun v => Result.ok (Next.value v) w') E10
          · have ho' : some _ = some o := ho
            cases ho'
            have d26 : ls.getD 3 false = true := hw ⟨3, .data⟩ (by simp) rfl
            have z26 : 26 < a0.tmps.size := by omega
            have E26 : a.eval (.tmp 26) = .int .i64 o := by rw [ha]; simp [eval_cput_ne, d26, eval_cput_at, size_cput, z26]
            have d27 : ls.getD 4 false = true := hw ⟨4, .data⟩ (by simp) rfl
            have z27 : 27 < a0.tmps.size := by omega
            have E27 : a.eval (.tmp 27) = .int .i64 k := by rw [ha]; simp [eval_cput_ne, d27, eval_cput_at, size_cput, z27]
            refine wpOp_step ho (fun K hK => ?_)
            rw [if_pos (by rfl)]
            refine wp_callK 63 #[a.eval (.tmp 26), a.eval (.tmp 27)] ?_ ?_
            · clear ha E26 E27
              go_simp
            · rw [E26, E27]
              refine (PO.out _).mono ?_
              rintro e w2 ⟨rfl, hb2⟩
              refine ⟨_, rfl, hK _ _ ⟨by simp [hl], hH.step hb2, by simpa [getF, hl] using (fun h => cells2_grow hH.lt hb2 (hS h)), by simpa [getF, hl] using (fun h => cells2_grow hH.lt hb2 (hD h)), by simpa [getF, hl] using h80, by rw [ha]; simp [cput_put, getF, hl, hu', cput_at]⟩⟩
          · have ho' : some _ = some o := ho
            cases ho'
            have E1 : a.eval (.tmp 1) = .int .i64 q := by rw [ha]; simp [eval_cput_ne, e1]
            refine wpOp_step ho (fun K hK => ?_)
            rw [if_pos (by rfl)]
            refine wp_valueK (w' := w') (.int .i64 q) ?_ (hK _ _ ⟨by simp [hl], hH, by simpa [getF, hl] using hS, by simpa [getF, hl] using hD, by simpa [getF, hl] using h80, by rw [ha]; simp [cput_put, getF, hl, hu', cput_at]⟩)
            clear ha
            exact congrArg (fun v => Result.ok (Next.value v) w') E1
          · have ho' : some _ = some o := ho
            cases ho'
            have E7 : a.eval (.tmp 7) = .pointer (some ⟨w.heap.size, 0, none⟩) := by rw [ha]; simp [eval_cput_ne, e7]
            refine wpOp_step ho (fun K hK => ?_)
            rw [if_pos (by rfl)]
            refine wp_load_mid _ _ rfl (w.heap.size) 0 E7 [.int .u64 xn, .int .u64 yn] _ (range2 hH.t0 hH.t1) Tryd.underlying32 rfl infoSet2 ?_
            exact hK _ _ ⟨by simp [hl], hH, by simpa [getF, hl] using hS, by simpa [getF, hl] using hD, by simpa [getF, hl] using h80, by rw [ha]; simp [cput_put, getF, hl, hu', cput_at]⟩
          · have ho' : some _ = some o := ho
            cases ho'
            have d28 : ls.getD 5 false = true := hw ⟨5, .data⟩ (by simp) rfl
            have z28 : 28 < a0.tmps.size := by omega
            have E28 : a.eval (.tmp 28) = .int .i8 p := by rw [ha]; simp [eval_cput_ne, d28, eval_cput_at, size_cput, z28]
            have d29 : ls.getD 6 false = true := hw ⟨6, .data⟩ (by simp) rfl
            have z29 : 29 < a0.tmps.size := by omega
            have E29 : a.eval (.tmp 29) = .int .i64 q := by rw [ha]; simp [eval_cput_ne, d29, eval_cput_at, size_cput, z29]
            have d30 : ls.getD 7 false = true := hw ⟨7, .data⟩ (by simp) rfl
            have z30 : 30 < a0.tmps.size := by omega
            have E30 : a.eval (.tmp 30) = .agg #[.int .u64 xn, .int .u64 yn] := by rw [ha]; simp [eval_cput_ne, d30, eval_cput_at, size_cput, z30]
            refine wpOp_step ho (fun K hK => ?_)
            rw [if_pos (by rfl)]
            refine wp_callK 62 #[a.eval (.tmp 28), a.eval (.tmp 29), a.eval (.tmp 30)] ?_ ?_
            · clear ha E28 E29 E30
              go_simp
            · rw [E28, E29, E30]
              refine (RA.out _).mono ?_
              rintro e w2 ⟨rfl, hb2⟩
              refine ⟨_, rfl, hK _ _ ⟨by simp [hl], hH.step hb2, by simpa [getF, hl] using (fun h => cells2_grow hH.lt hb2 (hS h)), by simpa [getF, hl] using (fun h => cells2_grow hH.lt hb2 (hD h)), by simpa [getF, hl] using h80, by rw [ha]; simp [cput_put, getF, hl, hu', cput_at]⟩⟩
          · have ho' : some _ = some o := ho
            cases ho'
            have d24 : ls.getD 1 false = true := hw ⟨1, .data⟩ (by simp) rfl
            have z24 : 24 < a0.tmps.size := by omega
            have E24 : a.eval (.tmp 24) = .agg #[.int .u64 al, .int .u64 ah] := by rw [ha]; simp [eval_cput_ne, d24, eval_cput_at, size_cput, z24]
            have d31 : ls.getD 8 false = true := hw ⟨8, .data⟩ (by simp) rfl
            have z31 : 31 < a0.tmps.size := by omega
            have E31 : a.eval (.tmp 31) = .agg #[.int .u64 rl, .int .u64 rh] := by rw [ha]; simp [eval_cput_ne, d31, eval_cput_at, size_cput, z31]
            refine wpOp_step ho (fun K hK => ?_)
            rw [if_pos (by rfl)]
            refine wp_callK 38 #[a.eval (.tmp 24), a.eval (.tmp 31)] ?_ ?_
            · clear ha E24 E31
              go_simp
            · rw [E24, E31]
              refine (AN.out _).mono ?_
              rintro e w2 ⟨rfl, hb2⟩
              refine ⟨_, rfl, hK _ _ ⟨by simp [hl], hH.step hb2, by simpa [getF, hl] using (fun h => cells2_grow hH.lt hb2 (hS h)), by simpa [getF, hl] using (fun h => cells2_grow hH.lt hb2 (hD h)), by simpa [getF, hl] using h80, by rw [ha]; simp [cput_put, getF, hl, hu', cput_at]⟩⟩
          · have ho' : some _ = some o := ho
            cases ho'
            have d23 : ls.getD 0 false = true := hw ⟨0, .data⟩ (by simp) rfl
            have z23 : 23 < a0.tmps.size := by omega
            have E23 : a.eval (.tmp 23) = .agg #[.int .u64 x, .int .u64 y] := by rw [ha]; simp [eval_cput_ne, d23, eval_cput_at, size_cput, z23]
            have d32 : ls.getD 9 false = true := hw ⟨9, .data⟩ (by simp) rfl
            have z32 : 32 < a0.tmps.size := by omega
            have E32 : a.eval (.tmp 32) = .agg #[.int .u64 bl, .int .u64 bh] := by rw [ha]; simp [eval_cput_ne, d32, eval_cput_at, size_cput, z32]
            refine wpOp_step ho (fun K hK => ?_)
            rw [if_pos (by rfl)]
            refine wp_callK 61 #[a.eval (.tmp 23), a.eval (.tmp 32)] ?_ ?_
            · clear ha E23 E32
              go_simp
            · rw [E23, E32]
              refine (OR.out _).mono ?_
              rintro e w2 ⟨rfl, hb2⟩
              refine ⟨_, rfl, hK _ _ ⟨by simp [hl], hH.step hb2, by simpa [getF, hl] using (fun h => cells2_grow hH.lt hb2 (hS h)), by simpa [getF, hl] using (fun h => cells2_grow hH.lt hb2 (hD h)), by simpa [getF, hl] using h80, by rw [ha]; simp [cput_put, getF, hl, hu', cput_at]⟩⟩
          · have ho' : some _ = some o := ho
            cases ho'
            have E9 : a.eval (.tmp 9) = .pointer (some ⟨w.heap.size + 2, 0, none⟩) := by rw [ha]; simp [eval_cput_ne, e9]
            have d33 : ls.getD 10 false = true := hw ⟨10, .data⟩ (by simp) rfl
            have z33 : 33 < a0.tmps.size := by omega
            have E33 : a.eval (.tmp 33) = .agg #[.int .u64 x2, .int .u64 y2] := by rw [ha]; simp [eval_cput_ne, d33, eval_cput_at, size_cput, z33]
            refine wpOp_step ho (fun K hK => ?_)
            rw [if_pos (by rfl)]
            have hS' := hS hu'
            refine wp_store_mid _ _ _ rfl ((w.heap.size + 2)) 0 #[.int .u64 x2, .int .u64 y2] E9 E33 (there2 hS'.1 hS'.2 hH.f0 hH.f1) infoSet2 (by simp [Value.oneCell']) ?_
            have gg : ∀ j, j ≠ 11 → (ls.setIfInBounds 11 true).getD j false = ls.getD j false := fun j hj => (getF (by omega : 11 < ls.size)).trans (if_neg (Ne.symm hj))
            have gs : (ls.setIfInBounds 11 true).getD 11 false = true := (getF (by omega : 11 < ls.size)).trans (if_pos rfl)
            have q0 := hS'.1
            have q1 := hS'.2
            refine hK _ _ ⟨by simp [hl], hH.store _ _, (fun h => by rw [gs] at h; cases h), (fun _ => stored2 q0 q1 _ _), (fun _ => by rw [gg 0 (by decide)]; exact hw ⟨0, .phase⟩ (by simp) rfl), ?_⟩
            rw [gg 10 (by decide), gg 9 (by decide), gg 8 (by decide), gg 7 (by decide), gg 6 (by decide), gg 5 (by decide), gg 4 (by decide), gg 3 (by decide), gg 2 (by decide), gg 1 (by decide), gg 0 (by decide), ha]
            rfl
          · cases ho
        case fin =>
          rintro ls a w' ⟨hl, hH, -, hD, -, ha⟩ hr
          have d : ∀ i, i < 12 → ls.getD i false = true := all_doneB hr (by kernel_rfl) (by rw [hl]; rfl)
          obtain ⟨n0, n1⟩ := hD (d 11 (by decide))
          rw [d 10 (by decide), d 9 (by decide), d 8 (by decide), d 7 (by decide), d 6 (by decide), d 5 (by decide), d 4 (by decide), d 3 (by decide), d 2 (by decide), d 1 (by decide), d 0 (by decide)] at ha
          subst ha
          simp only [cput, if_true, Act.put, List.setIfInBounds_toArray, List.set_cons_zero, List.set_cons_succ]
          clear d hD hr hl
          go_wp2
          go_roundw
          case rel =>
            refine ⟨k + 1, by omega, by omega, by go_num, hH.below, hH.t0, hH.t1, hH.res, ?_⟩
            rw [Nat.add_sub_cancel, HX.out, HY.out]
            exact ⟨hH.lt, n0, n1, hH.f0, hH.f1⟩
          case measure => simp [intOf]; omega
    · obtain rfl : k = 16 := by omega
      have l0 := hV.lo
      have l1 := hV.hi
      have r0 := hR.lo
      have r1 := hR.hi
      have r2 := hR.f0
      have r3 := hR.f1
      clear hB hR hV
      rw [show (16 : Nat) - 1 = 15 from rfl] at l0 l1 HV
      generalize hx : loW (onPart z q s n 15) = x at l0 HV
      generalize hy : hiW (onPart z q s n 15) = y at l1 HV
      have HX := Lib.hid hx
      have HY := Lib.hid hy
      clear hx hy
      rw [show ((16 : Nat) : Int) = 16 from rfl]
      go_wp2
      rw [HX.out, HY.out]
      exact bodyPost_ret (v := .agg #[.int .u64 x, .int .u64 y]) (by simp [results, Tryd.results18, go_sem, r0, r1]) rfl
        ⟨rfl, (HB.out.setCell (by simp) _).setCell (by simp) _⟩
end Go.Proofs.YtilhicohfnaclaaDoor
