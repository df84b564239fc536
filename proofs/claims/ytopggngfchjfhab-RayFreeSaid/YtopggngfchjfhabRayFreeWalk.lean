/-
  The walk of the law RayFree: for every piece, number and pair of words it returns true.
-/
import Derived.Test.YtopggngfchjfhabRayHead
import Derived.Test.YtopggngfchjfhabBlkg
import Derived.Test.YtopggngfchjfhabFrame
namespace Go.Proofs.Ytopggngfchjfhab.rayFree
open Go.RowKit
set_option linter.unusedVariables false
set_option linter.unusedSimpArgs false

/-- What a round of the loop over ways holds: what is taken (block w.heap.size), the two sets (blocks p7, p8), the third one (block s) can be written, the ways lie where they lay (block g), and the way at hand lies in block d. -/
structure HeldG (w W : World) (p7 p8 s g d : Nat) (l : List (Int × Int)) (xn yn xa ya xb yb : Int) (u v : Value) : Prop where
  below : Below w.heap.size w W
  ws : w.heap.size < s
  s7 : p7 < s
  s8 : p8 < s
  t0 : W.cell? ⟨w.heap.size, 0, none⟩ = some (.int .u64 xn)
  t1 : W.cell? ⟨w.heap.size, 1, none⟩ = some (.int .u64 yn)
  c0 : W.cell? ⟨p7, 0, none⟩ = some (.int .u64 xa)
  c1 : W.cell? ⟨p7, 1, none⟩ = some (.int .u64 ya)
  c2 : W.cell? ⟨p8, 0, none⟩ = some (.int .u64 xb)
  c3 : W.cell? ⟨p8, 1, none⟩ = some (.int .u64 yb)
  lt : s < W.heap.size
  f0 : W.frozen? ⟨s, 0, none⟩ = false
  f1 : W.frozen? ⟨s, 1, none⟩ = false
  ways : DirsAt W g l
  dlt : d < W.heap.size
  d0 : W.cell? ⟨d, 0, none⟩ = some u
  d1 : W.cell? ⟨d, 1, none⟩ = some v
theorem HeldG.step {w W W' : World} {p7 p8 s g d : Nat} {l : List (Int × Int)} {xn yn xa ya xb yb : Int} {u v : Value} (h : HeldG w W p7 p8 s g d l xn yn xa ya xb yb u v) (hb : Below W.heap.size W W') : HeldG w W' p7 p8 s g d l xn yn xa ya xb yb u v := by
  obtain ⟨h0, hw, h7, h8, a0, a1, b0, b1, b2, b3, h2, h3, h4, h5, h6, e0, e1⟩ := h
  have hs := hb.size
  exact ⟨bthen h0 hb, hw, h7, h8, (hb.cell (p := ⟨w.heap.size, 0, none⟩) (by omega : w.heap.size < _)).trans a0, (hb.cell (p := ⟨w.heap.size, 1, none⟩) (by omega : w.heap.size < _)).trans a1,
    (hb.cell (p := ⟨p7, 0, none⟩) (by omega : p7 < _)).trans b0, (hb.cell (p := ⟨p7, 1, none⟩) (by omega : p7 < _)).trans b1, (hb.cell (p := ⟨p8, 0, none⟩) (by omega : p8 < _)).trans b2, (hb.cell (p := ⟨p8, 1, none⟩) (by omega : p8 < _)).trans b3, by omega,
    (hb.frozen (p := ⟨s, 0, none⟩) h2).trans h3, (hb.frozen (p := ⟨s, 1, none⟩) h2).trans h4, h5.grow hb, by omega, (hb.cell (p := ⟨d, 0, none⟩) h6).trans e0, (hb.cell (p := ⟨d, 1, none⟩) h6).trans e1⟩
theorem HeldG.store {w W : World} {p7 p8 s g d : Nat} {l : List (Int × Int)} {xn yn xa ya xb yb : Int} {u v : Value} (h : HeldG w W p7 p8 s g d l xn yn xa ya xb yb u v) (hg : g ≠ s) (hd : d ≠ s) (x y : Value) : HeldG w ((W.setCell ⟨s, 0, none⟩ x).setCell ⟨s, 1, none⟩ y) p7 p8 s g d l xn yn xa ya xb yb u v := by
  obtain ⟨h0, hw, h7, h8, a0, a1, b0, b1, b2, b3, h2, h3, h4, h5, h6, e0, e1⟩ := h
  have k0 : w.heap.size ≠ s := by omega
  have k7 : p7 ≠ s := by omega
  have k8 : p8 ≠ s := by omega
  refine ⟨(h0.setCell (by simp; omega) _).setCell (by simp; omega) _, hw, h7, h8, by go_simp, by go_simp, by go_simp, by go_simp, by go_simp, by go_simp, by simpa using h2, by simpa using h3, by simpa using h4, (h5.set _ (Ne.symm hg)).set _ (Ne.symm hg), by simpa using h6, by go_simp, by go_simp⟩
theorem heldF_fst {wc W : World} {s t : Nat} {x0 y0 x1 y1 : Value}
    (h : Below wc.heap.size wc W ∧ s < W.heap.size ∧ t < W.heap.size ∧ W.cell? ⟨s, 0, none⟩ = some x0 ∧ W.cell? ⟨s, 1, none⟩ = some y0 ∧ W.cell? ⟨t, 0, none⟩ = some x1 ∧ W.cell? ⟨t, 1, none⟩ = some y1) : Below wc.heap.size wc W := h.1
theorem heldF_step {wc W w' : World} {s t : Nat} {x0 y0 x1 y1 : Value}
    (h : Below wc.heap.size wc W ∧ s < W.heap.size ∧ t < W.heap.size ∧ W.cell? ⟨s, 0, none⟩ = some x0 ∧ W.cell? ⟨s, 1, none⟩ = some y0 ∧ W.cell? ⟨t, 0, none⟩ = some x1 ∧ W.cell? ⟨t, 1, none⟩ = some y1)
    (hb : Below W.heap.size W w') :
    Below wc.heap.size wc w' ∧ s < w'.heap.size ∧ t < w'.heap.size ∧ w'.cell? ⟨s, 0, none⟩ = some x0 ∧ w'.cell? ⟨s, 1, none⟩ = some y0 ∧ w'.cell? ⟨t, 0, none⟩ = some x1 ∧ w'.cell? ⟨t, 1, none⟩ = some y1 := by
  obtain ⟨h0, h1, h2, h3, h4, h5, h6⟩ := h
  have hs := hb.size
  exact ⟨bthen h0 hb, by omega, by omega, (hb.cell (p := ⟨s, 0, none⟩) h1).trans h3, (hb.cell (p := ⟨s, 1, none⟩) h1).trans h4, (hb.cell (p := ⟨t, 0, none⟩) h2).trans h5, (hb.cell (p := ⟨t, 1, none⟩) h2).trans h6⟩
theorem zero_set (w : World) : (zeroValue 26).run Try.prog w = .ok (.agg #[.int .u64 0, .int .u64 0]) w := by kernel_rfl
theorem build_set (w : World) : (Instr.build 26 #[]).run Try.prog w = .ok (.agg #[.int .u64 0, .int .u64 0]) w := by kernel_rfl
theorem bounds_i8 {a : Int} (h : (Lit.int .i8 a).wf = true) : -128 ≤ a ∧ a ≤ 127 := by
  simpa [Lit.wf, IntKind.min, IntKind.max, IntKind.signed, IntKind.bits] using h
theorem w64 (n : Int) (h0 : -100000 ≤ n) (h1 : n ≤ 100000) : wrap64 n = n := by
  unfold wrap64
  omega

set_option maxHeartbeats 1000000 in
theorem walk_far (p q a b : Int) (p0 : -128 ≤ p) (p1 : p ≤ 127) (a0 : 0 ≤ a) (a1 : a ≤ 18446744073709551615) (b0 : 0 ≤ b) (b1 : b ≤ 18446744073709551615) (hq : ¬ (0 ≤ q ∧ q ≤ 80)) (w : World) :
    Calls Try.prog 5 #[.int .i8 p, .int .i64 q, .agg #[.int .u64 a, .int .u64 b]] w fun e w' => e = .returned (.bool true) ∧ Below w.heap.size w w' := by
  have H := Lib.hid (fun W => slides_true W)
  have R := Lib.hid (fun W => real4_any a b a0 a1 b0 b1 W)
  have O := Lib.hid (fun W => rayOf_any p q (realN a b) p0 p1 (realN_sq a b) W)
  have E := Lib.hid (fun W => empty_any 0 W)
  rw [rayN_far p q (realN a b) hq] at O
  rw [lo_zero, hi_zero] at O E
  generalize loW (realN a b) = x at R O
  generalize hiW (realN a b) = y at R O
  have hr : q < 0 ∨ (0 ≤ q ∧ 80 < q) := by omega
  clear hq p0 p1 a0 a1 b0 b1
  rcases hr with c | ⟨c, d⟩
  all_goals
    go_enter Try.func5, Try.ntmps5
    go_wp2_with (first
      | (go_at_call 6; refine (H.out _).mono ?_; rintro e w1 ⟨rfl, hb1⟩; obtain ⟨hc1, hf1⟩ := bcells hb1; have hz1 : w.heap.size < w1.heap.size := by (have := hb1.size; simp at this; omega))
      | (go_at_call 7; refine (R.out _).mono ?_; rintro e w2 ⟨rfl, hb2⟩; obtain ⟨hc2, hf2⟩ := bcells hb2; have hz2 : w.heap.size < w2.heap.size := by (have := hb2.size; omega)))
    refine (O.out _).mono ?_
    rintro e w3 ⟨rfl, hb3⟩
    go_wp2_with (go_at_call 18; refine (E.out _).mono ?_; rintro e w4 ⟨rfl, hb4⟩)
    go_ret
    have B2 := (((bthen (ball (bref w) _) (bthen hb1 hb2)).setCell (Nat.le_refl _) (p := ⟨w.heap.size, 0, none⟩) (.int .u64 x)).setCell (Nat.le_refl _) (p := ⟨w.heap.size, 1, none⟩) (.int .u64 y))
    exact ⟨rfl, B2.trans ((bthen hb3 hb4).mono B2.size)⟩

set_option maxHeartbeats 16000000 in
theorem walk_near (p q a b : Int) (p0 : -128 ≤ p) (p1 : p ≤ 127) (a0 : 0 ≤ a) (a1 : a ≤ 18446744073709551615) (b0 : 0 ≤ b) (b1 : b ≤ 18446744073709551615) (hq : 0 ≤ q ∧ q ≤ 80) (w : World) :
    Calls Try.prog 5 #[.int .i8 p, .int .i64 q, .agg #[.int .u64 a, .int .u64 b]] w fun e w' => e = .returned (.bool true) ∧ Below w.heap.size w w' := by
  have H := Lib.hid (fun W => slides_true W)
  have R := Lib.hid (fun W => real4_any a b a0 a1 b0 b1 W)
  have HN := Lib.hid (realN_sq a b)
  generalize realN a b = n at R HN
  have OA := Lib.hid (fun W => rayOf_any p q 0 p0 p1 Sq.zero W)
  have OB := Lib.hid (fun W => rayOf_any p q n p0 p1 HN.out W)
  have OS := Lib.hid (fun W => stepOf_any p q p0 p1 W)
  have OR := Lib.hid (fun W => rayOf_any 7 q 0 (by decide) (by decide) Sq.zero W)
  have M1 := Lib.hid (fun W => minus_any (rayN p q n) (rayN p q 0) (rayN_sq _ _ _) (rayN_sq _ _ _) W)
  have M2 := Lib.hid (fun W => minus_any (stepN p q) (rayN p q n) (stepN_sq _ _) (rayN_sq _ _ _) W)
  rw [ray_less, lo_zero, hi_zero] at M1
  rw [ray_step, lo_zero, hi_zero] at M2
  have E := Lib.hid (fun W => empty_any 0 W)
  rw [lo_zero, hi_zero, show decide ((0 : Nat) = 0) = true from rfl] at E
  have CR := Lib.hid (fun W => count_any (rayN 7 q 0) (rayN_sq _ _ _) W)
  have A := Lib.hid (fun W => has_any (rayN p q n) q (rayN_sq _ _ _) W)
  obtain ⟨k, rfl⟩ : ∃ k : Nat, q = k := ⟨q.toNat, by omega⟩
  have hk : k < 81 := by omega
  rw [rook_all k hk] at CR
  rw [has_nat _ _ hk, ray_self p k n hk] at A
  rw [lo_zero, hi_zero] at OA OR
  obtain ⟨q0, q1⟩ := hq
  clear a0 a1 b0 b1 hk
  generalize hxn : loW n = xn at R OB
  generalize hyn : hiW n = yn at R OB
  have HXN := Lib.hid hxn
  have HYN := Lib.hid hyn
  clear hxn hyn
  go_enter Try.func5, Try.ntmps5
  go_wp2_with (first
    | (go_at_call 6; refine (H.out _).mono ?_; rintro e w1 ⟨rfl, hb1⟩; obtain ⟨hc1, hf1⟩ := bcells hb1; have hz1 : w.heap.size < w1.heap.size := by (have := hb1.size; simp at this; omega))
    | (go_at_call 7; refine (R.out _).mono ?_; rintro e w2 ⟨rfl, hb2⟩; obtain ⟨hc2, hf2⟩ := bcells hb2; have hz2 : w.heap.size < w2.heap.size := by (have := hb2.size; omega)))
  have B2 := (((bthen (ball (bref w) _) (bthen hb1 hb2)).setCell (Nat.le_refl _) (p := ⟨w.heap.size, 0, none⟩) (.int .u64 xn)).setCell (Nat.le_refl _) (p := ⟨w.heap.size, 1, none⟩) (.int .u64 yn))
  have t0 : ((w2.setCell ⟨w.heap.size, 0, none⟩ (.int .u64 xn)).setCell ⟨w.heap.size, 1, none⟩ (.int .u64 yn)).cell? ⟨w.heap.size, 0, none⟩ = some (.int .u64 xn) := by go_simp
  have t1 : ((w2.setCell ⟨w.heap.size, 0, none⟩ (.int .u64 xn)).setCell ⟨w.heap.size, 1, none⟩ (.int .u64 yn)).cell? ⟨w.heap.size, 1, none⟩ = some (.int .u64 yn) := by go_simp
  have hzt : w.heap.size < ((w2.setCell ⟨w.heap.size, 0, none⟩ (.int .u64 xn)).setCell ⟨w.heap.size, 1, none⟩ (.int .u64 yn)).heap.size := by simpa using hz2
  generalize (w2.setCell ⟨w.heap.size, 0, none⟩ (.int .u64 xn)).setCell ⟨w.heap.size, 1, none⟩ (.int .u64 yn) = wd at B2 t0 t1 hzt ⊢
  have HB := Lib.hid B2
  clear B2 hb1 hb2 hc1 hf1 hc2 hf2 hz1 hz2 H R
  generalize loW (rayN p k 0) = xa at OA M1
  generalize hiW (rayN p k 0) = ya at OA M1
  generalize hxb : loW (rayN p k n) = xb at OB M1 M2 A
  generalize hyb : hiW (rayN p k n) = yb at OB M1 M2 A
  have HXB := Lib.hid hxb
  have HYB := Lib.hid hyb
  clear hxb hyb
  obtain ⟨NN, nn0, nn1⟩ : ∃ NN : Nat → Array Value, NN 0 = #[.int .u64 xa, .int .u64 ya] ∧ NN 1 = #[.int .u64 xb, .int .u64 yb] :=
    ⟨fun j => if j = 0 then #[.int .u64 xa, .int .u64 ya] else #[.int .u64 xb, .int .u64 yb], rfl, rfl⟩
  refine wp_region_any (by kernel_rfl) ?_
  change wpAny _ _ _ _ _ _ _ (World.drew _)
  refine wpAny_inv3 (fun a0 => a0.eval (.tmp 0) = .int .i8 p ∧ a0.eval (.tmp 1) = .int .i64 k ∧ a0.eval (.tmp 5) = .pointer (some ⟨w.heap.size, 0, none⟩) ∧ 40 < a0.tmps.size) ⟨rfl, rfl, rfl, of_decide_eq_true rfl⟩
    (fun a0 ls a w' => ls.size = 12 ∧ Below wd.heap.size wd w' ∧ ∃ g : Nat → Nat, Blgs 26 #[.int .u64 0, .int .u64 0] wd w' NN ls 8 10 2 g ∧ a = cput (ls.getD 9 false) 8 (.pointer (some ⟨g 1, 0, none⟩)) (cput (ls.getD 8 false) 7 (.pointer (some ⟨g 0, 0, none⟩)) (cput (ls.getD 7 false) 34 (.agg #[.int .u64 xb, .int .u64 yb]) (cput (ls.getD 6 false) 33 (.agg #[.int .u64 xn, .int .u64 yn]) (cput (ls.getD 5 false) 32 (.int .i64 k) (cput (ls.getD 4 false) 31 (.int .i8 p) (cput (ls.getD 3 false) 30 (.agg #[.int .u64 xa, .int .u64 ya]) (cput (ls.getD 2 false) 29 (.agg #[.int .u64 0, .int .u64 0]) (cput (ls.getD 1 false) 28 (.int .i64 k) (cput (ls.getD 0 false) 27 (.int .i8 p) (a0))))))))))) ?step ?fin ?start (by decide)
  case start => exact ⟨rfl, (bref wd).drew, fun _ => 0, ⟨fun j hj h => absurd h (by (obtain rfl | rfl : j = 0 ∨ j = 1 := by omega) <;> decide), fun i j hi hj _ h => absurd h (by (obtain rfl | rfl : i = 0 ∨ i = 1 := by omega) <;> decide), fun j hj h => absurd h (by (obtain rfl | rfl : j = 0 ∨ j = 1 := by omega) <;> decide)⟩, rfl⟩
  case step =>
    rintro a0 ⟨e0, e1, e5, esz⟩ ls a w' ⟨hl, hb, g, hK, ha⟩ i o ho hu hw
    have hu' := undone hu
    rcases i with _ | _ | _ | _ | _ | _ | _ | _ | _ | _ | _ | _ | i
    · have ho' : some _ = some o := ho
      cases ho'
      have E0 : a.eval (.tmp 0) = .int .i8 p := by rw [ha]; simp [eval_cput_ne, e0]
      refine wpOp_step ho (fun K hK' => ?_)
      rw [if_pos (by rfl)]
      refine wp_valueK (w' := w') (.int .i8 p) ?_ (hK' _ _ ⟨by simp [hl], hb, g, hK.other (bref w') 0 (by omega) (fun j hj => by omega) (fun j hj => by omega), by rw [ha]; simp [cput_put, getF, hl, hu', cput_at]⟩)
      exact congrArg (fun v => Result.ok (Next.value v) w') E0
    · have ho' : some _ = some o := ho
      cases ho'
      have E1 : a.eval (.tmp 1) = .int .i64 k := by rw [ha]; simp [eval_cput_ne, e1]
      refine wpOp_step ho (fun K hK' => ?_)
      rw [if_pos (by rfl)]
      refine wp_valueK (w' := w') (.int .i64 k) ?_ (hK' _ _ ⟨by simp [hl], hb, g, hK.other (bref w') 1 (by omega) (fun j hj => by omega) (fun j hj => by omega), by rw [ha]; simp [cput_put, getF, hl, hu', cput_at]⟩)
      exact congrArg (fun v => Result.ok (Next.value v) w') E1
    · have ho' : some _ = some o := ho
      cases ho'
      refine wpOp_step ho (fun K hK' => ?_)
      rw [if_pos (by rfl)]
      refine wp_valueK (w' := w') (.agg #[.int .u64 0, .int .u64 0]) ?_ (hK' _ _ ⟨by simp [hl], hb, g, hK.other (bref w') 2 (by omega) (fun j hj => by omega) (fun j hj => by omega), by rw [ha]; simp [cput_put, getF, hl, hu', cput_at]⟩)
      have hz := build_set
      clear ha
      go_simp
    · have ho' : some _ = some o := ho
      cases ho'
      have d27 : ls.getD 0 false = true := hw ⟨0, .data⟩ (by simp) rfl
      have z27 : 27 < a0.tmps.size := by omega
      have E27 : a.eval (.tmp 27) = .int .i8 p := by rw [ha]; simp [eval_cput_ne, d27, eval_cput_at, size_cput, z27]
      have d28 : ls.getD 1 false = true := hw ⟨1, .data⟩ (by simp) rfl
      have z28 : 28 < a0.tmps.size := by omega
      have E28 : a.eval (.tmp 28) = .int .i64 k := by rw [ha]; simp [eval_cput_ne, d28, eval_cput_at, size_cput, z28]
      have d29 : ls.getD 2 false = true := hw ⟨2, .data⟩ (by simp) rfl
      have z29 : 29 < a0.tmps.size := by omega
      have E29 : a.eval (.tmp 29) = .agg #[.int .u64 0, .int .u64 0] := by rw [ha]; simp [eval_cput_ne, d29, eval_cput_at, size_cput, z29]
      refine wpOp_step ho (fun K hK' => ?_)
      rw [if_pos (by rfl)]
      refine wp_callK 8 #[a.eval (.tmp 27), a.eval (.tmp 28), a.eval (.tmp 29)] ?_ ?_
      · clear ha E27 E28 E29
        go_simp
      · rw [E27, E28, E29]
        refine (OA.out _).mono ?_
        rintro e w2 ⟨rfl, hb2⟩
        exact ⟨_, rfl, hK' _ _ ⟨by simp [hl], bthen hb hb2, g, hK.other hb2 3 (by omega) (fun j hj => by omega) (fun j hj => by omega), by rw [ha]; simp [cput_put, getF, hl, hu', cput_at]⟩⟩
    · have ho' : some _ = some o := ho
      cases ho'
      have E0 : a.eval (.tmp 0) = .int .i8 p := by rw [ha]; simp [eval_cput_ne, e0]
      refine wpOp_step ho (fun K hK' => ?_)
      rw [if_pos (by rfl)]
      refine wp_valueK (w' := w') (.int .i8 p) ?_ (hK' _ _ ⟨by simp [hl], hb, g, hK.other (bref w') 4 (by omega) (fun j hj => by omega) (fun j hj => by omega), by rw [ha]; simp [cput_put, getF, hl, hu', cput_at]⟩)
      exact congrArg (fun v => Result.ok (Next.value v) w') E0
    · have ho' : some _ = some o := ho
      cases ho'
      have E1 : a.eval (.tmp 1) = .int .i64 k := by rw [ha]; simp [eval_cput_ne, e1]
      refine wpOp_step ho (fun K hK' => ?_)
      rw [if_pos (by rfl)]
      refine wp_valueK (w' := w') (.int .i64 k) ?_ (hK' _ _ ⟨by simp [hl], hb, g, hK.other (bref w') 5 (by omega) (fun j hj => by omega) (fun j hj => by omega), by rw [ha]; simp [cput_put, getF, hl, hu', cput_at]⟩)
      exact congrArg (fun v => Result.ok (Next.value v) w') E1
    · have ho' : some _ = some o := ho
      cases ho'
      have E5 : a.eval (.tmp 5) = .pointer (some ⟨w.heap.size, 0, none⟩) := by rw [ha]; simp [eval_cput_ne, e5]
      refine wpOp_step ho (fun K hK' => ?_)
      rw [if_pos (by rfl)]
      refine wp_load_mid _ _ rfl (w.heap.size) 0 E5 [.int .u64 xn, .int .u64 yn] _ (range2 ((hb.cell (p := ⟨w.heap.size, 0, none⟩) hzt).trans t0) ((hb.cell (p := ⟨w.heap.size, 1, none⟩) hzt).trans t1)) Try.underlying26 rfl infoSet2 ?_
      exact hK' _ _ ⟨by simp [hl], hb, g, hK.other (bref w') 6 (by omega) (fun j hj => by omega) (fun j hj => by omega), by rw [ha]; simp [cput_put, getF, hl, hu', cput_at]⟩
    · have ho' : some _ = some o := ho
      cases ho'
      have d31 : ls.getD 4 false = true := hw ⟨4, .data⟩ (by simp) rfl
      have z31 : 31 < a0.tmps.size := by omega
      have E31 : a.eval (.tmp 31) = .int .i8 p := by rw [ha]; simp [eval_cput_ne, d31, eval_cput_at, size_cput, z31]
      have d32 : ls.getD 5 false = true := hw ⟨5, .data⟩ (by simp) rfl
      have z32 : 32 < a0.tmps.size := by omega
      have E32 : a.eval (.tmp 32) = .int .i64 k := by rw [ha]; simp [eval_cput_ne, d32, eval_cput_at, size_cput, z32]
      have d33 : ls.getD 6 false = true := hw ⟨6, .data⟩ (by simp) rfl
      have z33 : 33 < a0.tmps.size := by omega
      have E33 : a.eval (.tmp 33) = .agg #[.int .u64 xn, .int .u64 yn] := by rw [ha]; simp [eval_cput_ne, d33, eval_cput_at, size_cput, z33]
      refine wpOp_step ho (fun K hK' => ?_)
      rw [if_pos (by rfl)]
      refine wp_callK 8 #[a.eval (.tmp 31), a.eval (.tmp 32), a.eval (.tmp 33)] ?_ ?_
      · clear ha E31 E32 E33
        go_simp
      · rw [E31, E32, E33]
        refine (OB.out _).mono ?_
        rintro e w2 ⟨rfl, hb2⟩
        exact ⟨_, rfl, hK' _ _ ⟨by simp [hl], bthen hb hb2, g, hK.other hb2 7 (by omega) (fun j hj => by omega) (fun j hj => by omega), by rw [ha]; simp [cput_put, getF, hl, hu', cput_at]⟩⟩
    · have ho' : some _ = some o := ho
      cases ho'
      refine wpOp_step ho (fun K hK' => ?_)
      rw [if_pos (by rfl)]
      refine wp_valueK (w' := w'.alloc (.cells #[.int .u64 0, .int .u64 0] 26)) (.pointer (some ⟨w'.heap.size, 0, none⟩)) ?_ ?_
      · have hz := zero_set
        clear ha
        go_simp
      · exact hK' _ _ ⟨by simp [hl], ball hb _, _, hK.laid hb 0 (by omega) (by omega) hu' (by omega), by rw [ha]; simp [cput_put, getF, hl, hu', cput_at]⟩
    · have ho' : some _ = some o := ho
      cases ho'
      refine wpOp_step ho (fun K hK' => ?_)
      rw [if_pos (by rfl)]
      refine wp_valueK (w' := w'.alloc (.cells #[.int .u64 0, .int .u64 0] 26)) (.pointer (some ⟨w'.heap.size, 0, none⟩)) ?_ ?_
      · have hz := zero_set
        clear ha
        go_simp
      · exact hK' _ _ ⟨by simp [hl], ball hb _, _, hK.laid hb 1 (by omega) (by omega) hu' (by omega), by rw [ha]; simp [cput_put, getF, hl, hu', cput_at]⟩
    · have ho' : some _ = some o := ho
      cases ho'
      have d7 : ls.getD 8 false = true := hw ⟨8, .data⟩ (by simp) rfl
      have z7 : 7 < a0.tmps.size := by omega
      have E7 : a.eval (.tmp 7) = .pointer (some ⟨g 0, 0, none⟩) := by rw [ha]; simp [eval_cput_ne, d7, eval_cput_at, size_cput, z7]
      have d30 : ls.getD 3 false = true := hw ⟨3, .data⟩ (by simp) rfl
      have z30 : 30 < a0.tmps.size := by omega
      have E30 : a.eval (.tmp 30) = .agg #[.int .u64 xa, .int .u64 ya] := by rw [ha]; simp [eval_cput_ne, d30, eval_cput_at, size_cput, z30]
      refine wpOp_step ho (fun K hK' => ?_)
      rw [if_pos (by rfl)]
      have hB := hK.blk 0 (by omega) d7
      rw [show ls.getD (10 + 0) false = false from hu', if_neg (by decide)] at hB
      have gg : ∀ j, j ≠ 10 → (ls.setIfInBounds 10 true).getD j false = ls.getD j false := fun j hj => (getF (by omega : 10 < ls.size)).trans (if_neg (Ne.symm hj))
      have hF := hK.filled 0 (by omega) (by omega) d7 (by omega)
      rw [nn0] at hF
      refine wp_store_row 26 _ _ rfl (g 0) (#[.int .u64 xa, .int .u64 ya]) E7 E30 26 #[.int .u64 0, .int .u64 0] hB.row infoSet2 rfl (by simp [Value.oneCell']) ?_
      refine hK' _ _ ⟨by simp [hl], below_setRow hb hB.le _, g, hF, ?_⟩
      rw [gg 9 (by decide), gg 8 (by decide), gg 7 (by decide), gg 6 (by decide), gg 5 (by decide), gg 4 (by decide), gg 3 (by decide), gg 2 (by decide), gg 1 (by decide), gg 0 (by decide), ha]
      rfl
    · have ho' : some _ = some o := ho
      cases ho'
      have d8 : ls.getD 9 false = true := hw ⟨9, .data⟩ (by simp) rfl
      have z8 : 8 < a0.tmps.size := by omega
      have E8 : a.eval (.tmp 8) = .pointer (some ⟨g 1, 0, none⟩) := by rw [ha]; simp [eval_cput_ne, d8, eval_cput_at, size_cput, z8]
      have d34 : ls.getD 7 false = true := hw ⟨7, .data⟩ (by simp) rfl
      have z34 : 34 < a0.tmps.size := by omega
      have E34 : a.eval (.tmp 34) = .agg #[.int .u64 xb, .int .u64 yb] := by rw [ha]; simp [eval_cput_ne, d34, eval_cput_at, size_cput, z34]
      refine wpOp_step ho (fun K hK' => ?_)
      rw [if_pos (by rfl)]
      have hB := hK.blk 1 (by omega) d8
      rw [show ls.getD (10 + 1) false = false from hu', if_neg (by decide)] at hB
      have gg : ∀ j, j ≠ 11 → (ls.setIfInBounds 11 true).getD j false = ls.getD j false := fun j hj => (getF (by omega : 11 < ls.size)).trans (if_neg (Ne.symm hj))
      have hF := hK.filled 1 (by omega) (by omega) d8 (by omega)
      rw [nn1] at hF
      refine wp_store_row 26 _ _ rfl (g 1) (#[.int .u64 xb, .int .u64 yb]) E8 E34 26 #[.int .u64 0, .int .u64 0] hB.row infoSet2 rfl (by simp [Value.oneCell']) ?_
      refine hK' _ _ ⟨by simp [hl], below_setRow hb hB.le _, g, hF, ?_⟩
      rw [gg 9 (by decide), gg 8 (by decide), gg 7 (by decide), gg 6 (by decide), gg 5 (by decide), gg 4 (by decide), gg 3 (by decide), gg 2 (by decide), gg 1 (by decide), gg 0 (by decide), ha]
      rfl
    · cases ho
  case fin =>
    rintro ls a w' ⟨hl, hb, g, hK, ha⟩ hr
    have d : ∀ i, i < 12 → ls.getD i false = true := all_doneB hr (by kernel_rfl) (by rw [hl]; rfl)
    have K0 := hK.blk 0 (by omega) (d 8 (by decide))
    rw [show ls.getD (10 + 0) false = true from d 10 (by decide), if_pos rfl, nn0] at K0
    have K1 := hK.blk 1 (by omega) (d 9 (by decide))
    rw [show ls.getD (10 + 1) false = true from d 11 (by decide), if_pos rfl, nn1] at K1
    rw [d 9 (by decide), d 8 (by decide), d 7 (by decide), d 6 (by decide), d 5 (by decide), d 4 (by decide), d 3 (by decide), d 2 (by decide), d 1 (by decide), d 0 (by decide)] at ha
    subst ha
    simp only [cput, if_true, Act.put, List.setIfInBounds_toArray, List.set_cons_zero, List.set_cons_succ]
    clear d hr hl hK
    have c0 : w'.cell? ⟨g 0, 0, none⟩ = some (.int .u64 xa) := by simp [World.cell?, K0.row]
    have c1 : w'.cell? ⟨g 0, 1, none⟩ = some (.int .u64 ya) := by simp [World.cell?, K0.row]
    have c2 : w'.cell? ⟨g 1, 0, none⟩ = some (.int .u64 xb) := by simp [World.cell?, K1.row]
    have c3 : w'.cell? ⟨g 1, 1, none⟩ = some (.int .u64 yb) := by simp [World.cell?, K1.row]
    have za := K0.lt
    have zb := K1.lt
    have s0 := (hb.cell (p := ⟨w.heap.size, 0, none⟩) hzt).trans t0
    have s1 := (hb.cell (p := ⟨w.heap.size, 1, none⟩) hzt).trans t1
    have hzw : w.heap.size < w'.heap.size := Nat.lt_of_lt_of_le hzt hb.size
    have HW := Lib.hid (bthen HB.out hb)
    have ga := K0.le
    have gb := K1.le
    clear K0 K1 hb t0 t1 HB nn0 nn1 OA OB
    generalize g 0 = p7 at c0 c1 za ga ⊢
    generalize g 1 = p8 at c2 c3 zb gb ⊢
    generalize w' = we at c0 c1 c2 c3 za zb s0 s1 hzw HW ⊢
    generalize hxs : loW (stepN p k) = xs at OS M2
    generalize hys : hiW (stepN p k) = ys at OS M2
    have HXS := Lib.hid hxs
    have HYS := Lib.hid hys
    clear hxs hys
    generalize loW (rayN 7 k 0) = xr at OR CR
    generalize hiW (rayN 7 k 0) = yr at OR CR
    rw [show ((16 : Nat) : Int) = 16 from rfl] at CR
    by_cases hp : p ≤ 0 ∨ 16 ≤ p
    · rcases hp with hp | hp
      · go_wp2_with fail
        go_region_held3 (fun w' => Below we.heap.size we w' ∧ p7 < w'.heap.size ∧ p8 < w'.heap.size ∧ w'.cell? ⟨p7, 0, none⟩ = some (.int .u64 xa) ∧ w'.cell? ⟨p7, 1, none⟩ = some (.int .u64 ya) ∧ w'.cell? ⟨p8, 0, none⟩ = some (.int .u64 xb) ∧ w'.cell? ⟨p8, 1, none⟩ = some (.int .u64 yb)) (first | assumption | exact ⟨(bref we).drew, za, zb, c0, c1, c2, c3⟩ | exact heldF_step (by assumption) hb)
          (first
            | (go_at_call_of 23 (Value.int .u64 xa); refine (M1.out _).mono ?_; rintro e wn ⟨rfl, hb⟩)
            | (go_at_call_of 23 (Value.int .u64 xs); refine (M2.out _).mono ?_; rintro e wn ⟨rfl, hb⟩)
            | (go_at_call 18; refine (E.out _).mono ?_; rintro e wn ⟨rfl, hb⟩)
            | (go_at_call 19; refine (OS.out _).mono ?_; rintro e wn ⟨rfl, hb⟩)
            | (go_at_call 8; refine (OR.out _).mono ?_; rintro e wn ⟨rfl, hb⟩)
            | (go_at_call 17; refine (CR.out _).mono ?_; rintro e wn ⟨rfl, hb⟩)
            | (go_at_call 10; refine (A.out _).mono ?_; rintro e wn ⟨rfl, hb⟩))
        go_wp2
        go_ret
        exact ⟨rfl, bthen HW.out (heldF_fst (by assumption))⟩
      · have hp0 : 0 < p := by omega
        have hp1 : ¬ p < 16 := by omega
        go_wp2_with fail
        go_region_held3 (fun w' => Below we.heap.size we w' ∧ p7 < w'.heap.size ∧ p8 < w'.heap.size ∧ w'.cell? ⟨p7, 0, none⟩ = some (.int .u64 xa) ∧ w'.cell? ⟨p7, 1, none⟩ = some (.int .u64 ya) ∧ w'.cell? ⟨p8, 0, none⟩ = some (.int .u64 xb) ∧ w'.cell? ⟨p8, 1, none⟩ = some (.int .u64 yb)) (first | assumption | exact ⟨(bref we).drew, za, zb, c0, c1, c2, c3⟩ | exact heldF_step (by assumption) hb)
          (first
            | (go_at_call_of 23 (Value.int .u64 xa); refine (M1.out _).mono ?_; rintro e wn ⟨rfl, hb⟩)
            | (go_at_call_of 23 (Value.int .u64 xs); refine (M2.out _).mono ?_; rintro e wn ⟨rfl, hb⟩)
            | (go_at_call 18; refine (E.out _).mono ?_; rintro e wn ⟨rfl, hb⟩)
            | (go_at_call 19; refine (OS.out _).mono ?_; rintro e wn ⟨rfl, hb⟩)
            | (go_at_call 8; refine (OR.out _).mono ?_; rintro e wn ⟨rfl, hb⟩)
            | (go_at_call 17; refine (CR.out _).mono ?_; rintro e wn ⟨rfl, hb⟩)
            | (go_at_call 10; refine (A.out _).mono ?_; rintro e wn ⟨rfl, hb⟩))
        go_wp2
        go_ret
        exact ⟨rfl, bthen HW.out (heldF_fst (by assumption))⟩
    · obtain ⟨hp0, hp1⟩ : 0 < p ∧ p < 16 := by omega
      go_wp2_with fail
      refine (OS.out _).mono ?_
      rintro e w3 ⟨rfl, hb3⟩
      have D := Lib.hid (fun W => rdirs_any p W)
      have BL := Lib.hid (ray_black p k n (by omega))
      have hl := rdirs_len p
      have HI := Lib.hid (rdirs_small p)
      go_wp2_with (go_at_call 20; refine (D.out _).mono ?_; rintro e w4 ⟨v, rfl, hv, hb4⟩; obtain ⟨ao, cap, rfl, hpp⟩ := hv.parts)
      clear D hv
      generalize rdirsL p = l at BL hl HI hpp ⊢
      have hs3 := hb3.size
      have hbw : Below (w3.alloc (Obj.cells #[Value.int IntKind.u64 xs, Value.int IntKind.u64 ys] 26)).heap.size (w3.alloc (Obj.cells #[Value.int IntKind.u64 xs, Value.int IntKind.u64 ys] 26)) w4 := hb4
      have hbe : Below we.heap.size we w4 := bthen (ball hb3 _) hbw
      have r0 := (hbe.cell (p := ⟨w.heap.size, 0, none⟩) hzw).trans s0
      have r1 := (hbe.cell (p := ⟨w.heap.size, 1, none⟩) hzw).trans s1
      have q0' := (hbe.cell (p := ⟨p7, 0, none⟩) za).trans c0
      have q1' := (hbe.cell (p := ⟨p7, 1, none⟩) za).trans c1
      have q2' := (hbe.cell (p := ⟨p8, 0, none⟩) zb).trans c2
      have q3' := (hbe.cell (p := ⟨p8, 1, none⟩) zb).trans c3
      have V1 : Var w4 w3.heap.size (loW (rayPart l 0 k n (stepN p k) 0)) (hiW (rayPart l 0 k n (stepN p k) 0)) := by
        rw [rayPart_zero, HXS.out, HYS.out]
        exact Var.grow ⟨by simp, by go_simp, by go_simp, by go_simp, by go_simp⟩ hb4
      have hB0 : Below w.heap.size w w4 := bthen HW.out hbe
      have HG : Hid (∀ g, ao = some ⟨g, 0, none⟩ → l.length ≠ 0 → w3.heap.size + 1 ≤ g ∧ DirsAt w4 g l) := by
        intro g hg hl
        obtain ⟨g', e, h1, h2⟩ := hpp hl
        rw [hg] at e
        cases e
        exact ⟨by simpa using h1, h2⟩
      have HS : Hid (l.length ≠ 0 → ∃ g, ao = some ⟨g, 0, none⟩) := fun hl => (hpp hl).imp fun g h => h.1
      have z7 : p7 < w3.heap.size := by omega
      have z8 : p8 < w3.heap.size := by omega
      have zw : w.heap.size < w3.heap.size := by omega
      have HSB := Lib.hid (stepN_sq p k)
      clear hpp hb3 hb4 hbw hbe c0 c1 c2 c3 s0 s1 za zb hzw HW hs3 ga gb
      generalize w3.heap.size = sb at z7 z8 zw V1 HG ⊢
      go_loopw [48] (fun i wr => ∃ j : Nat, j ≤ l.length ∧ i = .int .i64 j ∧ (∀ g, ao = some ⟨g, 0, none⟩ → l.length ≠ 0 → sb + 1 ≤ g ∧ DirsAt wr g l) ∧ Below w.heap.size w wr ∧ wr.cell? ⟨w.heap.size, 0, none⟩ = some (.int .u64 xn) ∧ wr.cell? ⟨w.heap.size, 1, none⟩ = some (.int .u64 yn) ∧ wr.cell? ⟨p7, 0, none⟩ = some (.int .u64 xa) ∧ wr.cell? ⟨p7, 1, none⟩ = some (.int .u64 ya) ∧ wr.cell? ⟨p8, 0, none⟩ = some (.int .u64 xb) ∧ wr.cell? ⟨p8, 1, none⟩ = some (.int .u64 yb) ∧ Var wr sb (loW (rayPart l 0 k n (stepN p k) j)) (hiW (rayPart l 0 k n (stepN p k) j))) (fun i _ => l.length - (intOf i).toNat)
      case atStart => exact ⟨0, Nat.zero_le _, rfl, HG.out, hB0, r0, r1, q0', q1', q2', q3', V1⟩
      case round =>
        obtain ⟨j, hj, rfl, hW, hB, t0, t1, m0, m1, m2, m3, hV⟩ := hrel
        clear r0 r1 q0' q1' q2' q3' V1 hB0 HG
        have HBr := Lib.hid hB
        have HV := Lib.hid hV
        have hzs := hV.lt
        by_cases hlt : j < l.length
        · obtain ⟨g, rfl⟩ := HS.out (by omega)
          obtain ⟨hg2, hdr⟩ := hW g rfl (by omega)
          have HD := Lib.hid hdr
          have hg1 := hdr.lt
          have d0 := hdr.at0 _ _ (cellsD_get _ j hlt).1
          have d1 := hdr.at0 _ _ (cellsD_get _ j hlt).2
          have hII := HI.out l[j] (List.getElem_mem hlt)
          have C := Lib.hid (fun W => or_any (rayPart l 0 k n (stepN p k) j) (wayN k (turnF 0 l[j]) n) (rayPart_sq _ 0 k n _ HSB.out j hj) (wayN_sq _ _ _) W)
          rw [← rayPart_step l 0 k n (stepN p k) j hlt] at C
          generalize l[j] = d at C hII d0 d1
          have ed : turnF 0 d = (d.1, d.2) := if_neg (by decide)
          rw [ed] at C
          have F := Lib.hid (fun W => way_any k d.1 d.2 n hII.1 hII.2 HN.out W)
          rw [HXN.out, HYN.out] at F
          clear ed
          have l0 := hV.lo
          have l1 := hV.hi
          have l2 := hV.f0
          have l3 := hV.f1
          clear hB hV hdr hW HS hII HI HSB OS OR M1 M2 CR A E BL
          generalize loW (wayN k (d.1, d.2) n) = xw at C F
          generalize hiW (wayN k (d.1, d.2) n) = yw at C F
          generalize d.1 = df at F d0
          generalize d.2 = dr at F d1
          generalize loW (rayPart l 0 k n (stepN p k) j) = x at C l0 HV
          generalize hiW (rayPart l 0 k n (stepN p k) j) = y at C l1 HV
          generalize hx : loW (rayPart l 0 k n (stepN p k) (j + 1)) = x2 at C
          generalize hy : hiW (rayPart l 0 k n (stepN p k) (j + 1)) = y2 at C
          have HX := Lib.hid hx
          have HY := Lib.hid hy
          clear hx hy
          go_wp2_with fail
          have y0 : w.heap.size < wr.heap.size := by omega
          have y7 : p7 < wr.heap.size := by omega
          have y8 : p8 < wr.heap.size := by omega
          have hg3 : g ≠ sb := by omega
          have hd3 : wr.heap.size ≠ sb := by omega
          have H0 : Hid (HeldG w (wr.alloc (Obj.cells #[Value.int IntKind.i64 df, Value.int IntKind.i64 dr] 47)).drew p7 p8 sb g wr.heap.size l xn yn xa ya xb yb (.int .i64 df) (.int .i64 dr)) :=
            ⟨(ball HBr.out _).drew, zw, z7, z8, by go_simp, by go_simp, by go_simp, by go_simp, by go_simp, by go_simp, by simp; omega, by go_simp, by go_simp, HD.out.grow (ball (bref wr) _).drew, by simp, by go_simp, by go_simp⟩
          refine wp_region_any (by kernel_rfl) ?_
          change wpAny _ _ _ _ _ _ _ (World.drew _)
          refine wpAny_inv3 (fun a0 => a0.eval (.tmp 1) = .int .i64 k ∧ a0.eval (.tmp 5) = .pointer (some ⟨w.heap.size, 0, none⟩) ∧ a0.eval (.tmp 9) = .pointer (some ⟨sb, 0, none⟩) ∧ a0.eval (.tmp 11) = .pointer (some ⟨wr.heap.size, 0, none⟩) ∧ 57 < a0.tmps.size) ⟨rfl, rfl, rfl, rfl, of_decide_eq_true rfl⟩
            (fun a0 ls a w' => ls.size = 7 ∧ HeldG w w' p7 p8 sb g wr.heap.size l xn yn xa ya xb yb (.int .i64 df) (.int .i64 dr) ∧ (ls.getD 6 false = false → w'.cell? ⟨sb, 0, none⟩ = some (.int .u64 x) ∧ w'.cell? ⟨sb, 1, none⟩ = some (.int .u64 y)) ∧ (ls.getD 6 false = true → w'.cell? ⟨sb, 0, none⟩ = some (.int .u64 x2) ∧ w'.cell? ⟨sb, 1, none⟩ = some (.int .u64 y2)) ∧ (ls.getD 6 false = true → ls.getD 0 false = true) ∧ a = cput (ls.getD 5 false) 57 (.agg #[.int .u64 x2, .int .u64 y2]) (cput (ls.getD 4 false) 56 (.agg #[.int .u64 xw, .int .u64 yw]) (cput (ls.getD 3 false) 55 (.agg #[.int .u64 xn, .int .u64 yn]) (cput (ls.getD 2 false) 54 (.agg #[.int .i64 df, .int .i64 dr]) (cput (ls.getD 1 false) 53 (.int .i64 k) (cput (ls.getD 0 false) 52 (.agg #[.int .u64 x, .int .u64 y]) (a0))))))) ?step ?fin ?start (by decide)
          case start => exact ⟨rfl, H0.out, fun _ => ⟨by go_simp, by go_simp⟩, (fun h => nomatch h), (fun h => nomatch h), rfl⟩
          case step =>
            rintro a0 ⟨e1, e5, e9, e11, esz⟩ ls a w' ⟨hl, hH, hS, hD, h80, ha⟩ i o ho hu hw
            have hu' := undone hu
            rcases i with _ | _ | _ | _ | _ | _ | _ | i
            · have ho' : some _ = some o := ho
              cases ho'
              have E9 : a.eval (.tmp 9) = .pointer (some ⟨sb, 0, none⟩) := by rw [ha]; simp [eval_cput_ne, e9]
              have l8 : ls.getD 6 false = false := by
                cases h : ls.getD 6 false
                · rfl
                · rw [h80 h] at hu'; cases hu'
              have hS' := hS l8
              refine wpOp_step ho (fun K hK => ?_)
              rw [if_pos (by rfl)]
              refine wp_load_mid _ _ rfl (sb) 0 E9 [.int .u64 x, .int .u64 y] _ (range2 hS'.1 hS'.2) Try.underlying26 rfl infoSet2 ?_
              exact hK _ _ ⟨by simp [hl], hH, by simpa [getF, hl] using hS, by simpa [getF, hl] using hD, by simp [getF, hl], by rw [ha]; simp [cput_put, getF, hl, hu', cput_at]⟩
            · have ho' : some _ = some o := ho
              cases ho'
              have E1 : a.eval (.tmp 1) = .int .i64 k := by rw [ha]; simp [eval_cput_ne, e1]
              refine wpOp_step ho (fun K hK => ?_)
              rw [if_pos (by rfl)]
              refine wp_valueK (w' := w') (.int .i64 k) ?_ (hK _ _ ⟨by simp [hl], hH, by simpa [getF, hl] using hS, by simpa [getF, hl] using hD, by simpa [getF, hl] using h80, by rw [ha]; simp [cput_put, getF, hl, hu', cput_at]⟩)
              clear ha
              exact congrArg (fun v => Result.ok (Next.value v) w') E1
            · have ho' : some _ = some o := ho
              cases ho'
              have E11 : a.eval (.tmp 11) = .pointer (some ⟨wr.heap.size, 0, none⟩) := by rw [ha]; simp [eval_cput_ne, e11]
              refine wpOp_step ho (fun K hK => ?_)
              rw [if_pos (by rfl)]
              refine wp_load_mid _ _ rfl (wr.heap.size) 0 E11 [.int .i64 df, .int .i64 dr] _ (range2 hH.d0 hH.d1) Try.underlying47 rfl infoDir2 ?_
              exact hK _ _ ⟨by simp [hl], hH, by simpa [getF, hl] using hS, by simpa [getF, hl] using hD, by simpa [getF, hl] using h80, by rw [ha]; simp [cput_put, getF, hl, hu', cput_at]⟩
            · have ho' : some _ = some o := ho
              cases ho'
              have E5 : a.eval (.tmp 5) = .pointer (some ⟨w.heap.size, 0, none⟩) := by rw [ha]; simp [eval_cput_ne, e5]
              refine wpOp_step ho (fun K hK => ?_)
              rw [if_pos (by rfl)]
              refine wp_load_mid _ _ rfl (w.heap.size) 0 E5 [.int .u64 xn, .int .u64 yn] _ (range2 hH.t0 hH.t1) Try.underlying26 rfl infoSet2 ?_
              exact hK _ _ ⟨by simp [hl], hH, by simpa [getF, hl] using hS, by simpa [getF, hl] using hD, by simpa [getF, hl] using h80, by rw [ha]; simp [cput_put, getF, hl, hu', cput_at]⟩
            · have ho' : some _ = some o := ho
              cases ho'
              have d53 : ls.getD 1 false = true := hw ⟨1, .data⟩ (by simp) rfl
              have z53 : 53 < a0.tmps.size := by omega
              have E53 : a.eval (.tmp 53) = .int .i64 k := by rw [ha]; simp [eval_cput_ne, d53, eval_cput_at, size_cput, z53]
              have d54 : ls.getD 2 false = true := hw ⟨2, .data⟩ (by simp) rfl
              have z54 : 54 < a0.tmps.size := by omega
              have E54 : a.eval (.tmp 54) = .agg #[.int .i64 df, .int .i64 dr] := by rw [ha]; simp [eval_cput_ne, d54, eval_cput_at, size_cput, z54]
              have d55 : ls.getD 3 false = true := hw ⟨3, .data⟩ (by simp) rfl
              have z55 : 55 < a0.tmps.size := by omega
              have E55 : a.eval (.tmp 55) = .agg #[.int .u64 xn, .int .u64 yn] := by rw [ha]; simp [eval_cput_ne, d55, eval_cput_at, size_cput, z55]
              refine wpOp_step ho (fun K hK => ?_)
              rw [if_pos (by rfl)]
              refine wp_callK 22 #[a.eval (.tmp 53), a.eval (.tmp 54), a.eval (.tmp 55)] ?_ ?_
              · clear ha E53 E54 E55
                go_simp
              · rw [E53, E54, E55]
                refine (F.out _).mono ?_
                rintro e w2 ⟨rfl, hb2⟩
                refine ⟨_, rfl, hK _ _ ⟨by simp [hl], hH.step hb2, by simpa [getF, hl] using (fun h => cells2_grow hH.lt hb2 (hS h)), by simpa [getF, hl] using (fun h => cells2_grow hH.lt hb2 (hD h)), by simpa [getF, hl] using h80, by rw [ha]; simp [cput_put, getF, hl, hu', cput_at]⟩⟩
            · have ho' : some _ = some o := ho
              cases ho'
              have d52 : ls.getD 0 false = true := hw ⟨0, .data⟩ (by simp) rfl
              have z52 : 52 < a0.tmps.size := by omega
              have E52 : a.eval (.tmp 52) = .agg #[.int .u64 x, .int .u64 y] := by rw [ha]; simp [eval_cput_ne, d52, eval_cput_at, size_cput, z52]
              have d56 : ls.getD 4 false = true := hw ⟨4, .data⟩ (by simp) rfl
              have z56 : 56 < a0.tmps.size := by omega
              have E56 : a.eval (.tmp 56) = .agg #[.int .u64 xw, .int .u64 yw] := by rw [ha]; simp [eval_cput_ne, d56, eval_cput_at, size_cput, z56]
              refine wpOp_step ho (fun K hK => ?_)
              rw [if_pos (by rfl)]
              refine wp_callK 21 #[a.eval (.tmp 52), a.eval (.tmp 56)] ?_ ?_
              · clear ha E52 E56
                go_simp
              · rw [E52, E56]
                refine (C.out _).mono ?_
                rintro e w2 ⟨rfl, hb2⟩
                refine ⟨_, rfl, hK _ _ ⟨by simp [hl], hH.step hb2, by simpa [getF, hl] using (fun h => cells2_grow hH.lt hb2 (hS h)), by simpa [getF, hl] using (fun h => cells2_grow hH.lt hb2 (hD h)), by simpa [getF, hl] using h80, by rw [ha]; simp [cput_put, getF, hl, hu', cput_at]⟩⟩
            · have ho' : some _ = some o := ho
              cases ho'
              have E9 : a.eval (.tmp 9) = .pointer (some ⟨sb, 0, none⟩) := by rw [ha]; simp [eval_cput_ne, e9]
              have d57 : ls.getD 5 false = true := hw ⟨5, .data⟩ (by simp) rfl
              have z57 : 57 < a0.tmps.size := by omega
              have E57 : a.eval (.tmp 57) = .agg #[.int .u64 x2, .int .u64 y2] := by rw [ha]; simp [eval_cput_ne, d57, eval_cput_at, size_cput, z57]
              refine wpOp_step ho (fun K hK => ?_)
              rw [if_pos (by rfl)]
              have hS' := hS hu'
              refine wp_store_mid _ _ _ rfl (sb) 0 #[.int .u64 x2, .int .u64 y2] E9 E57 (there2 hS'.1 hS'.2 hH.f0 hH.f1) infoSet2 (by simp [Value.oneCell']) ?_
              have gg : ∀ j, j ≠ 6 → (ls.setIfInBounds 6 true).getD j false = ls.getD j false := fun j hj => (getF (by omega : 6 < ls.size)).trans (if_neg (Ne.symm hj))
              have gs : (ls.setIfInBounds 6 true).getD 6 false = true := (getF (by omega : 6 < ls.size)).trans (if_pos rfl)
              have q0 := hS'.1
              have q1 := hS'.2
              refine hK _ _ ⟨by simp [hl], hH.store hg3 hd3 _ _, (fun h => by rw [gs] at h; cases h), (fun _ => stored2 q0 q1 _ _), (fun _ => by rw [gg 0 (by decide)]; exact hw ⟨0, .phase⟩ (by simp) rfl), ?_⟩
              rw [gg 5 (by decide), gg 4 (by decide), gg 3 (by decide), gg 2 (by decide), gg 1 (by decide), gg 0 (by decide), ha]
              rfl
            · cases ho
          case fin =>
            rintro ls a w' ⟨hl, hH, -, hD, -, ha⟩ hr
            have d : ∀ i, i < 7 → ls.getD i false = true := all_doneB hr (by kernel_rfl) (by rw [hl]; rfl)
            obtain ⟨n0, n1⟩ := hD (d 6 (by decide))
            rw [d 5 (by decide), d 4 (by decide), d 3 (by decide), d 2 (by decide), d 1 (by decide), d 0 (by decide)] at ha
            subst ha
            simp only [cput, if_true, Act.put, List.setIfInBounds_toArray, List.set_cons_zero, List.set_cons_succ]
            clear d hD hr hl
            go_wp2
            go_roundw
            case rel =>
              refine ⟨j + 1, hlt, by go_num, ?_, hH.below, hH.t0, hH.t1, hH.c0, hH.c1, hH.c2, hH.c3, ?_⟩
              · intro g' hg' _
                cases hg'
                exact ⟨hg2, hH.ways⟩
              · rw [HX.out, HY.out]
                exact ⟨hH.lt, n0, n1, hH.f0, hH.f1⟩
            case measure => simp [intOf]; omega
        · obtain rfl : j = l.length := by omega
          rw [BL.out, HXB.out, HYB.out] at hV
          have l0 := hV.lo
          have l1 := hV.hi
          have y7 : p7 < wr.heap.size := by omega
          have y8 : p8 < wr.heap.size := by omega
          clear hV HV HS hW HI HSB BL
          go_wp2_with fail
          go_region_held3 (fun w' => Below wr.heap.size wr w' ∧ p7 < w'.heap.size ∧ p8 < w'.heap.size ∧ w'.cell? ⟨p7, 0, none⟩ = some (.int .u64 xa) ∧ w'.cell? ⟨p7, 1, none⟩ = some (.int .u64 ya) ∧ w'.cell? ⟨p8, 0, none⟩ = some (.int .u64 xb) ∧ w'.cell? ⟨p8, 1, none⟩ = some (.int .u64 yb)) (first | assumption | exact ⟨(bref wr).drew, y7, y8, m0, m1, m2, m3⟩ | exact heldF_step (by assumption) hb)
            (first
              | (go_at_call_of 23 (Value.int .u64 xa); refine (M1.out _).mono ?_; rintro e wn ⟨rfl, hb⟩)
              | (go_at_call_of 23 (Value.int .u64 xs); refine (M2.out _).mono ?_; rintro e wn ⟨rfl, hb⟩)
              | (go_at_call 18; refine (E.out _).mono ?_; rintro e wn ⟨rfl, hb⟩)
              | (go_at_call 19; refine (OS.out _).mono ?_; rintro e wn ⟨rfl, hb⟩)
              | (go_at_call 8; refine (OR.out _).mono ?_; rintro e wn ⟨rfl, hb⟩)
              | (go_at_call 17; refine (CR.out _).mono ?_; rintro e wn ⟨rfl, hb⟩)
              | (go_at_call 10; refine (A.out _).mono ?_; rintro e wn ⟨rfl, hb⟩))
          go_wp2
          go_ret
          exact ⟨rfl, bthen HBr.out (heldF_fst (by assumption))⟩

theorem walk (p q a b : Int) (g0 : (Lit.int .i8 p).wf = true) (g1 : (Lit.int .i64 q).wf = true) (g2 : (Lit.int .u64 a).wf = true) (g3 : (Lit.int .u64 b).wf = true) (w : World) :
    Calls Try.prog 5 #[.int .i8 p, .int .i64 q, .agg #[.int .u64 a, .int .u64 b]] w fun e w' => e = .returned (.bool true) ∧ Below w.heap.size w w' := by
  obtain ⟨p0, p1⟩ := bounds_i8 g0
  by_cases hq : 0 ≤ q ∧ q ≤ 80
  · exact walk_near p q a b p0 p1 (bounds_u64 g2).1 (bounds_u64 g2).2 (bounds_u64 g3).1 (bounds_u64 g3).2 hq w
  · exact walk_far p q a b p0 p1 (bounds_u64 g2).1 (bounds_u64 g2).2 (bounds_u64 g3).1 (bounds_u64 g3).2 hq w
end Go.Proofs.Ytopggngfchjfhab.rayFree
