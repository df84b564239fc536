/-
  The ray package's Of.
-/
import Derived.Test.YtilhicohfnaclaaDoorRay1
import Derived.Test.YtilhicohfnaclaaDoorRegFrame
namespace Go.Proofs.YtilhicohfnaclaaDoor
set_option maxRecDepth 100000
open Go.RowKit
set_option linter.unusedVariables false
set_option linter.unusedSimpArgs false

theorem I64_wrap (x : Int) : I64 (wrap64 x) := by
  unfold I64 wrap64
  omega
theorem rdirs_small (k : Int) : ∀ d ∈ rdirsL k, I64 d.1 ∧ I64 d.2 := by
  unfold rdirsL I64
  repeat' split
  all_goals decide
theorem rdirs_I64 (k s : Int) : ∀ d ∈ rdirsL k, I64 (turnF s d).1 ∧ I64 (turnF s d).2 := by
  intro d hd
  unfold turnF
  split
  · exact ⟨I64_wrap _, I64_wrap _⟩
  · exact rdirs_small k d hd

/-- What a round of the loop over ways holds while its statement makes memory: what is taken (block b), the result (block b + 1), the set (block s) can be written, the ways lie where they lay (block g), and the way at hand lies in block d. -/
structure HeldR (w W : World) (s g d : Nat) (l : List (Int × Int)) (xn yn : Int) (u v : Value) : Prop where
  below : Below w.heap.size w W
  t0 : W.cell? ⟨w.heap.size, 0, none⟩ = some (.int .u64 xn)
  t1 : W.cell? ⟨w.heap.size, 1, none⟩ = some (.int .u64 yn)
  res : Var W (w.heap.size + 1) 0 0
  sr : w.heap.size + 1 < s
  lt : s < W.heap.size
  f0 : W.frozen? ⟨s, 0, none⟩ = false
  f1 : W.frozen? ⟨s, 1, none⟩ = false
  ways : DirsAt W g l
  dlt : d < W.heap.size
  c0 : W.cell? ⟨d, 0, none⟩ = some u
  c1 : W.cell? ⟨d, 1, none⟩ = some v
theorem HeldR.step {w W W' : World} {s g d : Nat} {l : List (Int × Int)} {xn yn : Int} {u v : Value} (h : HeldR w W s g d l xn yn u v) (hb : Below W.heap.size W W') : HeldR w W' s g d l xn yn u v := by
  obtain ⟨h0, a0, a1, hr, hsr, h2, h3, h4, h5, h6, h7, h8⟩ := h
  have hs := hb.size
  exact ⟨bthen h0 hb, (hb.cell (p := ⟨w.heap.size, 0, none⟩) (by omega : w.heap.size < _)).trans a0, (hb.cell (p := ⟨w.heap.size, 1, none⟩) (by omega : w.heap.size < _)).trans a1, hr.grow hb, hsr, by omega,
    (hb.frozen (p := ⟨s, 0, none⟩) h2).trans h3, (hb.frozen (p := ⟨s, 1, none⟩) h2).trans h4, h5.grow hb, by omega, (hb.cell (p := ⟨d, 0, none⟩) h6).trans h7, (hb.cell (p := ⟨d, 1, none⟩) h6).trans h8⟩
theorem HeldR.store {w W : World} {s g d : Nat} {l : List (Int × Int)} {xn yn : Int} {u v : Value} (h : HeldR w W s g d l xn yn u v) (hg : g ≠ s) (hd : d ≠ s) (x y : Value) : HeldR w ((W.setCell ⟨s, 0, none⟩ x).setCell ⟨s, 1, none⟩ y) s g d l xn yn u v := by
  obtain ⟨h0, a0, a1, hr, hsr, h2, h3, h4, h5, h6, h7, h8⟩ := h
  have k0 : w.heap.size ≠ s := by omega
  refine ⟨(h0.setCell (by simp; omega) _).setCell (by simp; omega) _, by go_simp, by go_simp, hr.other (by omega) _ _, hsr, by simpa using h2, by simpa using h3, by simpa using h4, (h5.set _ (Ne.symm hg)).set _ (Ne.symm hg), by simpa using h6, by go_simp, by go_simp⟩

set_option maxHeartbeats 1000000 in
theorem rayOf_any (p q : Int) (n : Nat) (h0 : -128 ≤ p) (h1 : p ≤ 127) (hn : Sq n) (w : World) :
    Calls Tryd.prog 62 #[.int .i8 p, .int .i64 q, .agg #[.int .u64 (loW n), .int .u64 (hiW n)]] w fun e w' => e = .returned (.agg #[.int .u64 (loW (rayN p q n)), .int .u64 (hiW (rayN p q n))]) ∧ Below w.heap.size w w' := by
  have K := Lib.hid (fun W => kind_any p W h0 h1)
  have S := Lib.hid (fun W => side_any p W h0 h1)
  have T0 := Lib.hid (fun W => stepOf_any p q h0 h1 W)
  have D := Lib.hid (fun W => rdirs_any (kindF p) W)
  have HI := Lib.hid (rdirs_I64 (kindF p) (sideF p))
  have HN := Lib.hid hn
  have HSB := Lib.hid (stepN_sq p q)
  have hl := rdirs_len (kindF p)
  unfold rayN
  clear h0 h1 hn
  generalize stepN p q = b at T0 HSB ⊢
  generalize sideF p = s at S HI ⊢
  generalize rdirsL (kindF p) = l at D hl HI ⊢
  generalize kindF p = k at K D
  go_enter Tryd.func62, Tryd.ntmps62
  go_wp2_with (first | (go_at_call 97; refine (T0.out _).mono ?_; rintro e w1 ⟨rfl, hb1⟩) | (go_at_call 88; refine (K.out _).mono ?_; rintro e w1 ⟨rfl, rfl⟩) | (go_at_call 98; refine (D.out _).mono ?_; rintro e w2 ⟨v, rfl, hv, hb2⟩; obtain ⟨ao, cap, rfl, hp⟩ := hv.parts))
  have hs1 : w.heap.size + 1 < w1.heap.size := by have := hb1.size; simp at this; omega
  have hbb : Below ((w.alloc (Obj.cells #[Value.int IntKind.u64 (loW n), Value.int IntKind.u64 (hiW n)] 32)).alloc (Obj.cells #[Value.int IntKind.u64 0, Value.int IntKind.u64 0] 32)).heap.size ((w.alloc (Obj.cells #[Value.int IntKind.u64 (loW n), Value.int IntKind.u64 (hiW n)] 32)).alloc (Obj.cells #[Value.int IntKind.u64 0, Value.int IntKind.u64 0] 32)) w2 := bthen (ball hb1 _) hb2
  have m0 : w2.cell? ⟨w.heap.size, 0, none⟩ = some (.int .u64 (loW n)) := (hbb.cell (p := ⟨w.heap.size, 0, none⟩) (by simp <;> omega)).trans (by go_simp)
  have m1 : w2.cell? ⟨w.heap.size, 1, none⟩ = some (.int .u64 (hiW n)) := (hbb.cell (p := ⟨w.heap.size, 1, none⟩) (by simp <;> omega)).trans (by go_simp)
  have V0 : Var w2 (w.heap.size + 1) 0 0 := Var.grow ⟨by simp, by go_simp, by go_simp, by go_simp, by go_simp⟩ hbb
  have V1 : Var w2 w1.heap.size (loW (rayPart l s q n b 0)) (hiW (rayPart l s q n b 0)) := by
    rw [rayPart_zero]
    exact Var.grow ⟨by simp, by go_simp, by go_simp, by go_simp, by go_simp⟩ hb2
  have hB0 : Below w.heap.size w w2 := bthen (ball (ball (bref w) _) _) hbb
  have HG : Hid (∀ g, ao = some ⟨g, 0, none⟩ → l.length ≠ 0 → w1.heap.size + 1 ≤ g ∧ DirsAt w2 g l) := by
    intro g hg hl
    obtain ⟨g', e, h1, h2⟩ := hp hl
    rw [hg] at e
    cases e
    exact ⟨by simpa using h1, h2⟩
  have HS : Hid (l.length ≠ 0 → ∃ g, ao = some ⟨g, 0, none⟩) := fun hl => (hp hl).imp fun g h => h.1
  clear hv hp hb1 hb2 hbb K D T0
  generalize w1.heap.size = sb at hs1 V1 HG ⊢
  generalize hxn : loW n = xn at m0 ⊢
  generalize hyn : hiW n = yn at m1 ⊢
  have HXN := Lib.hid hxn
  have HYN := Lib.hid hyn
  clear hxn hyn
  go_loopw [17] (fun i wr => ∃ j : Nat, j ≤ l.length ∧ i = .int .i64 j ∧ (∀ g, ao = some ⟨g, 0, none⟩ → l.length ≠ 0 → sb + 1 ≤ g ∧ DirsAt wr g l) ∧ Below w.heap.size w wr ∧ wr.cell? ⟨w.heap.size, 0, none⟩ = some (.int .u64 xn) ∧ wr.cell? ⟨w.heap.size, 1, none⟩ = some (.int .u64 yn) ∧ Var wr (w.heap.size + 1) 0 0 ∧ Var wr sb (loW (rayPart l s q n b j)) (hiW (rayPart l s q n b j))) (fun i _ => l.length - (intOf i).toNat)
  case atStart => exact ⟨0, Nat.zero_le _, rfl, HG.out, hB0, m0, m1, V0, V1⟩
  case round =>
    obtain ⟨j, hj, rfl, hW, hB, t0, t1, hR, hV⟩ := hrel
    clear m0 m1 V0 V1 hB0 HG
    have HB := Lib.hid hB
    have HR := Lib.hid hR
    have HV := Lib.hid hV
    have hzs := hV.lt
    have wj : wrap64 ((j : Int) + 1) = ((j + 1 : Nat) : Int) := by unfold wrap64; omega
    by_cases hlt : j < l.length
    · obtain ⟨g, rfl⟩ := HS.out (by omega)
      obtain ⟨hg2, hdr⟩ := hW g rfl (by omega)
      have HD := Lib.hid hdr
      have hg1 := hdr.lt
      have c0 := hdr.at0 _ _ (cellsD_get l j hlt).1
      have c1 := hdr.at0 _ _ (cellsD_get l j hlt).2
      have hII := HI.out l[j] (List.getElem_mem hlt)
      have C := Lib.hid (fun W => or_any (rayPart l s q n b j) (wayN q (turnF s l[j]) n) (rayPart_sq l s q n b HSB.out j hj) (wayN_sq _ _ _) W)
      rw [← rayPart_step l s q n b j hlt] at C
      have T := Lib.hid (fun W => turn_any l[j].1 l[j].2 s W)
      rw [show turnF s (l[j].1, l[j].2) = turnF s l[j] from rfl] at T
      have F := Lib.hid (fun W => way_any q (turnF s l[j]).1 (turnF s l[j]).2 n hII.1 hII.2 HN.out W)
      rw [show wayN q ((turnF s l[j]).1, (turnF s l[j]).2) n = wayN q (turnF s l[j]) n from rfl, HXN.out, HYN.out] at F
      have S' := Lib.hid (fun W => stays (S.out W))
      have l0 := hV.lo
      have l1 := hV.hi
      have l2 := hV.f0
      have l3 := hV.f1
      clear hB hV hR hdr hW HS S hII HI HSB
      generalize loW (wayN q (turnF s l[j]) n) = xw at C F
      generalize hiW (wayN q (turnF s l[j]) n) = yw at C F
      generalize (turnF s l[j]).1 = tf at T F
      generalize (turnF s l[j]).2 = tr at T F
      generalize l[j].1 = df at T c0
      generalize l[j].2 = dr at T c1
      generalize loW (rayPart l s q n b j) = x at C l0 HV
      generalize hiW (rayPart l s q n b j) = y at C l1 HV
      generalize hx : loW (rayPart l s q n b (j + 1)) = x2 at C
      generalize hy : hiW (rayPart l s q n b (j + 1)) = y2 at C
      have HX := Lib.hid hx
      have HY := Lib.hid hy
      clear hx hy
      go_wp2_with fail
      have hb0' : w.heap.size < wr.heap.size := by omega
      have hb1' : w.heap.size + 1 < wr.heap.size := by omega
      have hg3 : g ≠ sb := by omega
      have hd3 : wr.heap.size ≠ sb := by omega
      have H0 : Hid (HeldR w (wr.alloc (Obj.cells #[Value.int IntKind.i64 df, Value.int IntKind.i64 dr] 109)).drew sb g wr.heap.size l xn yn (.int .i64 df) (.int .i64 dr)) :=
        ⟨(ball HB.out _).drew, by go_simp, by go_simp, HR.out.grow (ball (bref wr) _).drew, hs1, by simp; omega, by go_simp, by go_simp, HD.out.grow (ball (bref wr) _).drew, by simp, by go_simp, by go_simp⟩
      refine wp_region_any (by kernel_rfl) ?_
      change wpAny _ _ _ _ _ _ _ (World.drew _)
      refine wpAny_inv3 (fun a0 => a0.eval (.tmp 0) = .int .i8 p ∧ a0.eval (.tmp 1) = .int .i64 q ∧ a0.eval (.tmp 5) = .pointer (some ⟨w.heap.size, 0, none⟩) ∧ a0.eval (.tmp 7) = .pointer (some ⟨sb, 0, none⟩) ∧ a0.eval (.tmp 9) = .pointer (some ⟨wr.heap.size, 0, none⟩) ∧ 30 < a0.tmps.size) ⟨rfl, rfl, rfl, rfl, rfl, of_decide_eq_true rfl⟩
        (fun a0 ls a w' => ls.size = 10 ∧ HeldR w w' sb g wr.heap.size l xn yn (.int .i64 df) (.int .i64 dr) ∧ (ls.getD 9 false = false → w'.cell? ⟨sb, 0, none⟩ = some (.int .u64 x) ∧ w'.cell? ⟨sb, 1, none⟩ = some (.int .u64 y)) ∧ (ls.getD 9 false = true → w'.cell? ⟨sb, 0, none⟩ = some (.int .u64 x2) ∧ w'.cell? ⟨sb, 1, none⟩ = some (.int .u64 y2)) ∧ (ls.getD 9 false = true → ls.getD 0 false = true) ∧ a = cput (ls.getD 8 false) 29 (.agg #[.int .u64 x2, .int .u64 y2]) (cput (ls.getD 7 false) 28 (.agg #[.int .u64 xw, .int .u64 yw]) (cput (ls.getD 6 false) 27 (.agg #[.int .u64 xn, .int .u64 yn]) (cput (ls.getD 5 false) 26 (.agg #[.int .i64 tf, .int .i64 tr]) (cput (ls.getD 4 false) 25 (.int .i64 s) (cput (ls.getD 3 false) 24 (.int .i8 p) (cput (ls.getD 2 false) 23 (.agg #[.int .i64 df, .int .i64 dr]) (cput (ls.getD 1 false) 22 (.int .i64 q) (cput (ls.getD 0 false) 21 (.agg #[.int .u64 x, .int .u64 y]) (a0)))))))))) ?step ?fin ?start (by decide)
      case start => exact ⟨rfl, H0.out, fun _ => ⟨by go_simp, by go_simp⟩, (fun h => nomatch h), (fun h => nomatch h), rfl⟩
      case step =>
        rintro a0 ⟨e0, e1, e5, e7, e9, esz⟩ ls a w' ⟨hl, hH, hS, hD, h80, ha⟩ i o ho hu hw
        have hu' := undone hu
        rcases i with _ | _ | _ | _ | _ | _ | _ | _ | _ | _ | i
        · have ho' : some _ = some o := ho
          cases ho'
          have E7 : a.eval (.tmp 7) = .pointer (some ⟨sb, 0, none⟩) := by rw [ha]; simp [eval_cput_ne, e7]
          have l8 : ls.getD 9 false = false := by
            cases h : ls.getD 9 false
            · rfl
            · rw [h80 h] at hu'; cases hu'
          have hS' := hS l8
          refine wpOp_step ho (fun K hK => ?_)
          rw [if_pos (by rfl)]
          refine wp_load_mid _ _ rfl (sb) 0 E7 [.int .u64 x, .int .u64 y] _ (range2 hS'.1 hS'.2) Tryd.underlying32 rfl infoSet2 ?_
          exact hK _ _ ⟨by simp [hl], hH, by simpa [getF, hl] using hS, by simpa [getF, hl] using hD, by simp [getF, hl], by rw [ha]; simp [cput_put, getF, hl, hu', cput_at]⟩
        · have ho' : some _ = some o := ho
          cases ho'
          have E1 : a.eval (.tmp 1) = .int .i64 q := by rw [ha]; simp [eval_cput_ne, e1]
          refine wpOp_step ho (fun K hK => ?_)
          rw [if_pos (by rfl)]
          refine wp_valueK (w' := w') (.int .i64 q) ?_ (hK _ _ ⟨by simp [hl], hH, by simpa [getF, hl] using hS, by simpa [getF, hl] using hD, by simpa [getF, hl] using h80, by rw [ha]; simp [cput_put, getF, hl, hu', cput_at]⟩)
          clear ha
          exact congrArg (fun v => Result.ok (Next.value v) w') E1
        · have ho' : some _ = some o := ho
          cases ho'
          have E9 : a.eval (.tmp 9) = .pointer (some ⟨wr.heap.size, 0, none⟩) := by rw [ha]; simp [eval_cput_ne, e9]
          refine wpOp_step ho (fun K hK => ?_)
          rw [if_pos (by rfl)]
          refine wp_load_mid _ _ rfl (wr.heap.size) 0 E9 [.int .i64 df, .int .i64 dr] _ (range2 hH.c0 hH.c1) Tryd.underlying109 rfl infoDir2 ?_
          exact hK _ _ ⟨by simp [hl], hH, by simpa [getF, hl] using hS, by simpa [getF, hl] using hD, by simpa [getF, hl] using h80, by rw [ha]; simp [cput_put, getF, hl, hu', cput_at]⟩
        · have ho' : some _ = some o := ho
          cases ho'
          have E0 : a.eval (.tmp 0) = .int .i8 p := by rw [ha]; simp [eval_cput_ne, e0]
          refine wpOp_step ho (fun K hK => ?_)
          rw [if_pos (by rfl)]
          refine wp_valueK (w' := w') (.int .i8 p) ?_ (hK _ _ ⟨by simp [hl], hH, by simpa [getF, hl] using hS, by simpa [getF, hl] using hD, by simpa [getF, hl] using h80, by rw [ha]; simp [cput_put, getF, hl, hu', cput_at]⟩)
          clear ha
          exact congrArg (fun v => Result.ok (Next.value v) w') E0
        · have ho' : some _ = some o := ho
          cases ho'
          have d24 : ls.getD 3 false = true := hw ⟨3, .data⟩ (by simp) rfl
          have z24 : 24 < a0.tmps.size := by omega
          have E24 : a.eval (.tmp 24) = .int .i8 p := by rw [ha]; simp [eval_cput_ne, d24, eval_cput_at, size_cput, z24]
          refine wpOp_step ho (fun K hK => ?_)
          rw [if_pos (by rfl)]
          refine wp_callK 82 #[a.eval (.tmp 24)] ?_ ?_
          · clear ha E24
            go_simp
          · rw [E24]
            refine (S'.out _).mono ?_
            rintro e w2 ⟨rfl, hb2⟩
            refine ⟨_, rfl, hK _ _ ⟨by simp [hl], hH.step hb2, by simpa [getF, hl] using (fun h => cells2_grow hH.lt hb2 (hS h)), by simpa [getF, hl] using (fun h => cells2_grow hH.lt hb2 (hD h)), by simpa [getF, hl] using h80, by rw [ha]; simp [cput_put, getF, hl, hu', cput_at]⟩⟩
        · have ho' : some _ = some o := ho
          cases ho'
          have d23 : ls.getD 2 false = true := hw ⟨2, .data⟩ (by simp) rfl
          have z23 : 23 < a0.tmps.size := by omega
          have E23 : a.eval (.tmp 23) = .agg #[.int .i64 df, .int .i64 dr] := by rw [ha]; simp [eval_cput_ne, d23, eval_cput_at, size_cput, z23]
          have d25 : ls.getD 4 false = true := hw ⟨4, .data⟩ (by simp) rfl
          have z25 : 25 < a0.tmps.size := by omega
          have E25 : a.eval (.tmp 25) = .int .i64 s := by rw [ha]; simp [eval_cput_ne, d25, eval_cput_at, size_cput, z25]
          refine wpOp_step ho (fun K hK => ?_)
          rw [if_pos (by rfl)]
          refine wp_callK 100 #[a.eval (.tmp 23), a.eval (.tmp 25)] ?_ ?_
          · clear ha E23 E25
            go_simp
          · rw [E23, E25]
            refine (T.out _).mono ?_
            rintro e w2 ⟨rfl, hb2⟩
            refine ⟨_, rfl, hK _ _ ⟨by simp [hl], hH.step hb2, by simpa [getF, hl] using (fun h => cells2_grow hH.lt hb2 (hS h)), by simpa [getF, hl] using (fun h => cells2_grow hH.lt hb2 (hD h)), by simpa [getF, hl] using h80, by rw [ha]; simp [cput_put, getF, hl, hu', cput_at]⟩⟩
        · have ho' : some _ = some o := ho
          cases ho'
          have E5 : a.eval (.tmp 5) = .pointer (some ⟨w.heap.size, 0, none⟩) := by rw [ha]; simp [eval_cput_ne, e5]
          refine wpOp_step ho (fun K hK => ?_)
          rw [if_pos (by rfl)]
          refine wp_load_mid _ _ rfl (w.heap.size) 0 E5 [.int .u64 xn, .int .u64 yn] _ (range2 hH.t0 hH.t1) Tryd.underlying32 rfl infoSet2 ?_
          exact hK _ _ ⟨by simp [hl], hH, by simpa [getF, hl] using hS, by simpa [getF, hl] using hD, by simpa [getF, hl] using h80, by rw [ha]; simp [cput_put, getF, hl, hu', cput_at]⟩
        · have ho' : some _ = some o := ho
          cases ho'
          have d22 : ls.getD 1 false = true := hw ⟨1, .data⟩ (by simp) rfl
          have z22 : 22 < a0.tmps.size := by omega
          have E22 : a.eval (.tmp 22) = .int .i64 q := by rw [ha]; simp [eval_cput_ne, d22, eval_cput_at, size_cput, z22]
          have d26 : ls.getD 5 false = true := hw ⟨5, .data⟩ (by simp) rfl
          have z26 : 26 < a0.tmps.size := by omega
          have E26 : a.eval (.tmp 26) = .agg #[.int .i64 tf, .int .i64 tr] := by rw [ha]; simp [eval_cput_ne, d26, eval_cput_at, size_cput, z26]
          have d27 : ls.getD 6 false = true := hw ⟨6, .data⟩ (by simp) rfl
          have z27 : 27 < a0.tmps.size := by omega
          have E27 : a.eval (.tmp 27) = .agg #[.int .u64 xn, .int .u64 yn] := by rw [ha]; simp [eval_cput_ne, d27, eval_cput_at, size_cput, z27]
          refine wpOp_step ho (fun K hK => ?_)
          rw [if_pos (by rfl)]
          refine wp_callK 99 #[a.eval (.tmp 22), a.eval (.tmp 26), a.eval (.tmp 27)] ?_ ?_
          · clear ha E22 E26 E27
            go_simp
          · rw [E22, E26, E27]
            refine (F.out _).mono ?_
            rintro e w2 ⟨rfl, hb2⟩
            refine ⟨_, rfl, hK _ _ ⟨by simp [hl], hH.step hb2, by simpa [getF, hl] using (fun h => cells2_grow hH.lt hb2 (hS h)), by simpa [getF, hl] using (fun h => cells2_grow hH.lt hb2 (hD h)), by simpa [getF, hl] using h80, by rw [ha]; simp [cput_put, getF, hl, hu', cput_at]⟩⟩
        · have ho' : some _ = some o := ho
          cases ho'
          have d21 : ls.getD 0 false = true := hw ⟨0, .data⟩ (by simp) rfl
          have z21 : 21 < a0.tmps.size := by omega
          have E21 : a.eval (.tmp 21) = .agg #[.int .u64 x, .int .u64 y] := by rw [ha]; simp [eval_cput_ne, d21, eval_cput_at, size_cput, z21]
          have d28 : ls.getD 7 false = true := hw ⟨7, .data⟩ (by simp) rfl
          have z28 : 28 < a0.tmps.size := by omega
          have E28 : a.eval (.tmp 28) = .agg #[.int .u64 xw, .int .u64 yw] := by rw [ha]; simp [eval_cput_ne, d28, eval_cput_at, size_cput, z28]
          refine wpOp_step ho (fun K hK => ?_)
          rw [if_pos (by rfl)]
          refine wp_callK 61 #[a.eval (.tmp 21), a.eval (.tmp 28)] ?_ ?_
          · clear ha E21 E28
            go_simp
          · rw [E21, E28]
            refine (C.out _).mono ?_
            rintro e w2 ⟨rfl, hb2⟩
            refine ⟨_, rfl, hK _ _ ⟨by simp [hl], hH.step hb2, by simpa [getF, hl] using (fun h => cells2_grow hH.lt hb2 (hS h)), by simpa [getF, hl] using (fun h => cells2_grow hH.lt hb2 (hD h)), by simpa [getF, hl] using h80, by rw [ha]; simp [cput_put, getF, hl, hu', cput_at]⟩⟩
        · have ho' : some _ = some o := ho
          cases ho'
          have E7 : a.eval (.tmp 7) = .pointer (some ⟨sb, 0, none⟩) := by rw [ha]; simp [eval_cput_ne, e7]
          have d29 : ls.getD 8 false = true := hw ⟨8, .data⟩ (by simp) rfl
          have z29 : 29 < a0.tmps.size := by omega
          have E29 : a.eval (.tmp 29) = .agg #[.int .u64 x2, .int .u64 y2] := by rw [ha]; simp [eval_cput_ne, d29, eval_cput_at, size_cput, z29]
          refine wpOp_step ho (fun K hK => ?_)
          rw [if_pos (by rfl)]
          have hS' := hS hu'
          refine wp_store_mid _ _ _ rfl (sb) 0 #[.int .u64 x2, .int .u64 y2] E7 E29 (there2 hS'.1 hS'.2 hH.f0 hH.f1) infoSet2 (by simp [Value.oneCell']) ?_
          have gg : ∀ j, j ≠ 9 → (ls.setIfInBounds 9 true).getD j false = ls.getD j false := fun j hj => (getF (by omega : 9 < ls.size)).trans (if_neg (Ne.symm hj))
          have gs : (ls.setIfInBounds 9 true).getD 9 false = true := (getF (by omega : 9 < ls.size)).trans (if_pos rfl)
          have q0 := hS'.1
          have q1 := hS'.2
          refine hK _ _ ⟨by simp [hl], hH.store hg3 hd3 _ _, (fun h => by rw [gs] at h; cases h), (fun _ => stored2 q0 q1 _ _), (fun _ => by rw [gg 0 (by decide)]; exact hw ⟨0, .phase⟩ (by simp) rfl), ?_⟩
          rw [gg 8 (by decide), gg 7 (by decide), gg 6 (by decide), gg 5 (by decide), gg 4 (by decide), gg 3 (by decide), gg 2 (by decide), gg 1 (by decide), gg 0 (by decide), ha]
          rfl
        · cases ho
      case fin =>
        rintro ls a w' ⟨hl, hH, -, hD, -, ha⟩ hr
        have d : ∀ i, i < 10 → ls.getD i false = true := all_doneB hr (by kernel_rfl) (by rw [hl]; rfl)
        obtain ⟨n0, n1⟩ := hD (d 9 (by decide))
        rw [d 8 (by decide), d 7 (by decide), d 6 (by decide), d 5 (by decide), d 4 (by decide), d 3 (by decide), d 2 (by decide), d 1 (by decide), d 0 (by decide)] at ha
        subst ha
        simp only [cput, if_true, Act.put, List.setIfInBounds_toArray, List.set_cons_zero, List.set_cons_succ]
        clear d hD hr hl
        go_wp2
        go_roundw
        case rel =>
          refine ⟨j + 1, by omega, by go_num, ?_, hH.below, hH.t0, hH.t1, hH.res, ?_⟩
          · intro g' hg' _
            cases hg'
            exact ⟨hg2, hH.ways⟩
          · rw [HX.out, HY.out]
            exact ⟨hH.lt, n0, n1, hH.f0, hH.f1⟩
        case measure => simp [intOf]; omega
    · obtain rfl : j = l.length := by omega
      have l0 := hV.lo
      have l1 := hV.hi
      have r0 := hR.lo
      have r1 := hR.hi
      have r2 := hR.f0
      have r3 := hR.f1
      clear hB hR hV HS hW S HI
      generalize hx : loW (rayPart l s q n b l.length) = x at l0 HV
      generalize hy : hiW (rayPart l s q n b l.length) = y at l1 HV
      have HX := Lib.hid hx
      have HY := Lib.hid hy
      clear hx hy
      go_wp2
      rw [HX.out, HY.out]
      exact bodyPost_ret (v := .agg #[.int .u64 x, .int .u64 y]) (by simp [results, Tryd.results62, go_sem, r0, r1]) rfl
        ⟨rfl, (HB.out.setCell (by simp) _).setCell (by simp) _⟩
end Go.Proofs.YtilhicohfnaclaaDoor
