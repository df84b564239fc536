/-
  The step package's Of and Zone.
-/
import Derived.Test.YtnmekghjkajhcaaDoorStep2
import Derived.Test.YtnmekghjkajhcaaDoorFrame
import Derived.LoopTactic
import Derived.Deep.MidRow
namespace Go.Proofs.YtnmekghjkajhcaaDoor
open Go.RowKit
set_option linter.unusedVariables false
set_option linter.unusedSimpArgs false

/-- The first k of a piece's steps, as a set. -/
def partN (l : List (Int × Int)) (s q : Int) (k : Nat) : Nat := ofN ((l.take k).map fun d => fromF (turnF s d) q)
theorem dirs_len (k : Int) : (dirsL k).length ≤ 8 := by
  unfold dirsL
  repeat' split
  all_goals decide
theorem partN_sq (l : List (Int × Int)) (s q : Int) (k : Nat) : Sq (partN l s q k) := ofN_sq _
theorem partN_step (l : List (Int × Int)) (s q : Int) (k : Nat) (h : k < l.length) : partN l s q (k + 1) = partN l s q k ||| oneN (fromF (turnF s l[k]) q) := by
  unfold partN
  rw [List.take_succ_eq_append_getElem h, List.map_append, ← ofN_snoc]
  rfl
theorem partN_all (p q : Int) : partN (dirsL (kindF p)) (sideF p) q (dirsL (kindF p)).length = stepN p q := by
  unfold partN stepN
  rw [List.take_length]

/-- What a round of a loop over ways holds while its statement makes memory: the result's variable (block b), the set's (block b + 1) can be written, the ways lie where they lay (block g), and the way at hand lies in block d. -/
structure Held (w W : World) (b g d : Nat) (l : List (Int × Int)) (u v : Value) : Prop where
  below : Below b w W
  res : Var W b 0 0
  lt : b + 1 < W.heap.size
  f0 : W.frozen? ⟨b + 1, 0, none⟩ = false
  f1 : W.frozen? ⟨b + 1, 1, none⟩ = false
  ways : DirsAt W g l
  dlt : d < W.heap.size
  c0 : W.cell? ⟨d, 0, none⟩ = some u
  c1 : W.cell? ⟨d, 1, none⟩ = some v
theorem DirsAt.set {w : World} {g k o : Nat} {l : List (Int × Int)} (h : DirsAt w g l) (x : Value) (hk : k ≠ g) : DirsAt (w.setCell ⟨k, o, none⟩ x) g l :=
  ⟨by simpa using h.lt, fun j u hj => by
    have hc := h.at0 j u hj
    go_simp⟩
theorem Held.step {w W W' : World} {b g d : Nat} {l : List (Int × Int)} {u v : Value} (h : Held w W b g d l u v) (hb : Below W.heap.size W W') : Held w W' b g d l u v := by
  obtain ⟨h0, h1, h2, h3, h4, h5, h6, h7, h8⟩ := h
  have hs := hb.size
  exact ⟨h0.trans (hb.mono (by omega)), h1.grow hb, by omega, (hb.frozen (p := ⟨b + 1, 0, none⟩) h2).trans h3, (hb.frozen (p := ⟨b + 1, 1, none⟩) h2).trans h4, h5.grow hb, by omega, (hb.cell (p := ⟨d, 0, none⟩) h6).trans h7, (hb.cell (p := ⟨d, 1, none⟩) h6).trans h8⟩
theorem Held.store {w W : World} {b g d : Nat} {l : List (Int × Int)} {u v : Value} (h : Held w W b g d l u v) (hg : g ≠ b + 1) (hd : d ≠ b + 1) (x y : Value) : Held w ((W.setCell ⟨b + 1, 0, none⟩ x).setCell ⟨b + 1, 1, none⟩ y) b g d l u v := by
  obtain ⟨h0, h1, h2, h3, h4, h5, h6, h7, h8⟩ := h
  refine ⟨(h0.setCell (Nat.le_succ _) _).setCell (Nat.le_succ _) _, h1.other (by omega) _ _, by simpa using h2, by simpa using h3, by simpa using h4, (h5.set _ (Ne.symm hg)).set _ (Ne.symm hg), by simpa using h6, ?_, ?_⟩
  · go_simp
  · go_simp

theorem infoSet2 : (Tryd.prog.info? 26).map (·.size) = some 2 := by kernel_rfl
theorem infoDir2 : (Tryd.prog.info? 23).map (·.size) = some 2 := by kernel_rfl
theorem range2 {w : World} {k : Nat} {x y : Value} (h0 : w.cell? ⟨k, 0, none⟩ = some x) (h1 : w.cell? ⟨k, 1, none⟩ = some y) : w.rangeAt k 0 [x, y] := fun j v hj => by
  match j, hj with
  | 0, hj => simp at hj; subst hj; exact h0
  | 1, hj => simp at hj; subst hj; exact h1
  | j + 2, hj => simp at hj
theorem there2 {w : World} {k : Nat} {x y : Value} (h0 : w.cell? ⟨k, 0, none⟩ = some x) (h1 : w.cell? ⟨k, 1, none⟩ = some y) (f0 : w.frozen? ⟨k, 0, none⟩ = false) (f1 : w.frozen? ⟨k, 1, none⟩ = false) : w.there k 0 2 := fun j hj => by
  match j, hj with
  | 0, _ => exact ⟨by simp [h0], by simpa using f0⟩
  | 1, _ => exact ⟨by simp [h1], by simpa using f1⟩
  | j + 2, hj => omega
theorem stored2 {w : World} {k : Nat} {u v : Value} (h0 : w.cell? ⟨k, 0, none⟩ = some u) (h1 : w.cell? ⟨k, 1, none⟩ = some v) (x y : Value) : (w.setCells k 0 #[x, y].toList).cell? ⟨k, 0, none⟩ = some x ∧ (w.setCells k 0 #[x, y].toList).cell? ⟨k, 1, none⟩ = some y := by
  have e : w.setCells k 0 #[x, y].toList = (w.setCell ⟨k, 0, none⟩ x).setCell ⟨k, 1, none⟩ y := rfl
  rw [e]
  exact ⟨by go_simp, by go_simp⟩
theorem cells2_grow {w w' : World} {k : Nat} {x y : Value} (hk : k < w.heap.size) (hb : Below w.heap.size w w') (h : w.cell? ⟨k, 0, none⟩ = some x ∧ w.cell? ⟨k, 1, none⟩ = some y) : w'.cell? ⟨k, 0, none⟩ = some x ∧ w'.cell? ⟨k, 1, none⟩ = some y :=
  ⟨(hb.cell (p := ⟨k, 0, none⟩) hk).trans h.1, (hb.cell (p := ⟨k, 1, none⟩) hk).trans h.2⟩

theorem cellsD_get : ∀ (l : List (Int × Int)) (k : Nat) (h : k < l.length), (cellsD l)[k * 2]? = some (.int .i64 l[k].1) ∧ (cellsD l)[k * 2 + 1]? = some (.int .i64 l[k].2)
  | [], k, h => absurd h (Nat.not_lt_zero _)
  | d :: l, 0, _ => ⟨rfl, rfl⟩
  | d :: l, k + 1, h => by
    have ih := cellsD_get l k (by simpa using h)
    have e1 : (k + 1) * 2 = k * 2 + 1 + 1 := by omega
    rw [e1]
    exact ih

set_option maxHeartbeats 1000000 in
theorem stepOf_any (p q : Int) (h0 : -128 ≤ p) (h1 : p ≤ 127) (w : World) :
    Calls Tryd.prog 19 #[.int .i8 p, .int .i64 q] w fun e w' => e = .returned (.agg #[.int .u64 (loW (stepN p q)), .int .u64 (hiW (stepN p q))]) ∧ Below w.heap.size w w' := by
  have K := Lib.hid (fun W => kind_any p W h0 h1)
  have S := Lib.hid (fun W => side_any p W h0 h1)
  have D := Lib.hid (fun W => dirs_any (kindF p) W)
  have hl := dirs_len (kindF p)
  rw [← partN_all]
  clear h0 h1
  generalize sideF p = s at S ⊢
  generalize dirsL (kindF p) = l at D hl ⊢
  generalize kindF p = k at K D
  go_enter Tryd.func19, Tryd.ntmps19
  go_wp2_with (first | (go_at_call 38; refine (K.out _).mono ?_; rintro e w1 ⟨rfl, rfl⟩) | (go_at_call 37; refine (D.out _).mono ?_; rintro e w2 ⟨v, rfl, hv, hb⟩; obtain ⟨ao, cap, rfl, hp⟩ := hv.parts))
  have hq : w.heap.size + 2 ≤ w2.heap.size := by have := hb.size; simp at this; omega
  have HP := Lib.hid hp
  have V0 : Var w2 w.heap.size 0 0 := Var.grow ⟨by simp; omega, by go_simp, by go_simp, by go_simp, by go_simp⟩ hb
  have V1 : Var w2 (w.heap.size + 1) (loW (partN l s q 0)) (hiW (partN l s q 0)) := by
    rw [show partN l s q 0 = 0 from rfl, lo_zero, hi_zero]
    exact Var.grow ⟨by simp, by go_simp, by go_simp, by go_simp, by go_simp⟩ hb
  have hB0 : Below w.heap.size w w2 := bthen (ball (ball (bref w) _) _) hb
  have HG : Hid (∀ g, ao = some ⟨g, 0, none⟩ → l.length ≠ 0 → w.heap.size + 2 ≤ g ∧ DirsAt w2 g l) := by
    intro g hg hl
    obtain ⟨g', e, h1, h2⟩ := hp hl
    rw [hg] at e
    cases e
    exact ⟨by simpa using h1, h2⟩
  have HS : Hid (l.length ≠ 0 → ∃ g, ao = some ⟨g, 0, none⟩) := fun hl => (hp hl).imp fun g h => h.1
  clear hv hp hb K D HP
  go_loopw [12] (fun i wr => ∃ k : Nat, k ≤ l.length ∧ i = .int .i64 k ∧ (∀ g, ao = some ⟨g, 0, none⟩ → l.length ≠ 0 → w.heap.size + 2 ≤ g ∧ DirsAt wr g l) ∧ Below w.heap.size w wr ∧ Var wr w.heap.size 0 0 ∧ Var wr (w.heap.size + 1) (loW (partN l s q k)) (hiW (partN l s q k))) (fun i _ => l.length - (intOf i).toNat)
  case atStart => exact ⟨0, Nat.zero_le _, rfl, HG.out, hB0, V0, V1⟩
  case round =>
    obtain ⟨k, hk, rfl, hW, hB, hR, hV⟩ := hrel
    have HB := Lib.hid hB
    have HR := Lib.hid hR
    have HV := Lib.hid hV
    have hz := hV.lt
    have wk : wrap64 ((k : Int) + 1) = ((k + 1 : Nat) : Int) := by unfold wrap64; omega
    by_cases hlt : k < l.length
    · obtain ⟨g, rfl⟩ := HS.out (by omega)
      obtain ⟨hg2, hdr⟩ := hW g rfl (by omega)
      have HD := Lib.hid hdr
      have hg1 := hdr.lt
      have c0 := hdr.at0 _ _ (cellsD_get l k hlt).1
      have c1 := hdr.at0 _ _ (cellsD_get l k hlt).2
      have C := Lib.hid (fun W => with_any (partN l s q k) (fromF (turnF s l[k]) q) (partN_sq l s q k) W)
      rw [← partN_step l s q k hlt] at C
      have T := Lib.hid (fun W => turn_any l[k].1 l[k].2 s W)
      have F := Lib.hid (fun W => from_any (turnF s l[k]).1 (turnF s l[k]).2 q W)
      have S' := Lib.hid (fun W => stays (S.out W))
      have l0 := hV.lo
      have l1 := hV.hi
      have l2 := hV.f0
      have l3 := hV.f1
      clear hB hR hV hdr S hW HG HS V0 V1 hB0
      change Hid (∀ W : World, Calls _ _ _ W fun e w' => e = .returned (.agg #[.int .i64 (turnF s l[k]).1, .int .i64 (turnF s l[k]).2]) ∧ _) at T
      change Hid (∀ W : World, Calls _ _ _ W fun e w' => e = .returned (.int .i64 (fromF (turnF s l[k]) q)) ∧ _) at F
      generalize fromF (turnF s l[k]) q = z at C F
      generalize (turnF s l[k]).1 = tf at T F
      generalize (turnF s l[k]).2 = tr at T F
      generalize l[k].1 = df at T c0
      generalize l[k].2 = dr at T c1
      generalize loW (partN l s q k) = x at C l0 HV
      generalize hiW (partN l s q k) = y at C l1 HV
      generalize hx : loW (partN l s q (k + 1)) = x2 at C
      generalize hy : hiW (partN l s q (k + 1)) = y2 at C
      have HX := Lib.hid hx
      have HY := Lib.hid hy
      clear hx hy
      go_wp2_with fail
      have hg3 : g ≠ w.heap.size + 1 := by omega
      have hd3 : wr.heap.size ≠ w.heap.size + 1 := by omega
      have H0 : Hid (Held w (wr.alloc (Obj.cells #[Value.int IntKind.i64 df, Value.int IntKind.i64 dr] 23)).drew w.heap.size g wr.heap.size l (.int .i64 df) (.int .i64 dr)) :=
        ⟨(HB.out.alloc (by omega) _).drew, HR.out.grow (ball (bref wr) _).drew, by simp; omega, by go_simp, by go_simp, HD.out.grow (ball (bref wr) _).drew, by simp, by go_simp, by go_simp⟩
      refine wp_region_any (by kernel_rfl) ?_
      change wpAny _ _ _ _ _ _ _ (World.drew _)
      refine wpAny_inv3 (fun a0 => a0.eval (.tmp 0) = .int .i8 p ∧ a0.eval (.tmp 1) = .int .i64 q ∧ a0.eval (.tmp 5) = .pointer (some ⟨w.heap.size + 1, 0, none⟩) ∧ a0.eval (.tmp 7) = .pointer (some ⟨wr.heap.size, 0, none⟩) ∧ 24 < a0.tmps.size) ⟨rfl, rfl, rfl, rfl, of_decide_eq_true rfl⟩
        (fun a0 ls a w' => ls.size = 9 ∧ Held w w' w.heap.size g wr.heap.size l (.int .i64 df) (.int .i64 dr) ∧ (ls.getD 8 false = false → w'.cell? ⟨w.heap.size + 1, 0, none⟩ = some (.int .u64 x) ∧ w'.cell? ⟨w.heap.size + 1, 1, none⟩ = some (.int .u64 y)) ∧ (ls.getD 8 false = true → w'.cell? ⟨w.heap.size + 1, 0, none⟩ = some (.int .u64 x2) ∧ w'.cell? ⟨w.heap.size + 1, 1, none⟩ = some (.int .u64 y2)) ∧ (ls.getD 8 false = true → ls.getD 0 false = true) ∧ a = cput (ls.getD 7 false) 23 (.agg #[.int .u64 x2, .int .u64 y2]) (cput (ls.getD 6 false) 22 (.int .i64 z) (cput (ls.getD 5 false) 21 (.int .i64 q) (cput (ls.getD 4 false) 20 (.agg #[.int .i64 tf, .int .i64 tr]) (cput (ls.getD 3 false) 19 (.int .i64 s) (cput (ls.getD 2 false) 18 (.int .i8 p) (cput (ls.getD 1 false) 17 (.agg #[.int .i64 df, .int .i64 dr]) (cput (ls.getD 0 false) 16 (.agg #[.int .u64 x, .int .u64 y]) (a0))))))))) ?step ?fin ?start (by decide)
      case start => exact ⟨rfl, H0.out, fun _ => ⟨by go_simp, by go_simp⟩, (fun h => nomatch h), (fun h => nomatch h), rfl⟩
      case step =>
        rintro a0 ⟨e0, e1, e5, e7, esz⟩ ls a w' ⟨hl, hH, hS, hD, h80, ha⟩ i o ho hu hw
        have hu' := undone hu
        rcases i with _ | _ | _ | _ | _ | _ | _ | _ | _ | i
        · have ho' : some _ = some o := ho
          cases ho'
          have E5 : a.eval (.tmp 5) = .pointer (some ⟨w.heap.size + 1, 0, none⟩) := by rw [ha]; simp [eval_cput_ne, e5]
          have l8 : ls.getD 8 false = false := by
            cases h : ls.getD 8 false
            · rfl
            · rw [h80 h] at hu'; cases hu'
          have hS' := hS l8
          refine wpOp_step ho (fun K hK => ?_)
          rw [if_pos (by rfl)]
          refine wp_load_mid _ _ rfl (w.heap.size + 1) 0 E5 [.int .u64 x, .int .u64 y] _ (range2 hS'.1 hS'.2) Tryd.underlying26 rfl infoSet2 ?_
          exact hK _ _ ⟨by simp [hl], hH, by simpa [getF, hl] using hS, by simpa [getF, hl] using hD, by simp [getF, hl], by rw [ha]; simp [cput_put, getF, hl, hu', cput_at]⟩
        · have ho' : some _ = some o := ho
          cases ho'
          have E7 : a.eval (.tmp 7) = .pointer (some ⟨wr.heap.size, 0, none⟩) := by rw [ha]; simp [eval_cput_ne, e7]
          refine wpOp_step ho (fun K hK => ?_)
          rw [if_pos (by rfl)]
          refine wp_load_mid _ _ rfl (wr.heap.size) 0 E7 [.int .i64 df, .int .i64 dr] _ (range2 hH.c0 hH.c1) Tryd.underlying23 rfl infoDir2 ?_
          exact hK _ _ ⟨by simp [hl], hH, by simpa [getF, hl] using hS, by simpa [getF, hl] using hD, by simpa [getF, hl] using h80, by rw [ha]; simp [cput_put, getF, hl, hu', cput_at]⟩
        · have ho' : some _ = some o := ho
          cases ho'
          have E0 : a.eval (.tmp 0) = .int .i8 p := by rw [ha]; simp [eval_cput_ne, e0]
          refine wpOp_step ho (fun K hK => ?_)
          rw [if_pos (by rfl)]
          refine wp_valueK (w' := w') (.int .i8 p) ?_ (hK _ _ ⟨by simp [hl], hH, by simpa [getF, hl] using hS, by simpa [getF, hl] using hD, by simpa [getF, hl] using h80, by rw [ha]; simp [cput_put, getF, hl, hu', cput_at]⟩)
          clear ha
          exact congrArg (fun v => Result.ok (Next.value v) w') E0
        · have ho' : some _ = some o := ho
          cases ho'
          have d18 : ls.getD 2 false = true := hw ⟨2, .data⟩ (by simp) rfl
          have z18 : 18 < a0.tmps.size := by omega
          have E18 : a.eval (.tmp 18) = .int .i8 p := by rw [ha]; simp [eval_cput_ne, d18, eval_cput_at, size_cput, z18]
          refine wpOp_step ho (fun K hK => ?_)
          rw [if_pos (by rfl)]
          refine wp_callK 40 #[a.eval (.tmp 18)] ?_ ?_
          · clear ha E18
            go_simp
          · rw [E18]
            refine (S'.out _).mono ?_
            rintro e w2 ⟨rfl, hb2⟩
            refine ⟨_, rfl, hK _ _ ⟨by simp [hl], hH.step hb2, by simpa [getF, hl] using (fun h => cells2_grow hH.lt hb2 (hS h)), by simpa [getF, hl] using (fun h => cells2_grow hH.lt hb2 (hD h)), by simpa [getF, hl] using h80, by rw [ha]; simp [cput_put, getF, hl, hu', cput_at]⟩⟩
        · have ho' : some _ = some o := ho
          cases ho'
          have d17 : ls.getD 1 false = true := hw ⟨1, .data⟩ (by simp) rfl
          have z17 : 17 < a0.tmps.size := by omega
          have E17 : a.eval (.tmp 17) = .agg #[.int .i64 df, .int .i64 dr] := by rw [ha]; simp [eval_cput_ne, d17, eval_cput_at, size_cput, z17]
          have d19 : ls.getD 3 false = true := hw ⟨3, .data⟩ (by simp) rfl
          have z19 : 19 < a0.tmps.size := by omega
          have E19 : a.eval (.tmp 19) = .int .i64 s := by rw [ha]; simp [eval_cput_ne, d19, eval_cput_at, size_cput, z19]
          refine wpOp_step ho (fun K hK => ?_)
          rw [if_pos (by rfl)]
          refine wp_callK 39 #[a.eval (.tmp 17), a.eval (.tmp 19)] ?_ ?_
          · clear ha E17 E19
            go_simp
          · rw [E17, E19]
            refine (T.out _).mono ?_
            rintro e w2 ⟨rfl, hb2⟩
            refine ⟨_, rfl, hK _ _ ⟨by simp [hl], hH.step hb2, by simpa [getF, hl] using (fun h => cells2_grow hH.lt hb2 (hS h)), by simpa [getF, hl] using (fun h => cells2_grow hH.lt hb2 (hD h)), by simpa [getF, hl] using h80, by rw [ha]; simp [cput_put, getF, hl, hu', cput_at]⟩⟩
        · have ho' : some _ = some o := ho
          cases ho'
          have E1 : a.eval (.tmp 1) = .int .i64 q := by rw [ha]; simp [eval_cput_ne, e1]
          refine wpOp_step ho (fun K hK => ?_)
          rw [if_pos (by rfl)]
          refine wp_valueK (w' := w') (.int .i64 q) ?_ (hK _ _ ⟨by simp [hl], hH, by simpa [getF, hl] using hS, by simpa [getF, hl] using hD, by simpa [getF, hl] using h80, by rw [ha]; simp [cput_put, getF, hl, hu', cput_at]⟩)
          clear ha
          exact congrArg (fun v => Result.ok (Next.value v) w') E1
        · have ho' : some _ = some o := ho
          cases ho'
          have d20 : ls.getD 4 false = true := hw ⟨4, .data⟩ (by simp) rfl
          have z20 : 20 < a0.tmps.size := by omega
          have E20 : a.eval (.tmp 20) = .agg #[.int .i64 tf, .int .i64 tr] := by rw [ha]; simp [eval_cput_ne, d20, eval_cput_at, size_cput, z20]
          have d21 : ls.getD 5 false = true := hw ⟨5, .data⟩ (by simp) rfl
          have z21 : 21 < a0.tmps.size := by omega
          have E21 : a.eval (.tmp 21) = .int .i64 q := by rw [ha]; simp [eval_cput_ne, d21, eval_cput_at, size_cput, z21]
          refine wpOp_step ho (fun K hK => ?_)
          rw [if_pos (by rfl)]
          refine wp_callK 15 #[a.eval (.tmp 20), a.eval (.tmp 21)] ?_ ?_
          · clear ha E20 E21
            go_simp
          · rw [E20, E21]
            refine (F.out _).mono ?_
            rintro e w2 ⟨rfl, hb2⟩
            refine ⟨_, rfl, hK _ _ ⟨by simp [hl], hH.step hb2, by simpa [getF, hl] using (fun h => cells2_grow hH.lt hb2 (hS h)), by simpa [getF, hl] using (fun h => cells2_grow hH.lt hb2 (hD h)), by simpa [getF, hl] using h80, by rw [ha]; simp [cput_put, getF, hl, hu', cput_at]⟩⟩
        · have ho' : some _ = some o := ho
          cases ho'
          have d16 : ls.getD 0 false = true := hw ⟨0, .data⟩ (by simp) rfl
          have z16 : 16 < a0.tmps.size := by omega
          have E16 : a.eval (.tmp 16) = .agg #[.int .u64 x, .int .u64 y] := by rw [ha]; simp [eval_cput_ne, d16, eval_cput_at, size_cput, z16]
          have d22 : ls.getD 6 false = true := hw ⟨6, .data⟩ (by simp) rfl
          have z22 : 22 < a0.tmps.size := by omega
          have E22 : a.eval (.tmp 22) = .int .i64 z := by rw [ha]; simp [eval_cput_ne, d22, eval_cput_at, size_cput, z22]
          refine wpOp_step ho (fun K hK => ?_)
          rw [if_pos (by rfl)]
          refine wp_callK 26 #[a.eval (.tmp 16), a.eval (.tmp 22)] ?_ ?_
          · clear ha E16 E22
            go_simp
          · rw [E16, E22]
            refine (C.out _).mono ?_
            rintro e w2 ⟨rfl, hb2⟩
            refine ⟨_, rfl, hK _ _ ⟨by simp [hl], hH.step hb2, by simpa [getF, hl] using (fun h => cells2_grow hH.lt hb2 (hS h)), by simpa [getF, hl] using (fun h => cells2_grow hH.lt hb2 (hD h)), by simpa [getF, hl] using h80, by rw [ha]; simp [cput_put, getF, hl, hu', cput_at]⟩⟩
        · have ho' : some _ = some o := ho
          cases ho'
          have E5 : a.eval (.tmp 5) = .pointer (some ⟨w.heap.size + 1, 0, none⟩) := by rw [ha]; simp [eval_cput_ne, e5]
          have d23 : ls.getD 7 false = true := hw ⟨7, .data⟩ (by simp) rfl
          have z23 : 23 < a0.tmps.size := by omega
          have E23 : a.eval (.tmp 23) = .agg #[.int .u64 x2, .int .u64 y2] := by rw [ha]; simp [eval_cput_ne, d23, eval_cput_at, size_cput, z23]
          refine wpOp_step ho (fun K hK => ?_)
          rw [if_pos (by rfl)]
          have hS' := hS hu'
          refine wp_store_mid _ _ _ rfl (w.heap.size + 1) 0 #[.int .u64 x2, .int .u64 y2] E5 E23 (there2 hS'.1 hS'.2 hH.f0 hH.f1) infoSet2 (by simp [Value.oneCell']) ?_
          have gg : ∀ j, j ≠ 8 → (ls.setIfInBounds 8 true).getD j false = ls.getD j false := fun j hj => (getF (by omega : 8 < ls.size)).trans (if_neg (Ne.symm hj))
          have gs : (ls.setIfInBounds 8 true).getD 8 false = true := (getF (by omega : 8 < ls.size)).trans (if_pos rfl)
          have q0 := hS'.1
          have q1 := hS'.2
          refine hK _ _ ⟨by simp [hl], hH.store hg3 hd3 _ _, (fun h => by rw [gs] at h; cases h), (fun _ => stored2 q0 q1 _ _), (fun _ => by rw [gg 0 (by decide)]; exact hw ⟨0, .phase⟩ (by simp) rfl), ?_⟩
          rw [gg 7 (by decide), gg 6 (by decide), gg 5 (by decide), gg 4 (by decide), gg 3 (by decide), gg 2 (by decide), gg 1 (by decide), gg 0 (by decide), ha]
          rfl
        · cases ho
      case fin =>
        rintro ls a w' ⟨hl, hH, -, hD, -, ha⟩ hr
        have d : ∀ i, i < 9 → ls.getD i false = true := all_doneB hr (by kernel_rfl) (by rw [hl]; rfl)
        obtain ⟨n0, n1⟩ := hD (d 8 (by decide))
        rw [d 7 (by decide), d 6 (by decide), d 5 (by decide), d 4 (by decide), d 3 (by decide), d 2 (by decide), d 1 (by decide), d 0 (by decide)] at ha
        subst ha
        simp only [cput, if_true, Act.put, List.setIfInBounds_toArray, List.set_cons_zero, List.set_cons_succ]
        clear d hD hr hl
        go_wp2
        go_roundw
        case rel =>
          refine ⟨k + 1, by omega, by go_num, ?_, hH.below, hH.res, ?_⟩
          · intro g' hg' _
            cases hg'
            exact ⟨hg2, hH.ways⟩
          · rw [HX.out, HY.out]
            exact ⟨hH.lt, n0, n1, hH.f0, hH.f1⟩
        case measure => simp [intOf]; omega
    · obtain rfl : k = l.length := by omega
      have l0 := hV.lo
      have l1 := hV.hi
      have r0 := hR.lo
      have r1 := hR.hi
      have r2 := hR.f0
      have r3 := hR.f1
      clear hB hR hV HG HS hW V0 V1 hB0 S
      generalize hx : loW (partN l s q l.length) = x at l0 HV
      generalize hy : hiW (partN l s q l.length) = y at l1 HV
      have HX := Lib.hid hx
      have HY := Lib.hid hy
      clear hx hy
      go_wp2
      rw [HX.out, HY.out]
      exact bodyPost_ret (v := .agg #[.int .u64 x, .int .u64 y]) (by simp [results, Tryd.results19, go_sem, r0, r1]) rfl
        ⟨rfl, (HB.out.setCell (Nat.le_refl _) _).setCell (Nat.le_refl _) _⟩
end Go.Proofs.YtnmekghjkajhcaaDoor
