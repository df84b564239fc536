/-
  gen's kings and Board: the moves on the board.
-/
import Derived.Test.YtilhicohfnaclaaDoorGen1
import Derived.Test.YtilhicohfnaclaaDoorAtk2
namespace Go.Proofs.YtilhicohfnaclaaDoor
open Go.RowKit
set_option maxRecDepth 100000
set_option linter.unusedVariables false
set_option linter.unusedSimpArgs false

def kingsN (z : List Int) : Nat := pieceN z (ofF 0 8) ||| pieceN z (ofF 1 8)
theorem kingsN_sq (z : List Int) : Sq (kingsN z) := (pieceN_sq _ _).or (pieceN_sq _ _)
set_option maxHeartbeats 1000000 in
theorem kings_any (b : Nat) (z : List Int) (hz : z.length = 98) (w : World) (hb : Brd w b z) :
    Calls Tryd.prog 85 #[.pointer (some ⟨b, 0, none⟩)] w fun e w' => e = .returned (.agg #[.int .u64 (loW (kingsN z)), .int .u64 (hiW (kingsN z))]) ∧ Below w.heap.size w w' := by
  have O0 := Lib.hid (fun W (h : Brd W b z) => of_brd b z 0 8 (by omega) hz W h)
  have O1 := Lib.hid (fun W (h : Brd W b z) => of_brd b z 1 8 (by omega) hz W h)
  have OR := Lib.hid (fun W => or_any (pieceN z (ofF 0 8)) (pieceN z (ofF 1 8)) (pieceN_sq _ _) (pieceN_sq _ _) W)
  rw [show pieceN z (ofF 0 8) ||| pieceN z (ofF 1 8) = kingsN z from rfl] at OR
  have HBD := Lib.hid (show BrdAt (w.alloc (.cells #[.int .u64 0, .int .u64 0] 32)) b z (setAt z) from BrdAt.grow hb (ball (bref w) _))
  have hz0 : (zeroValue 32).run Tryd.prog w = .ok (.agg #[.int .u64 0, .int .u64 0]) w := by kernel_rfl
  clear hb hz
  generalize loW (kingsN z) = x at *
  generalize hiW (kingsN z) = y at *
  generalize loW (pieceN z (ofF 0 8)) = al at *
  generalize hiW (pieceN z (ofF 0 8)) = ah at *
  generalize loW (pieceN z (ofF 1 8)) = bl at *
  generalize hiW (pieceN z (ofF 1 8)) = bh at *
  go_enter Tryd.func85, Tryd.ntmps85
  go_wp2_with (first
    | (go_at_call_of 60 (Value.int .i64 0); refine (O0.out _ HBD.out).mono ?_; rintro e w1 ⟨rfl, hb1⟩; have HBD1 := Lib.hid (BrdAt.grow HBD.out hb1); have V1 : Var w1 w.heap.size 0 0 := (Var.grow ⟨by simp, by go_simp, by go_simp, by go_simp, by go_simp⟩ hb1))
    | (go_at_call_of 60 (Value.int .i64 1); refine (O1.out _ HBD1.out).mono ?_; rintro e w2 ⟨rfl, hb2⟩; have V2 := V1.grow hb2)
    | (go_at_call 61; refine (OR.out _).mono ?_; rintro e w3 ⟨rfl, hb3⟩; have V3 := V2.grow hb3; have r0 := V3.lo; have r1 := V3.hi; have r2 := V3.f0; have r3 := V3.f1))
  exact bodyPost_ret (v := .agg #[.int .u64 x, .int .u64 y]) (by simp [results, Tryd.results85, go_sem, r0, r1]) rfl
    ⟨rfl, ((bthen (ball (bref w) _) (bthen hb1 (bthen hb2 hb3))).setCell (by simp) _).setCell (by simp) _⟩

/-- Where the side to move may go. -/
def openN (z : List Int) (s : Int) (onto : Nat) : Nat := minusN (minusN onto (sideN z s)) (kingsN z)
def innL (z : List Int) (s : Int) (onto : Nat) (f : Int) : List Int := sqI (rayN (at8 z f.toNat) f (takenN z) &&& openN z s onto)
def innG (z : List Int) (f : Int) (l : List Int) : List Gv := l.flatMap fun t => addL (at8 z f.toNat) f t
def outG (z : List Int) (s : Int) (onto : Nat) (l : List Int) : List Gv := l.flatMap fun f => innG z f (innL z s onto f)
/-- The moves on the board, onto some squares. -/
def brdG (z : List Int) (s : Int) (onto : Nat) : List Gv := outG z s onto (sqI (sideN z s))
theorem innG_snoc (z : List Int) (f t : Int) (l : List Int) : innG z f (l ++ [t]) = innG z f l ++ addL (at8 z f.toNat) f t := by simp [innG]
theorem outG_snoc (z : List Int) (s : Int) (onto : Nat) (l : List Int) (f : Int) : outG z s onto (l ++ [f]) = outG z s onto l ++ innG z f (innL z s onto f) := by simp [outG]
theorem innG_len (z : List Int) (f : Int) : ∀ l : List Int, (innG z f l).length ≤ 2 * l.length
  | [] => by simp [innG]
  | t :: l => by
    have ih := innG_len z f l
    have h := addL_len (at8 z f.toNat) f t
    show (addL (at8 z f.toNat) f t ++ innG z f l).length ≤ _
    rw [List.length_append, List.length_cons]
    omega
theorem outG_len (z : List Int) (s : Int) (onto : Nat) : ∀ l : List Int, (outG z s onto l).length ≤ 162 * l.length
  | [] => by simp [outG]
  | f :: l => by
    have ih := outG_len z s onto l
    have h := innG_len z f (innL z s onto f)
    have h2 : (innL z s onto f).length ≤ 81 := sqI_le _
    show (innG z f (innL z s onto f) ++ outG z s onto l).length ≤ _
    rw [List.length_append, List.length_cons]
    omega
theorem brdG_len (z : List Int) (s : Int) (onto : Nat) : (brdG z s onto).length ≤ 13122 := by
  have h := outG_len z s onto (sqI (sideN z s))
  have h2 := sqI_le (sideN z s)
  unfold brdG
  omega
set_option maxHeartbeats 8000000 in
theorem board_any (b : Nat) (z : List Int) (s : Int) (onto : Nat) (hs : s = 0 ∨ s = 1) (h97 : at8 z 97 = s) (hon : Sq onto) (hz : z.length = 98) (h8 : I8s z) (w : World) (hb : Brd w b z) (hT : Tab w) :
    Calls Tryd.prog 49 #[.pointer (some ⟨b, 0, none⟩), .agg #[.int .u64 (loW onto), .int .u64 (hiW onto)]] w fun e w' => ∃ v, e = .returned v ∧ OwnG w' w.heap.size v (brdG z s onto) ∧ Below w.heap.size w w' := by
  have PI := Lib.hid (fun W (h : Brd W b z) => pieces_brd b z s hz W h)
  rw [if_pos hs] at PI
  have KS := Lib.hid (fun W (h : Brd W b z) => kings_any b z hz W h)
  have MI1 := Lib.hid (fun W => minus_any onto (sideN z s) hon (sideN_sq _ _) W)
  have MI2 := Lib.hid (fun W => minus_any (minusN onto (sideN z s)) (kingsN z) hon.minus (kingsN_sq z) W)
  rw [show minusN (minusN onto (sideN z s)) (kingsN z) = openN z s onto from rfl] at MI2
  have hop : Sq (openN z s onto) := hon.minus.minus
  have SQ := Lib.hid (fun W (t : Tab W) (h : 1 < W.heap.size) => squares_any (sideN z s) (sideN_sq _ _) W t h)
  have TA := Lib.hid (fun W (h : Brd W b z) => taken_brd b z hz W h)
  have hgt : 1 < w.heap.size := block_lt_of_cell (hT 0 (by omega))
  have HGT := Lib.hid hgt
  have HIN := Lib.hid (sqI_in (sideN z s))
  have HLE := Lib.hid (sqI_le (sideN z s))
  have HOP := Lib.hid hop
  have HZ := Lib.hid hz
  have H8 := Lib.hid h8
  have HT := Lib.hid hT
  have c97 := hb.cell hz 97 (by omega)
  rw [h97] at c97
  have hw1 : IntKind.i64.wrap s = s := by rw [wrap_i64_eq]; unfold wrap64; omega
  have hw2 : wrap64 s = s := by unfold wrap64; omega
  have HBD := Lib.hid (show BrdAt w b z (setAt z) from hb)
  have zb := hb.lt
  unfold brdG
  clear hon hop hs h97 hz h8 hb hT hgt
  generalize hl : sqI (sideN z s) = l at *
  clear hl
  generalize htk : takenN z = tk at *
  have HTK := Lib.hid htk
  have HTS := Lib.hid (show Sq tk by rw [← htk]; exact takenN_sq z)
  generalize hopn : openN z s onto = on at *
  have HON := Lib.hid hopn
  clear htk hopn
  generalize htl : loW tk = tl at *
  generalize hth : hiW tk = th at *
  have HTL := Lib.hid htl
  have HTH := Lib.hid hth
  generalize hxx : loW on = x at *
  generalize hyy : hiW on = y at *
  have HX := Lib.hid hxx
  have HY := Lib.hid hyy
  generalize loW onto = ol at *
  generalize hiW onto = oh at *
  generalize loW (sideN z s) = pl at *
  generalize hiW (sideN z s) = ph at *
  generalize loW (minusN onto (sideN z s)) = ml at *
  generalize hiW (minusN onto (sideN z s)) = mh at *
  generalize loW (kingsN z) = kl at *
  generalize hiW (kingsN z) = kh at *
  clear htl hth hxx hyy
  have M0 := Lib.hid (show (w.alloc (.cells #[.int .u64 ol, .int .u64 oh] 32)).cell? ⟨w.heap.size, 0, none⟩ = some (.int .u64 ol) by go_simp)
  have M1 := Lib.hid (show (w.alloc (.cells #[.int .u64 ol, .int .u64 oh] 32)).cell? ⟨w.heap.size, 1, none⟩ = some (.int .u64 oh) by go_simp)
  have HW0 := Lib.hid (show w.heap.size < (w.alloc (.cells #[.int .u64 ol, .int .u64 oh] 32)).heap.size by simp)
  have HBD0 := Lib.hid (HBD.out.grow (ball (bref w) (.cells #[.int .u64 ol, .int .u64 oh] 32)))
  have HB := Lib.hid (ball (bref w) (.cells #[.int .u64 ol, .int .u64 oh] 32))
  go_enter Tryd.func49, Tryd.ntmps49
  go_upto_region 3 with fail
  generalize w.alloc (.cells #[.int .u64 ol, .int .u64 oh] 32) = w0 at *
  refine wp_region_any (by kernel_rfl) ?_
  change wpAny _ _ _ _ _ _ _ (World.drew _)
  refine wpAny_inv3 (fun a0 => a0.eval (.tmp 0) = .pointer (some ⟨b, 0, none⟩) ∧ a0.eval (.tmp 3) = .pointer (some ⟨w.heap.size, 0, none⟩) ∧ a0.eval (.tmp 6) = .int .i64 s ∧ 50 < a0.tmps.size) ⟨rfl, rfl, rfl, of_decide_eq_true rfl⟩
    (fun a0 ls a w' => ls.size = 10 ∧ Below w0.heap.size w0 w' ∧ ∃ g p : Nat, True ∧ (ls.getD 8 false = true → w0.heap.size ≤ p ∧ Var w' p (if ls.getD 9 false then x else 0) (if ls.getD 9 false then y else 0)) ∧ (∀ i, i < 10 → ls.getD 9 false = true → ls.getD i false = true) ∧ a = cput (ls.getD 8 false) 7 (.pointer (some ⟨p, 0, none⟩)) (cput (ls.getD 7 false) 26 (.agg #[.int .u64 x, .int .u64 y]) (cput (ls.getD 6 false) 25 (.agg #[.int .u64 kl, .int .u64 kh]) (cput (ls.getD 5 false) 24 (.pointer (some ⟨b, 0, none⟩)) (cput (ls.getD 4 false) 23 (.agg #[.int .u64 ml, .int .u64 mh]) (cput (ls.getD 3 false) 22 (.agg #[.int .u64 pl, .int .u64 ph]) (cput (ls.getD 2 false) 21 (.int .i64 s) (cput (ls.getD 1 false) 20 (.pointer (some ⟨b, 0, none⟩)) (cput (ls.getD 0 false) 19 (.agg #[.int .u64 ol, .int .u64 oh]) (a0)))))))))) ?step ?fin ?start (by decide)
  case start => exact ⟨rfl, (bref w0).drew, 0, 0, trivial, (fun h => nomatch h), (fun _ _ h => nomatch h), rfl⟩
  case step =>
    rintro a0 ⟨e0, e3, e6, esz⟩ ls a w' ⟨hl, hb, g, p, hG, hV, hns, ha⟩ i o ho hu hw
    have hu' := undone hu
    rcases i with _ | _ | _ | _ | _ | _ | _ | _ | _ | _ | i
    · have ho' : some _ = some o := ho
      cases ho'
      have E3 : a.eval (.tmp 3) = .pointer (some ⟨w.heap.size, 0, none⟩) := by rw [ha]; simp [eval_cput_ne, e3]
      have hst : ls.getD 9 false = false := by
        cases h : ls.getD 9 false with
        | false => rfl
        | true => (have := hns 0 (by omega) h; rw [hu'] at this; cases this)
      have hst' : (ls.setIfInBounds 0 true).getD 9 false = false := (getF (by omega : 0 < ls.size)).trans ((if_neg (by decide)).trans hst)
      have hns' : ∀ j, j < 10 → (ls.setIfInBounds 0 true).getD 9 false = true → (ls.setIfInBounds 0 true).getD j false = true := fun _ _ h => by rw [hst'] at h; cases h
      refine wpOp_step ho (fun K hK' => ?_)
      rw [if_pos (by rfl)]
      refine wp_load_mid _ _ rfl (w.heap.size) 0 E3 ([.int .u64 ol, .int .u64 oh]) _ (range2 ((hb.cell (p := ⟨w.heap.size, 0, none⟩) HW0.out).trans M0.out) ((hb.cell (p := ⟨w.heap.size, 1, none⟩) HW0.out).trans M1.out)) Tryd.underlying32 rfl (infoSet2) ?_
      exact hK' _ _ ⟨by simp [hl], hb, g, p, trivial, by simpa [getF, hl] using (fun h => (show _ ∧ _ from ⟨(hV h).1, (hV h).2.grow (bref w')⟩)), hns', by rw [ha]; simp [cput_put, getF, hl, hu', cput_at]⟩
    · have ho' : some _ = some o := ho
      cases ho'
      have E0 : a.eval (.tmp 0) = .pointer (some ⟨b, 0, none⟩) := by rw [ha]; simp [eval_cput_ne, e0]
      have hst : ls.getD 9 false = false := by
        cases h : ls.getD 9 false with
        | false => rfl
        | true => (have := hns 1 (by omega) h; rw [hu'] at this; cases this)
      have hst' : (ls.setIfInBounds 1 true).getD 9 false = false := (getF (by omega : 1 < ls.size)).trans ((if_neg (by decide)).trans hst)
      have hns' : ∀ j, j < 10 → (ls.setIfInBounds 1 true).getD 9 false = true → (ls.setIfInBounds 1 true).getD j false = true := fun _ _ h => by rw [hst'] at h; cases h
      refine wpOp_step ho (fun K hK' => ?_)
      rw [if_pos (by rfl)]
      refine wp_valueK (w' := w') (.pointer (some ⟨b, 0, none⟩)) ?_ (hK' _ _ ⟨by simp [hl], hb, g, p, trivial, by simpa [getF, hl] using (fun h => (show _ ∧ _ from ⟨(hV h).1, (hV h).2.grow (bref w')⟩)), hns', by rw [ha]; simp [cput_put, getF, hl, hu', cput_at]⟩)
      exact congrArg (fun v => Result.ok (Next.value v) w') E0
    · have ho' : some _ = some o := ho
      cases ho'
      have E6 : a.eval (.tmp 6) = .int .i64 s := by rw [ha]; simp [eval_cput_ne, e6]
      have hst : ls.getD 9 false = false := by
        cases h : ls.getD 9 false with
        | false => rfl
        | true => (have := hns 2 (by omega) h; rw [hu'] at this; cases this)
      have hst' : (ls.setIfInBounds 2 true).getD 9 false = false := (getF (by omega : 2 < ls.size)).trans ((if_neg (by decide)).trans hst)
      have hns' : ∀ j, j < 10 → (ls.setIfInBounds 2 true).getD 9 false = true → (ls.setIfInBounds 2 true).getD j false = true := fun _ _ h => by rw [hst'] at h; cases h
      refine wpOp_step ho (fun K hK' => ?_)
      rw [if_pos (by rfl)]
      refine wp_valueK (w' := w') (.int .i64 s) ?_ (hK' _ _ ⟨by simp [hl], hb, g, p, trivial, by simpa [getF, hl] using (fun h => (show _ ∧ _ from ⟨(hV h).1, (hV h).2.grow (bref w')⟩)), hns', by rw [ha]; simp [cput_put, getF, hl, hu', cput_at]⟩)
      exact congrArg (fun v => Result.ok (Next.value v) w') E6
    · have ho' : some _ = some o := ho
      cases ho'
      have d20 : ls.getD 1 false = true := hw ⟨1, .data⟩ (by simp) rfl
      have z20 : 20 < a0.tmps.size := by omega
      have E20 : a.eval (.tmp 20) = .pointer (some ⟨b, 0, none⟩) := by rw [ha]; simp [eval_cput_ne, d20, eval_cput_at, size_cput, z20]
      have d21 : ls.getD 2 false = true := hw ⟨2, .data⟩ (by simp) rfl
      have z21 : 21 < a0.tmps.size := by omega
      have E21 : a.eval (.tmp 21) = .int .i64 s := by rw [ha]; simp [eval_cput_ne, d21, eval_cput_at, size_cput, z21]
      have hst : ls.getD 9 false = false := by
        cases h : ls.getD 9 false with
        | false => rfl
        | true => (have := hns 3 (by omega) h; rw [hu'] at this; cases this)
      have hst' : (ls.setIfInBounds 3 true).getD 9 false = false := (getF (by omega : 3 < ls.size)).trans ((if_neg (by decide)).trans hst)
      have hns' : ∀ j, j < 10 → (ls.setIfInBounds 3 true).getD 9 false = true → (ls.setIfInBounds 3 true).getD j false = true := fun _ _ h => by rw [hst'] at h; cases h
      refine wpOp_step ho (fun K hK' => ?_)
      rw [if_pos (by rfl)]
      refine wp_callK 41 #[a.eval (.tmp 20), a.eval (.tmp 21)] ?_ ?_
      · clear ha E20 E21
        go_simp
      · rw [E20, E21]
        refine (PI.out _ (HBD0.out.grow hb)).mono ?_
        rintro e w2 ⟨rfl, hb2⟩
        exact ⟨_, rfl, hK' _ _ ⟨by simp [hl], bthen hb hb2, g, p, trivial, by simpa [getF, hl] using (fun h => (show _ ∧ _ from ⟨(hV h).1, (hV h).2.grow hb2⟩)), hns', by rw [ha]; simp [cput_put, getF, hl, hu', cput_at]⟩⟩
    · have ho' : some _ = some o := ho
      cases ho'
      have d19 : ls.getD 0 false = true := hw ⟨0, .data⟩ (by simp) rfl
      have z19 : 19 < a0.tmps.size := by omega
      have E19 : a.eval (.tmp 19) = .agg #[.int .u64 ol, .int .u64 oh] := by rw [ha]; simp [eval_cput_ne, d19, eval_cput_at, size_cput, z19]
      have d22 : ls.getD 3 false = true := hw ⟨3, .data⟩ (by simp) rfl
      have z22 : 22 < a0.tmps.size := by omega
      have E22 : a.eval (.tmp 22) = .agg #[.int .u64 pl, .int .u64 ph] := by rw [ha]; simp [eval_cput_ne, d22, eval_cput_at, size_cput, z22]
      have hst : ls.getD 9 false = false := by
        cases h : ls.getD 9 false with
        | false => rfl
        | true => (have := hns 4 (by omega) h; rw [hu'] at this; cases this)
      have hst' : (ls.setIfInBounds 4 true).getD 9 false = false := (getF (by omega : 4 < ls.size)).trans ((if_neg (by decide)).trans hst)
      have hns' : ∀ j, j < 10 → (ls.setIfInBounds 4 true).getD 9 false = true → (ls.setIfInBounds 4 true).getD j false = true := fun _ _ h => by rw [hst'] at h; cases h
      refine wpOp_step ho (fun K hK' => ?_)
      rw [if_pos (by rfl)]
      refine wp_callK 36 #[a.eval (.tmp 19), a.eval (.tmp 22)] ?_ ?_
      · clear ha E19 E22
        go_simp
      · rw [E19, E22]
        refine (MI1.out _).mono ?_
        rintro e w2 ⟨rfl, hb2⟩
        exact ⟨_, rfl, hK' _ _ ⟨by simp [hl], bthen hb hb2, g, p, trivial, by simpa [getF, hl] using (fun h => (show _ ∧ _ from ⟨(hV h).1, (hV h).2.grow hb2⟩)), hns', by rw [ha]; simp [cput_put, getF, hl, hu', cput_at]⟩⟩
    · have ho' : some _ = some o := ho
      cases ho'
      have E0 : a.eval (.tmp 0) = .pointer (some ⟨b, 0, none⟩) := by rw [ha]; simp [eval_cput_ne, e0]
      have hst : ls.getD 9 false = false := by
        cases h : ls.getD 9 false with
        | false => rfl
        | true => (have := hns 5 (by omega) h; rw [hu'] at this; cases this)
      have hst' : (ls.setIfInBounds 5 true).getD 9 false = false := (getF (by omega : 5 < ls.size)).trans ((if_neg (by decide)).trans hst)
      have hns' : ∀ j, j < 10 → (ls.setIfInBounds 5 true).getD 9 false = true → (ls.setIfInBounds 5 true).getD j false = true := fun _ _ h => by rw [hst'] at h; cases h
      refine wpOp_step ho (fun K hK' => ?_)
      rw [if_pos (by rfl)]
      refine wp_valueK (w' := w') (.pointer (some ⟨b, 0, none⟩)) ?_ (hK' _ _ ⟨by simp [hl], hb, g, p, trivial, by simpa [getF, hl] using (fun h => (show _ ∧ _ from ⟨(hV h).1, (hV h).2.grow (bref w')⟩)), hns', by rw [ha]; simp [cput_put, getF, hl, hu', cput_at]⟩)
      exact congrArg (fun v => Result.ok (Next.value v) w') E0
    · have ho' : some _ = some o := ho
      cases ho'
      have d24 : ls.getD 5 false = true := hw ⟨5, .data⟩ (by simp) rfl
      have z24 : 24 < a0.tmps.size := by omega
      have E24 : a.eval (.tmp 24) = .pointer (some ⟨b, 0, none⟩) := by rw [ha]; simp [eval_cput_ne, d24, eval_cput_at, size_cput, z24]
      have hst : ls.getD 9 false = false := by
        cases h : ls.getD 9 false with
        | false => rfl
        | true => (have := hns 6 (by omega) h; rw [hu'] at this; cases this)
      have hst' : (ls.setIfInBounds 6 true).getD 9 false = false := (getF (by omega : 6 < ls.size)).trans ((if_neg (by decide)).trans hst)
      have hns' : ∀ j, j < 10 → (ls.setIfInBounds 6 true).getD 9 false = true → (ls.setIfInBounds 6 true).getD j false = true := fun _ _ h => by rw [hst'] at h; cases h
      refine wpOp_step ho (fun K hK' => ?_)
      rw [if_pos (by rfl)]
      refine wp_callK 85 #[a.eval (.tmp 24)] ?_ ?_
      · clear ha E24
        go_simp
      · rw [E24]
        refine (KS.out _ (HBD0.out.grow hb)).mono ?_
        rintro e w2 ⟨rfl, hb2⟩
        exact ⟨_, rfl, hK' _ _ ⟨by simp [hl], bthen hb hb2, g, p, trivial, by simpa [getF, hl] using (fun h => (show _ ∧ _ from ⟨(hV h).1, (hV h).2.grow hb2⟩)), hns', by rw [ha]; simp [cput_put, getF, hl, hu', cput_at]⟩⟩
    · have ho' : some _ = some o := ho
      cases ho'
      have d23 : ls.getD 4 false = true := hw ⟨4, .data⟩ (by simp) rfl
      have z23 : 23 < a0.tmps.size := by omega
      have E23 : a.eval (.tmp 23) = .agg #[.int .u64 ml, .int .u64 mh] := by rw [ha]; simp [eval_cput_ne, d23, eval_cput_at, size_cput, z23]
      have d25 : ls.getD 6 false = true := hw ⟨6, .data⟩ (by simp) rfl
      have z25 : 25 < a0.tmps.size := by omega
      have E25 : a.eval (.tmp 25) = .agg #[.int .u64 kl, .int .u64 kh] := by rw [ha]; simp [eval_cput_ne, d25, eval_cput_at, size_cput, z25]
      have hst : ls.getD 9 false = false := by
        cases h : ls.getD 9 false with
        | false => rfl
        | true => (have := hns 7 (by omega) h; rw [hu'] at this; cases this)
      have hst' : (ls.setIfInBounds 7 true).getD 9 false = false := (getF (by omega : 7 < ls.size)).trans ((if_neg (by decide)).trans hst)
      have hns' : ∀ j, j < 10 → (ls.setIfInBounds 7 true).getD 9 false = true → (ls.setIfInBounds 7 true).getD j false = true := fun _ _ h => by rw [hst'] at h; cases h
      refine wpOp_step ho (fun K hK' => ?_)
      rw [if_pos (by rfl)]
      refine wp_callK 36 #[a.eval (.tmp 23), a.eval (.tmp 25)] ?_ ?_
      · clear ha E23 E25
        go_simp
      · rw [E23, E25]
        refine (MI2.out _).mono ?_
        rintro e w2 ⟨rfl, hb2⟩
        exact ⟨_, rfl, hK' _ _ ⟨by simp [hl], bthen hb hb2, g, p, trivial, by simpa [getF, hl] using (fun h => (show _ ∧ _ from ⟨(hV h).1, (hV h).2.grow hb2⟩)), hns', by rw [ha]; simp [cput_put, getF, hl, hu', cput_at]⟩⟩
    · have ho' : some _ = some o := ho
      cases ho'
      have hst : ls.getD 9 false = false := by
        cases h : ls.getD 9 false with
        | false => rfl
        | true => (have := hns 8 (by omega) h; rw [hu'] at this; cases this)
      have hst' : (ls.setIfInBounds 8 true).getD 9 false = false := (getF (by omega : 8 < ls.size)).trans ((if_neg (by decide)).trans hst)
      have hns' : ∀ j, j < 10 → (ls.setIfInBounds 8 true).getD 9 false = true → (ls.setIfInBounds 8 true).getD j false = true := fun _ _ h => by rw [hst'] at h; cases h
      refine wpOp_step ho (fun K hK' => ?_)
      rw [if_pos (by rfl)]
      refine wp_valueK (w' := w'.alloc (.cells #[.int .u64 0, .int .u64 0] 32)) (.pointer (some ⟨w'.heap.size, 0, none⟩)) ?_ ?_
      · have hz : (zeroValue 32).run Tryd.prog w' = .ok (.agg #[.int .u64 0, .int .u64 0]) w' := by kernel_rfl
        clear ha
        go_simp
      · refine hK' _ _ ⟨by simp [hl], ball hb _, g, w'.heap.size, trivial, ?_, hns', by rw [ha]; simp [cput_put, getF, hl, hu', cput_at]⟩
        intro _
        rw [hst']
        exact ⟨hb.size, ⟨by simp, by go_simp, by go_simp, by go_simp, by go_simp⟩⟩
    · have ho' : some _ = some o := ho
      cases ho'
      have d7 : ls.getD 8 false = true := hw ⟨8, .data⟩ (by simp) rfl
      have z7 : 7 < a0.tmps.size := by omega
      have E7 : a.eval (.tmp 7) = .pointer (some ⟨p, 0, none⟩) := by rw [ha]; simp [eval_cput_ne, d7, eval_cput_at, size_cput, z7]
      have d26 : ls.getD 7 false = true := hw ⟨7, .data⟩ (by simp) rfl
      have z26 : 26 < a0.tmps.size := by omega
      have E26 : a.eval (.tmp 26) = .agg #[.int .u64 x, .int .u64 y] := by rw [ha]; simp [eval_cput_ne, d26, eval_cput_at, size_cput, z26]
      refine wpOp_step ho (fun K hK' => ?_)
      rw [if_pos (by rfl)]
      obtain ⟨hp0, hV0⟩ := hV d7
      rw [show ls.getD 9 false = false from hu'] at hV0
      simp only [Bool.false_eq_true, if_false] at hV0
      have all : ∀ j, j < 9 → ls.getD j false = true := by
        intro j hj
        obtain rfl | rfl | rfl | rfl | rfl | rfl | rfl | rfl | rfl : j = 0 ∨ j = 1 ∨ j = 2 ∨ j = 3 ∨ j = 4 ∨ j = 5 ∨ j = 6 ∨ j = 7 ∨ j = 8 := by omega
        · exact hw ⟨0, .phase⟩ (by simp) rfl
        · exact hw ⟨1, .phase⟩ (by simp) rfl
        · exact hw ⟨2, .phase⟩ (by simp) rfl
        · exact hw ⟨3, .phase⟩ (by simp) rfl
        · exact hw ⟨4, .phase⟩ (by simp) rfl
        · exact hw ⟨5, .phase⟩ (by simp) rfl
        · exact hw ⟨6, .phase⟩ (by simp) rfl
        · exact hw ⟨7, .phase⟩ (by simp) rfl
        · exact hw ⟨8, .phase⟩ (by simp) rfl
      have gg : ∀ j, j ≠ 9 → (ls.setIfInBounds 9 true).getD j false = ls.getD j false := fun j hj => (getF (by omega : 9 < ls.size)).trans (if_neg (Ne.symm hj))
      have gs : (ls.setIfInBounds 9 true).getD 9 false = true := (getF (by omega : 9 < ls.size)).trans (if_pos rfl)
      refine wp_store_mid _ _ _ rfl p 0 #[.int .u64 x, .int .u64 y] E7 E26 (there2 hV0.lo hV0.hi hV0.f0 hV0.f1) infoSet2 (by simp [Value.oneCell']) ?_
      refine hK' _ _ ⟨by simp [hl], (hb.setCell hp0 _).setCell hp0 _, g, p, trivial, ?_, (fun j hj _ => if e : j = 9 then (by rw [e]; exact gs) else (gg j e).trans (all j (by omega))), ?_⟩
      · intro _
        rw [gs]
        exact ⟨hp0, hV0.put _ _⟩
      · rw [gg 8 (by decide), gg 7 (by decide), gg 6 (by decide), gg 5 (by decide), gg 4 (by decide), gg 3 (by decide), gg 2 (by decide), gg 1 (by decide), gg 0 (by decide), ha]
        rfl
    · cases ho
  case fin =>
    rintro ls a w' ⟨hl, hb, g, p, -, hV, -, ha⟩ hr
    have d : ∀ i, i < 10 → ls.getD i false = true := all_doneB hr (by kernel_rfl) (by rw [hl]; rfl)
    obtain ⟨hpl, hV⟩ := hV (d 8 (by decide))
    rw [d 9 (by decide)] at hV
    rw [d 8 (by decide), d 7 (by decide), d 6 (by decide), d 5 (by decide), d 4 (by decide), d 3 (by decide), d 2 (by decide), d 1 (by decide), d 0 (by decide)] at ha
    subst ha
    simp only [cput, if_true, Act.put, List.setIfInBounds_toArray, List.set_cons_zero, List.set_cons_succ] at hV ⊢
    clear d hr hl
    replace HB := Lib.hid (bthen HB.out hb)
    replace HBD := Lib.hid (BrdAt.grow HBD0.out hb)
    have HV := Lib.hid (show Var w' p x y from hV)
    clear hV hb hpl M0 M1 HW0 HBD0 c97
    generalize w' = w1 at *
    go_wp2_with (first
      | (go_at_call 41; refine (PI.out _ HBD.out).mono ?_; rintro e w2 ⟨rfl, hb⟩; replace HBD := Lib.hid (BrdAt.grow HBD.out hb); replace HB := Lib.hid (bthen HB.out hb); replace HV := Lib.hid (HV.out.grow hb); clear hb)
      | (go_at_call 42; refine (SQ.out _ (HT.out.grow HB.out) (Nat.lt_of_lt_of_le HGT.out HB.out.size)).mono ?_; rintro e w3 ⟨v, rfl, hv, hb⟩; obtain ⟨ao, cap, rfl, hp⟩ := hv.uni'; replace HBD := Lib.hid (BrdAt.grow HBD.out hb); replace HB := Lib.hid (bthen HB.out hb); replace HV := Lib.hid (HV.out.grow hb); clear hb))
    have HP := Lib.hid (show l.length ≠ 0 → ∃ g, ao = some ⟨g, 0, none⟩ ∧ g < w3.heap.size ∧ ∀ (j : Nat) (hj : j < l.length), w3.cell? ⟨g, j, none⟩ = some (.int .i64 l[j]) from fun h => by
      obtain ⟨g, e1, e2, e3, e4⟩ := hp h
      exact ⟨g, e1, e3, e4⟩)
    clear hp hv SQ PI KS MI1 MI2
    go_loopw [5, 32] (fun v i wr => ∃ k : Nat, k ≤ l.length ∧ i = .int .i64 k ∧ OwnG wr w3.heap.size v (outG z s onto (l.take k)) ∧ Below w3.heap.size w3 wr) (fun _ i _ => l.length - (intOf i).toNat)
    case atStart => exact ⟨0, Nat.zero_le _, rfl, by rw [List.take_zero]; exact World.ownsRow_nil _ _ _ _, bref _⟩
    case round =>
      obtain ⟨k, hk, rfl, hO, hW⟩ := hrel
      have hle : l.length ≤ 81 := HLE.out
      by_cases hlt : k < l.length
      · obtain ⟨g, rfl, hg, hcs⟩ := HP.out (by omega)
        have c0 : wr.cell? ⟨g, k, none⟩ = some (.int .i64 l[k]) := (hW.cell (p := ⟨g, k, none⟩) hg).trans (hcs k hlt)
        have hq := HIN.out l[k] (List.getElem_mem hlt)
        have AT := Lib.hid (fun W (h : Brd W b z) => at_brd b z l[k] HZ.out W h)
        rw [if_pos hq] at AT
        have hx := H8.out.at l[k].toNat
        have RA := Lib.hid (fun W => rayOf_any (at8 z l[k].toNat) l[k] tk hx.1 hx.2 HTS.out W)
        rw [HTL.out, HTH.out] at RA
        have AN := Lib.hid (fun W => and_any (rayN (at8 z l[k].toNat) l[k] tk) on (rayN_sq _ _ _) HOP.out W)
        rw [HX.out, HY.out] at AN
        have SQ2 := Lib.hid (fun W (t : Tab W) (h : 1 < W.heap.size) => squares_any (rayN (at8 z l[k].toNat) l[k] tk &&& on) (rayN_sq _ _ _).and W t h)
        have hinn : innL z s onto l[k] = sqI (rayN (at8 z l[k].toNat) l[k] tk &&& on) := by unfold innL; rw [HTK.out, HON.out]
        have hol := outG_len z s onto (l.take k)
        have hil : (innL z s onto l[k]).length ≤ 81 := sqI_le _
        rw [← hinn] at SQ2
        have htake : l.take (k + 1) = l.take k ++ [l[k]] := List.take_succ_eq_append_getElem hlt
        have hnext := outG_snoc z s onto (l.take k) l[k]
        rw [← htake] at hnext
        have HNX := Lib.hid hnext
        have ADk := Lib.hid (fun t B v L (hL : L.length ≤ 100000) W (h : OwnG W B v L) (hB : B ≤ W.heap.size) => gadd_any (at8 z l[k].toNat) l[k] t hx B v L hL W h hB)
        have HSN := Lib.hid (fun t m => innG_snoc z l[k] t m)
        have HIL := Lib.hid (fun m => innG_len z l[k] m)
        have HG := Lib.hid (show BrdAt wr b z (setAt z) from BrdAt.grow HBD.out hW)
        have HBW := Lib.hid (bthen HB.out hW)
        have HPV := HV.out.grow hW
        have HPC := Lib.hid (show wr.cell? ⟨p, 0, none⟩ = some (.int .u64 x) ∧ wr.cell? ⟨p, 1, none⟩ = some (.int .u64 y) from ⟨HPV.lo, HPV.hi⟩)
        have HPW := Lib.hid HPV.lt
        have HW := Lib.hid hW
        have HO := Lib.hid hO
        have hlk : (l.take k).length ≤ 81 := by rw [List.length_take]; omega
        clear hcs hq hx hinn htake hnext hW hO HPV
        generalize outG z s onto (l.take k) = L0 at *
        generalize innL z s onto l[k] = m at *
        generalize loW (rayN (at8 z l[k].toNat) l[k] tk) = rl at *
        generalize hiW (rayN (at8 z l[k].toNat) l[k] tk) = rh at *
        generalize loW (rayN (at8 z l[k].toNat) l[k] tk &&& on) = nl at *
        generalize hiW (rayN (at8 z l[k].toNat) l[k] tk &&& on) = nh at *
        generalize hpx : at8 z l[k].toNat = px at *
        clear hpx
        generalize l[k] = q at *
        go_upto_region 8 with (go_at_call 67; refine (AT.out _ HG.out).mono ?_; rintro e wx ⟨rfl, rfl⟩)
        refine wp_region_held_drew (S := fun W => Below wr.heap.size wr W ∧ BrdAt W b z (setAt z) ∧ W.cell? ⟨p, 0, none⟩ = some (.int .u64 x) ∧ W.cell? ⟨p, 1, none⟩ = some (.int .u64 y)) (by kernel_rfl) ?_ (fun hHeld => ?_)
        · exact ⟨(bref wr).drew, HG.out, HPC.out.1, HPC.out.2⟩
        refine wpAnyH_take (i := 0) (v := ?v1) rfl (by kernel_rfl) (by kernel_rfl) (by kernel_rfl) (fun _ _ _ h => h) (Or.inl ⟨by rfl, ?y1⟩) (by assumption) ?r1
        case y1 => (intro w hSw; (go_simp <;> first | with_reducible rfl | (rw [if_pos (by omega)] <;> with_reducible rfl)))
        try simp only [Act.put, List.getElem_toArray, List.getElem_cons_zero, List.getElem_cons_succ, List.setIfInBounds_toArray, List.set_cons_zero, List.set_cons_succ]
        refine wpAnyH_take (i := 1) (v := ?v2) rfl (by kernel_rfl) (by kernel_rfl) (by kernel_rfl) (fun _ _ _ h => h) (Or.inl ⟨by rfl, ?y2⟩) (by assumption) ?r2
        case y2 => (intro w hSw; (go_simp <;> first | with_reducible rfl | (rw [if_pos (by omega)] <;> with_reducible rfl)))
        try simp only [Act.put, List.getElem_toArray, List.getElem_cons_zero, List.getElem_cons_succ, List.setIfInBounds_toArray, List.set_cons_zero, List.set_cons_succ]
        refine wpAnyH_take (i := 2) (v := ?v3) rfl (by kernel_rfl) (by kernel_rfl) (by kernel_rfl) (fun _ _ _ h => h) (Or.inl ⟨by rfl, ?y3⟩) (by assumption) ?r3
        case y3 => (intro w hSw; (go_simp <;> first | with_reducible rfl | (rw [if_pos (by omega)] <;> with_reducible rfl)))
        try simp only [Act.put, List.getElem_toArray, List.getElem_cons_zero, List.getElem_cons_succ, List.setIfInBounds_toArray, List.set_cons_zero, List.set_cons_succ]
        refine wpAnyH_take (i := 5) (v := ?v4) rfl (by kernel_rfl) (by kernel_rfl) (by kernel_rfl) (fun _ _ _ h => h) (Or.inl ⟨by rfl, ?y4⟩) (by assumption) ?r4
        case y4 => (intro w hSw; have q0 := hSw.2.2.1; have q1 := hSw.2.2.2; (go_simp <;> first | with_reducible rfl | (rw [if_pos (by omega)] <;> with_reducible rfl)))
        try simp only [Act.put, List.getElem_toArray, List.getElem_cons_zero, List.getElem_cons_succ, List.setIfInBounds_toArray, List.set_cons_zero, List.set_cons_succ]
        refine wpAnyH_take (i := 9) (v := ?v5) rfl (by kernel_rfl) (by kernel_rfl) (by kernel_rfl) (fun _ _ _ h => h) (Or.inl ⟨by rfl, ?y5⟩) (by assumption) ?r5
        case y5 => (intro w hSw; (go_simp <;> first | with_reducible rfl | (rw [if_pos (by omega)] <;> with_reducible rfl)))
        try simp only [Act.put, List.getElem_toArray, List.getElem_cons_zero, List.getElem_cons_succ, List.setIfInBounds_toArray, List.set_cons_zero, List.set_cons_succ]
        refine wpAnyH_ready (rs := [3]) (by kernel_rfl) (by simp) ?_
        refine AllReadyH.cons rfl (fun K hK => ?_) AllReadyH.nil
        rw [if_pos (by rfl)]
        go_simp
        go_at_call 39
        refine (TA.out _ hHeld.2.1).mono ?_
        rintro e wn ⟨rfl, hb⟩
        refine hK.out _ _ (⟨bthen hHeld.1 hb, hHeld.2.1.grow hb, (hb.cell (p := ⟨p, 0, none⟩) (Nat.lt_of_lt_of_le HPW.out hHeld.1.size)).trans hHeld.2.2.1, (hb.cell (p := ⟨p, 1, none⟩) (Nat.lt_of_lt_of_le HPW.out hHeld.1.size)).trans hHeld.2.2.2⟩) (fun hHeld => ?_)
        clear hK K
        try simp only [Act.put, List.getElem_toArray, List.getElem_cons_zero, List.getElem_cons_succ, List.setIfInBounds_toArray, List.set_cons_zero, List.set_cons_succ]
        refine wpAnyH_ready (rs := [4]) (by kernel_rfl) (by simp) ?_
        refine AllReadyH.cons rfl (fun K hK => ?_) AllReadyH.nil
        rw [if_pos (by rfl)]
        go_simp
        go_at_call 62
        refine (RA.out _).mono ?_
        rintro e wn ⟨rfl, hb⟩
        refine hK.out _ _ (⟨bthen hHeld.1 hb, hHeld.2.1.grow hb, (hb.cell (p := ⟨p, 0, none⟩) (Nat.lt_of_lt_of_le HPW.out hHeld.1.size)).trans hHeld.2.2.1, (hb.cell (p := ⟨p, 1, none⟩) (Nat.lt_of_lt_of_le HPW.out hHeld.1.size)).trans hHeld.2.2.2⟩) (fun hHeld => ?_)
        clear hK K
        try simp only [Act.put, List.getElem_toArray, List.getElem_cons_zero, List.getElem_cons_succ, List.setIfInBounds_toArray, List.set_cons_zero, List.set_cons_succ]
        refine wpAnyH_ready (rs := [6]) (by kernel_rfl) (by simp) ?_
        refine AllReadyH.cons rfl (fun K hK => ?_) AllReadyH.nil
        rw [if_pos (by rfl)]
        go_simp
        go_at_call 38
        refine (AN.out _).mono ?_
        rintro e wn ⟨rfl, hb⟩
        refine hK.out _ _ (⟨bthen hHeld.1 hb, hHeld.2.1.grow hb, (hb.cell (p := ⟨p, 0, none⟩) (Nat.lt_of_lt_of_le HPW.out hHeld.1.size)).trans hHeld.2.2.1, (hb.cell (p := ⟨p, 1, none⟩) (Nat.lt_of_lt_of_le HPW.out hHeld.1.size)).trans hHeld.2.2.2⟩) (fun hHeld => ?_)
        clear hK K
        try simp only [Act.put, List.getElem_toArray, List.getElem_cons_zero, List.getElem_cons_succ, List.setIfInBounds_toArray, List.set_cons_zero, List.set_cons_succ]
        refine wpAnyH_ready (rs := [7]) (by kernel_rfl) (by simp) ?_
        refine AllReadyH.cons rfl (fun K hK => ?_) AllReadyH.nil
        rw [if_pos (by rfl)]
        have hsz := hHeld.1.size
        go_simp
        go_at_call 42
        refine (SQ2.out _ (HT.out.grow (bthen HBW.out hHeld.1)) (Nat.lt_of_lt_of_le HGT.out (bthen HBW.out hHeld.1).size)).mono ?_
        rintro e wn ⟨v2, rfl, hv2, hb⟩
        refine hK.out _ _ (⟨bthen hHeld.1 hb, hHeld.2.1.grow hb, (hb.cell (p := ⟨p, 0, none⟩) (Nat.lt_of_lt_of_le HPW.out hHeld.1.size)).trans hHeld.2.2.1, (hb.cell (p := ⟨p, 1, none⟩) (Nat.lt_of_lt_of_le HPW.out hHeld.1.size)).trans hHeld.2.2.2⟩) (fun hHeld => ?_)
        clear hK K
        obtain ⟨ao2, cap2, rfl, hp2⟩ := hv2.uni'
        clear hv2
        try simp only [Act.put, List.getElem_toArray, List.getElem_cons_zero, List.getElem_cons_succ, List.setIfInBounds_toArray, List.set_cons_zero, List.set_cons_succ]
        refine wpAnyH_take (i := 8) (v := ?v6) rfl (by kernel_rfl) (by kernel_rfl) (by kernel_rfl) (fun _ _ _ h => h) (Or.inl ⟨by rfl, ?y6⟩) (by assumption) ?r6
        case y6 => (intro w hSw; (go_simp <;> first | with_reducible rfl | (rw [if_pos (by omega)] <;> with_reducible rfl)))
        try simp only [Act.put, List.getElem_toArray, List.getElem_cons_zero, List.getElem_cons_succ, List.setIfInBounds_toArray, List.set_cons_zero, List.set_cons_succ]
        refine wpAnyH_done (by kernel_rfl) ?_ _
        have HR := Lib.hid (show m.length ≠ 0 → ∃ g2, ao2 = some ⟨g2, 0, none⟩ ∧ wr.heap.size ≤ g2 ∧ g2 < wn.heap.size ∧ ∀ (j : Nat) (hj : j < m.length), wn.cell? ⟨g2, j, none⟩ = some (.int .i64 m[j]) from fun h => by
          obtain ⟨g2, e1, e2, e3, e4⟩ := hp2 h
          exact ⟨g2, e1, Nat.le_trans hsz e2, e3, e4⟩)
        have hne : ∀ g2, wr.heap.size ≤ g2 → u5.ownBlock ≠ some g2 := fun g2 h1 h2 => by
          have := (HO.out.lt g2 h2).2
          omega
        have HNE := Lib.hid hne
        have HO2 := Lib.hid (HO.out.grow hHeld.1)
        have HWN := Lib.hid (HW.out.trans (hHeld.1.mono HW.out.size))
        have HGE := Lib.hid (show ∀ g2, u5.ownBlock = some g2 → w3.heap.size ≤ g2 from fun g2 h => (HO.out.lt g2 h).1)
        clear hp2 hsz hHeld hne HO HPC HPW HBW HG AT RA AN SQ2 hb
        generalize u5 = v5 at *
        generalize wr = wo at *
        generalize wn = wm at *
        go_wp2_with fail
        go_loopw [5, 48] (fun v2 i wi => ∃ j : Nat, j ≤ m.length ∧ i = .int .i64 j ∧ OwnG wi w3.heap.size v2 (L0 ++ innG z q (m.take j)) ∧ GrowG wm wi v5 v2) (fun _ i _ => m.length - (intOf i).toNat)
        case atStart => exact ⟨0, Nat.zero_le _, rfl, by rw [List.take_zero]; simpa [innG] using HO2.out, GrowG.of _ (bref _)⟩
        case round =>
          obtain ⟨j, hj, rfl, hOi, hGi⟩ := hrel
          by_cases hlt2 : j < m.length
          · obtain ⟨g2, rfl, hg2a, hg2b, hcs2⟩ := HR.out (by omega)
            have c1 : wr.cell? ⟨g2, j, none⟩ = some (.int .i64 m[j]) := (World.cell?_of_block (w := wm) (a := ⟨g2, j, none⟩) (hGi.block g2 hg2b (HNE.out g2 hg2a))).trans (hcs2 j hlt2)
            have hlen : (L0 ++ innG z q (m.take j)).length ≤ 100000 := by
              have h1 := HIL.out (m.take j)
              rw [List.length_take] at h1
              rw [List.length_append]
              omega
            have AD := Lib.hid (ADk.out m[j] w3.heap.size u5 (L0 ++ innG z q (m.take j)) hlen wr hOi (Nat.le_trans HWN.out.size hGi.g.size))
            have e1 := HSN.out m[j] (m.take j)
            rw [← List.take_succ_eq_append_getElem hlt2] at e1
            rw [List.append_assoc, ← e1] at AD
            have HGI := Lib.hid hGi
            clear hcs2 hlen e1 hOi hGi
            generalize m[j] = tq at *
            go_wp2_with (go_at_call 86; refine AD.out.mono ?_; rintro e wa ⟨v3, rfl, ho3, hg3⟩)
            go_roundw
            case rel => exact ⟨j + 1, by omega, by go_num, ho3, HGI.out.trans hg3⟩
            case measure => simp [intOf]; omega
          · obtain rfl : j = m.length := by omega
            rw [List.take_length, ← HNX.out] at hOi
            have hlk2 : Below w3.heap.size w3 wr := HWN.out.trans (hGi.below HWN.out.size HGE.out)
            clear hGi HR ADk
            go_wp2
            go_roundw
            case rel => exact ⟨k + 1, by omega, by go_num, hOi, hlk2⟩
            case measure => simp [intOf]; omega
      · obtain rfl : k = l.length := by omega
        go_wp2
        go_ret
        rw [List.take_length] at hO
        exact ⟨_, rfl, hO.mono HB.out.size, bthen HB.out hW⟩
end Go.Proofs.YtilhicohfnaclaaDoor
