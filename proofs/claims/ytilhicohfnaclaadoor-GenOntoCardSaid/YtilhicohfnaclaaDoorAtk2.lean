/-
  The attack package: Checkers, InCheck, All, Check.
-/
import Derived.Test.YtilhicohfnaclaaDoorAtk1
import Derived.Test.YtilhicohfnaclaaDoorChkAll
import Derived.Test.YtilhicohfnaclaaDoorListAll
namespace Go.Proofs.YtilhicohfnaclaaDoor
open Go.RowKit
set_option maxRecDepth 100000
set_option linter.unusedVariables false
set_option linter.unusedSimpArgs false

/-- Where the pieces stand that check a side's king. -/
def chkN (z : List Int) (s : Int) : Nat := onN z (kingF z s) (1 - s) (takenN z)
def inF (z : List Int) (s : Int) : Bool := !decide (chkN z s = 0)
theorem chkN_sq (z : List Int) (s : Int) : Sq (chkN z s) := onN_sq _ _ _ _
theorem wrap_other (s : Int) (hs : s = 0 ∨ s = 1) : wrap64 (1 - s) = 1 - s := by unfold wrap64; omega
set_option maxHeartbeats 1000000 in
theorem checkers_any (b : Nat) (z : List Int) (s : Int) (hs : s = 0 ∨ s = 1) (hz : z.length = 98) (w : World) (hb : Brd w b z) (hT : Tab w) :
    Calls Tryd.prog 31 #[.pointer (some ⟨b, 0, none⟩), .int .i64 s] w fun e w' => e = .returned (.agg #[.int .u64 (loW (chkN z s)), .int .u64 (hiW (chkN z s))]) ∧ Below w.heap.size w w' := by
  have KI := Lib.hid (fun W (h : Brd W b z) (t : Tab W) => king_brd b z s hz W h t)
  have OT := Lib.hid (fun W => other_any s W)
  rw [wrap_other s hs] at OT
  have TA := Lib.hid (fun W (h : Brd W b z) => taken_brd b z hz W h)
  have ON := Lib.hid (fun W (h : Brd W b z) => on_any b z (kingF z s) (1 - s) (takenN z) hz (takenN_sq z) W h)
  rw [show onN z (kingF z s) (1 - s) (takenN z) = chkN z s from rfl] at ON
  have HBD := Lib.hid (show Brd (w.alloc (.cells #[.int .u64 0, .int .u64 0] 32)) b z from BrdAt.grow hb (ball (bref w) _))
  have HT := Lib.hid (hT.grow (ball (bref w) (.cells #[.int .u64 0, .int .u64 0] 32)))
  have hz0 : (zeroValue 32).run Tryd.prog w = .ok (.agg #[.int .u64 0, .int .u64 0]) w := by kernel_rfl
  clear hb hT hs hz
  generalize kingF z s = k at KI ON
  generalize loW (takenN z) = tl at TA ON
  generalize hiW (takenN z) = th at TA ON
  generalize 1 - s = o at OT ON
  generalize loW (chkN z s) = x at ON ⊢
  generalize hiW (chkN z s) = y at ON ⊢
  go_enter Tryd.func31, Tryd.ntmps31
  go_wp2_with (first
    | (go_at_call 40; refine (KI.out _ HBD.out HT.out).mono ?_; rintro e w1 ⟨rfl, hb1⟩; have HBD := Lib.hid (BrdAt.grow HBD.out hb1); have V1 : Var w1 w.heap.size 0 0 := (Var.grow ⟨by simp, by go_simp, by go_simp, by go_simp, by go_simp⟩ hb1))
    | (go_at_call 64; refine (OT.out _).mono ?_; rintro e w2 ⟨rfl, rfl⟩)
    | (go_at_call 39; refine (TA.out _ HBD.out).mono ?_; rintro e w3 ⟨rfl, hb3⟩; have HBD := Lib.hid (BrdAt.grow HBD.out hb3); have V3 := V1.grow hb3)
    | (go_at_call 18; refine (ON.out _ HBD.out).mono ?_; rintro e w4 ⟨rfl, hb4⟩; have V4 := V3.grow hb4; have r0 := V4.lo; have r1 := V4.hi; have r2 := V4.f0; have r3 := V4.f1))
  exact bodyPost_ret (v := .agg #[.int .u64 x, .int .u64 y]) (by simp [results, Tryd.results31, go_sem, r0, r1]) rfl
    ⟨rfl, ((bthen (ball (bref w) _) (bthen hb1 (bthen hb3 hb4))).setCell (by simp) _).setCell (by simp) _⟩
theorem inCheck_any (b : Nat) (z : List Int) (s : Int) (hs : s = 0 ∨ s = 1) (hz : z.length = 98) (w : World) (hb : Brd w b z) (hT : Tab w) :
    Calls Tryd.prog 29 #[.pointer (some ⟨b, 0, none⟩), .int .i64 s] w fun e w' => e = .returned (.bool (inF z s)) ∧ Below w.heap.size w w' := by
  have CH := Lib.hid (checkers_any b z s hs hz w hb hT)
  have EM := Lib.hid (fun W => empty_any (chkN z s) W)
  unfold inF
  generalize decide (chkN z s = 0) = d at EM ⊢
  generalize loW (chkN z s) = x at CH EM
  generalize hiW (chkN z s) = y at CH EM
  clear hb hT hs hz
  go_enter Tryd.func29, Tryd.ntmps29
  go_wp2_with (first
    | (go_at_call 31; refine CH.out.mono ?_; rintro e w1 ⟨rfl, hb1⟩)
    | (go_at_call 20; refine (EM.out _).mono ?_; rintro e w2 ⟨rfl, hb2⟩))
  go_ret
  exact ⟨rfl, bthen hb1 hb2⟩

/-! All. -/
/-- What was there is as it was, but for one variable, that can be written. -/
structure HeldV (w W : World) (s : Nat) : Prop where
  but : But s w W
  lt : s < W.heap.size
  f0 : W.frozen? ⟨s, 0, none⟩ = false
  f1 : W.frozen? ⟨s, 1, none⟩ = false
theorem HeldV.step {w W W' : World} {s : Nat} (h : HeldV w W s) (hb : Below W.heap.size W W') : HeldV w W' s :=
  ⟨h.but.trans (But.of hb), Nat.lt_of_lt_of_le h.lt hb.size, (hb.frozen (p := ⟨s, 0, none⟩) h.lt).trans h.f0, (hb.frozen (p := ⟨s, 1, none⟩) h.lt).trans h.f1⟩
theorem HeldV.store {w W : World} {s : Nat} (h : HeldV w W s) (x y : Value) : HeldV w ((W.setCell ⟨s, 0, none⟩ x).setCell ⟨s, 1, none⟩ y) s :=
  ⟨(h.but.setCell _ rfl _).setCell _ rfl _, by simpa using h.lt, by simpa using h.f0, by simpa using h.f1⟩
theorem HeldV.drew {w W : World} {s : Nat} (h : HeldV w W s) : HeldV w W.drew s := h.step (bref W).drew
theorem Own.uni' {w : World} {B : Nat} {v : Value} {l : List Int} (h : Own w B v l) : ∃ ao cap, v = .slice ao l.length cap ∧ (l.length ≠ 0 → ∃ g, ao = some ⟨g, 0, none⟩ ∧ B ≤ g ∧ g < w.heap.size ∧ ∀ (j : Nat) (hj : j < l.length), w.cell? ⟨g, j, none⟩ = some (.int .i64 l[j])) := by
  rcases h.parts with ⟨rfl, rfl⟩ | ⟨g, cap, rfl, h1, h2, h3⟩
  · exact ⟨none, 0, rfl, fun h => absurd rfl h⟩
  · exact ⟨_, cap, rfl, fun _ => ⟨g, rfl, h1, h2, fun j hj => by have := h3 j hj; rwa [Nat.zero_add] at this⟩⟩
def sideP (z : List Int) (s : Int) : Nat := if s = 0 ∨ s = 1 then sideN z s else 0
theorem sideP_sq (z : List Int) (s : Int) : Sq (sideP z s) := by
  unfold sideP
  split
  · exact sideN_sq _ _
  · exact Sq.zero
theorem allN_eq (z : List Int) (s : Int) : allN z s = allPart z (takenN z) (sqI (sideP z s)) (sqI (sideP z s)).length := by
  unfold allN sideP
  by_cases hs : s = 0 ∨ s = 1
  · rw [if_pos hs, if_pos hs]
    rfl
  · rw [if_neg hs, if_neg hs, (sqI_nil 0 Sq.zero).2 rfl]
    rfl
theorem sqI_in (n : Nat) : ∀ x ∈ sqI n, 0 ≤ x ∧ x < 81 := by
  intro x hx
  have : ∃ i : Nat, x = i := by
    unfold sqI at hx
    obtain ⟨i, -, rfl⟩ := List.mem_map.1 hx
    exact ⟨i, rfl⟩
  obtain ⟨i, rfl⟩ := this
  have := ((mem_sqI n i).1 hx).1
  omega
set_option maxHeartbeats 4000000 in
theorem aAll_any (b : Nat) (z : List Int) (s : Int) (hz : z.length = 98) (h8 : I8s z) (w : World) (hb : Brd w b z) (hT : Tab w) :
    Calls Tryd.prog 24 #[.pointer (some ⟨b, 0, none⟩), .int .i64 s] w fun e w' => e = .returned (.agg #[.int .u64 (loW (allN z s)), .int .u64 (hiW (allN z s))]) ∧ Below w.heap.size w w' := by
  have PI := Lib.hid (fun W (h : Brd W b z) => pieces_brd b z s hz W h)
  rw [show (if s = 0 ∨ s = 1 then sideN z s else 0) = sideP z s from rfl] at PI
  have SQ := Lib.hid (fun W (t : Tab W) (h : 1 < W.heap.size) => squares_any (sideP z s) (sideP_sq z s) W t h)
  rw [allN_eq]
  have hin := sqI_in (sideP z s)
  have hle := sqI_le (sideP z s)
  have TA := Lib.hid (fun W (h : Brd W b z) => taken_brd b z hz W h)
  have hgt : 1 < w.heap.size := block_lt_of_cell (hT 0 (by omega))
  have HIN := Lib.hid hin
  have HLE := Lib.hid hle
  have HT := Lib.hid hT
  have HBD := Lib.hid hb
  have HZ := Lib.hid hz
  have H8 := Lib.hid h8
  have zb := hb.lt
  clear hin hle hT hb hz h8
  generalize sqI (sideP z s) = l at SQ HIN HLE ⊢
  generalize loW (sideP z s) = pl at PI SQ
  generalize hiW (sideP z s) = ph at PI SQ
  have HTS := Lib.hid (takenN_sq z)
  generalize htn : takenN z = n at TA HTS ⊢
  clear htn
  generalize htl : loW n = tl at TA
  generalize hth : hiW n = th at TA
  have HTL := Lib.hid htl
  have HTH := Lib.hid hth
  clear htl hth
  go_enter Tryd.func24, Tryd.ntmps24
  have hz0 : (zeroValue 32).run Tryd.prog w = .ok (.agg #[.int .u64 0, .int .u64 0]) w := by kernel_rfl
  have hb00 : Below w.heap.size w ((w.alloc (.cells #[.int .u64 0, .int .u64 0] 32)).alloc (.cells #[.int .u64 0, .int .u64 0] 32)) := ball (ball (bref w) _) _
  have HB00 := Lib.hid hb00
  clear hb00
  go_wp2_with (first
    | (go_at_call 41; refine (PI.out _ (HBD.out.grow HB00.out)).mono ?_; rintro e w1 ⟨rfl, hb1⟩; have V1 : Var w1 w.heap.size 0 0 := (Var.grow ⟨by simp; omega, by go_simp, by go_simp, by go_simp, by go_simp⟩ hb1); have V1' : Var w1 (w.heap.size + 1) 0 0 := (Var.grow ⟨by simp, by go_simp, by go_simp, by go_simp, by go_simp⟩ hb1); have s1 := hb1.size)
    | (go_at_call 42; refine (SQ.out _ (HT.out.grow (bthen HB00.out hb1)) (by simp at s1; omega)).mono ?_; rintro e w3 ⟨v, rfl, hv, hb3⟩; obtain ⟨ao, cap, rfl, hp⟩ := hv.uni'; have V3 := V1.grow hb3; have V3' := V1'.grow hb3))
  have HB3 := Lib.hid (show Brd w3 b z from BrdAt.grow HBD.out (bthen HB00.out (bthen hb1 hb3)))
  have HB0 := Lib.hid (bthen HB00.out (bthen hb1 hb3))
  have HNE := Lib.hid (show b ≠ w.heap.size + 1 by omega)
  have HP := Lib.hid (show l.length ≠ 0 → ∃ g, ao = some ⟨g, 0, none⟩ ∧ w.heap.size + 2 ≤ g ∧ g < w3.heap.size ∧ ∀ (j : Nat) (hj : j < l.length), w3.cell? ⟨g, j, none⟩ = some (.int .i64 l[j]) from fun h => by
    obtain ⟨g, e1, e2, e3, e4⟩ := hp h
    refine ⟨g, e1, ?_, e3, e4⟩
    simp at s1
    omega)
  have HV3 := Lib.hid V3
  have HV3' := Lib.hid V3'
  clear hb1 hb3 hv hp V1 V1' V3 V3' s1 PI SQ HT HB00 hgt
  go_loopw [13] (fun i wr => ∃ j : Nat, j ≤ l.length ∧ i = .int .i64 j ∧ HeldV w3 wr (w.heap.size + 1) ∧ (wr.cell? ⟨w.heap.size + 1, 0, none⟩ = some (.int .u64 (loW (allPart z n l j))) ∧ wr.cell? ⟨w.heap.size + 1, 1, none⟩ = some (.int .u64 (hiW (allPart z n l j))))) (fun i _ => l.length - (intOf i).toNat)
  case atStart =>
    refine ⟨0, Nat.zero_le _, rfl, ⟨But.refl _ _, HV3'.out.lt, HV3'.out.f0, HV3'.out.f1⟩, ?_⟩
    rw [allPart_zero, lo_zero, hi_zero]
    exact ⟨HV3'.out.lo, HV3'.out.hi⟩
  case round =>
    obtain ⟨j, hj, rfl, hH, hC⟩ := hrel
    have hle : l.length ≤ 81 := HLE.out
    by_cases hlt : j < l.length
    · obtain ⟨g, rfl, hg2, hg, hcs⟩ := HP.out (by omega)
      have c0 : wr.cell? ⟨g, j, none⟩ = some (.int .i64 l[j]) := (hH.but.cell (p := ⟨g, j, none⟩) hg (by show g ≠ w.heap.size + 1; omega)).trans (hcs j hlt)
      have hq := HIN.out l[j] (List.getElem_mem hlt)
      have AT := Lib.hid (fun W (h : Brd W b z) => stays (at_brd b z l[j] HZ.out W h))
      rw [if_pos hq] at AT
      have hx := H8.out.at l[j].toNat
      have RA := Lib.hid (fun W => rayOf_any (at8 z l[j].toNat) l[j] n hx.1 hx.2 HTS.out W)
      rw [HTL.out, HTH.out] at RA
      have OR := Lib.hid (fun W => or_any (allPart z n l j) (rayN (at8 z l[j].toNat) l[j] n) (allPart_sq _ _ _ _ hj) (rayN_sq _ _ _) W)
      rw [← allPart_step z n l j hlt] at OR
      clear hcs hx hq HP
      generalize loW (rayN (at8 z l[j].toNat) l[j] n) = rl at RA OR
      generalize hiW (rayN (at8 z l[j].toNat) l[j] n) = rh at RA OR
      generalize at8 z l[j].toNat = p at AT RA
      generalize l[j] = q at AT RA c0
      generalize loW (allPart z n l j) = x at OR hC
      generalize hiW (allPart z n l j) = y at OR hC
      generalize hx : loW (allPart z n l (j + 1)) = x2 at OR
      generalize hy : hiW (allPart z n l (j + 1)) = y2 at OR
      have HX := Lib.hid hx
      have HY := Lib.hid hy
      have H0 := Lib.hid hH.drew
      have HC := Lib.hid hC
      clear hx hy hH hC
      go_wp2_with fail
      refine wp_region_any (by kernel_rfl) ?_
      change wpAny _ _ _ _ _ _ _ (World.drew _)
      refine wpAny_inv3 (fun a0 => a0.eval (.tmp 0) = .pointer (some ⟨b, 0, none⟩) ∧ a0.eval (.tmp 5) = .pointer (some ⟨w.heap.size + 1, 0, none⟩) ∧ a0.eval (.tmp 7) = .int .i64 q ∧ 27 < a0.tmps.size) ⟨rfl, rfl, rfl, of_decide_eq_true rfl⟩
        (fun a0 ls a w' => ls.size = 10 ∧ HeldV w3 w' (w.heap.size + 1) ∧ (ls.getD 9 false = false → w'.cell? ⟨(w.heap.size + 1), 0, none⟩ = some (.int .u64 x) ∧ w'.cell? ⟨(w.heap.size + 1), 1, none⟩ = some (.int .u64 y)) ∧ (ls.getD 9 false = true → w'.cell? ⟨(w.heap.size + 1), 0, none⟩ = some (.int .u64 x2) ∧ w'.cell? ⟨(w.heap.size + 1), 1, none⟩ = some (.int .u64 y2)) ∧ (ls.getD 9 false = true → ls.getD 0 false = true) ∧ a = cput (ls.getD 8 false) 25 (.agg #[.int .u64 x2, .int .u64 y2]) (cput (ls.getD 7 false) 24 (.agg #[.int .u64 rl, .int .u64 rh]) (cput (ls.getD 6 false) 23 (.agg #[.int .u64 tl, .int .u64 th]) (cput (ls.getD 5 false) 22 (.pointer (some ⟨b, 0, none⟩)) (cput (ls.getD 4 false) 21 (.int .i64 q) (cput (ls.getD 3 false) 20 (.int .i8 p) (cput (ls.getD 2 false) 19 (.int .i64 q) (cput (ls.getD 1 false) 18 (.pointer (some ⟨b, 0, none⟩)) (cput (ls.getD 0 false) 17 (.agg #[.int .u64 x, .int .u64 y]) (a0)))))))))) ?step ?fin ?start (by decide)
      case start => exact ⟨rfl, H0.out, fun _ => ⟨HC.out.1, HC.out.2⟩, (fun h => nomatch h), (fun h => nomatch h), rfl⟩
      case step =>
        rintro a0 ⟨e0, e5, e7, esz⟩ ls a w' ⟨hl, hH, hS, hD, h80, ha⟩ i o ho hu hw
        have hu' := undone hu
        rcases i with _ | _ | _ | _ | _ | _ | _ | _ | _ | _ | i
        · have ho' : some _ = some o := ho
          cases ho'
          have E5 : a.eval (.tmp 5) = .pointer (some ⟨w.heap.size + 1, 0, none⟩) := by rw [ha]; simp [eval_cput_ne, e5]
          have l8 : ls.getD 9 false = false := by
            cases h : ls.getD 9 false
            · rfl
            · rw [h80 h] at hu'; cases hu'
          have hS' := hS l8
          refine wpOp_step ho (fun K hK => ?_)
          rw [if_pos (by rfl)]
          refine wp_load_mid _ _ rfl ((w.heap.size + 1)) 0 E5 [.int .u64 x, .int .u64 y] _ (range2 hS'.1 hS'.2) Tryd.underlying32 rfl infoSet2 ?_
          exact hK _ _ ⟨by simp [hl], hH, by simpa [getF, hl] using hS, by simpa [getF, hl] using hD, by simp [getF, hl], by rw [ha]; simp [cput_put, getF, hl, hu', cput_at]⟩
        · have ho' : some _ = some o := ho
          cases ho'
          have E0 : a.eval (.tmp 0) = .pointer (some ⟨b, 0, none⟩) := by rw [ha]; simp [eval_cput_ne, e0]
          refine wpOp_step ho (fun K hK => ?_)
          rw [if_pos (by rfl)]
          refine wp_valueK (w' := w') (.pointer (some ⟨b, 0, none⟩)) ?_ (hK _ _ ⟨by simp [hl], hH, by simpa [getF, hl] using hS, by simpa [getF, hl] using hD, by simpa [getF, hl] using h80, by rw [ha]; simp [cput_put, getF, hl, hu', cput_at]⟩)
          clear ha
          exact congrArg (fun v => Result.ok (Next.value v) w') E0
        · have ho' : some _ = some o := ho
          cases ho'
          have E7 : a.eval (.tmp 7) = .int .i64 q := by rw [ha]; simp [eval_cput_ne, e7]
          refine wpOp_step ho (fun K hK => ?_)
          rw [if_pos (by rfl)]
          refine wp_valueK (w' := w') (.int .i64 q) ?_ (hK _ _ ⟨by simp [hl], hH, by simpa [getF, hl] using hS, by simpa [getF, hl] using hD, by simpa [getF, hl] using h80, by rw [ha]; simp [cput_put, getF, hl, hu', cput_at]⟩)
          clear ha
          exact congrArg (fun v => Result.ok (Next.value v) w') E7
        · have ho' : some _ = some o := ho
          cases ho'
          have d18 : ls.getD 1 false = true := hw ⟨1, .data⟩ (by simp) rfl
          have z18 : 18 < a0.tmps.size := by omega
          have E18 : a.eval (.tmp 18) = .pointer (some ⟨b, 0, none⟩) := by rw [ha]; simp [eval_cput_ne, d18, eval_cput_at, size_cput, z18]
          have d19 : ls.getD 2 false = true := hw ⟨2, .data⟩ (by simp) rfl
          have z19 : 19 < a0.tmps.size := by omega
          have E19 : a.eval (.tmp 19) = .int .i64 q := by rw [ha]; simp [eval_cput_ne, d19, eval_cput_at, size_cput, z19]
          refine wpOp_step ho (fun K hK => ?_)
          rw [if_pos (by rfl)]
          refine wp_callK 67 #[a.eval (.tmp 18), a.eval (.tmp 19)] ?_ ?_
          · clear ha E18 E19
            go_simp
          · rw [E18, E19]
            refine (AT.out _ (HB3.out.but hH.but HNE.out)).mono ?_
            rintro e w2 ⟨rfl, hb2⟩
            refine ⟨_, rfl, hK _ _ ⟨by simp [hl], hH.step hb2, by simpa [getF, hl] using (fun h => cells2_grow hH.lt hb2 (hS h)), by simpa [getF, hl] using (fun h => cells2_grow hH.lt hb2 (hD h)), by simpa [getF, hl] using h80, by rw [ha]; simp [cput_put, getF, hl, hu', cput_at]⟩⟩
        · have ho' : some _ = some o := ho
          cases ho'
          have E7 : a.eval (.tmp 7) = .int .i64 q := by rw [ha]; simp [eval_cput_ne, e7]
          refine wpOp_step ho (fun K hK => ?_)
          rw [if_pos (by rfl)]
          refine wp_valueK (w' := w') (.int .i64 q) ?_ (hK _ _ ⟨by simp [hl], hH, by simpa [getF, hl] using hS, by simpa [getF, hl] using hD, by simpa [getF, hl] using h80, by rw [ha]; simp [cput_put, getF, hl, hu', cput_at]⟩)
          clear ha
          exact congrArg (fun v => Result.ok (Next.value v) w') E7
        · have ho' : some _ = some o := ho
          cases ho'
          have E0 : a.eval (.tmp 0) = .pointer (some ⟨b, 0, none⟩) := by rw [ha]; simp [eval_cput_ne, e0]
          refine wpOp_step ho (fun K hK => ?_)
          rw [if_pos (by rfl)]
          refine wp_valueK (w' := w') (.pointer (some ⟨b, 0, none⟩)) ?_ (hK _ _ ⟨by simp [hl], hH, by simpa [getF, hl] using hS, by simpa [getF, hl] using hD, by simpa [getF, hl] using h80, by rw [ha]; simp [cput_put, getF, hl, hu', cput_at]⟩)
          clear ha
          exact congrArg (fun v => Result.ok (Next.value v) w') E0
        · have ho' : some _ = some o := ho
          cases ho'
          have d22 : ls.getD 5 false = true := hw ⟨5, .data⟩ (by simp) rfl
          have z22 : 22 < a0.tmps.size := by omega
          have E22 : a.eval (.tmp 22) = .pointer (some ⟨b, 0, none⟩) := by rw [ha]; simp [eval_cput_ne, d22, eval_cput_at, size_cput, z22]
          refine wpOp_step ho (fun K hK => ?_)
          rw [if_pos (by rfl)]
          refine wp_callK 39 #[a.eval (.tmp 22)] ?_ ?_
          · clear ha E22
            go_simp
          · rw [E22]
            refine (TA.out _ (HB3.out.but hH.but HNE.out)).mono ?_
            rintro e w2 ⟨rfl, hb2⟩
            refine ⟨_, rfl, hK _ _ ⟨by simp [hl], hH.step hb2, by simpa [getF, hl] using (fun h => cells2_grow hH.lt hb2 (hS h)), by simpa [getF, hl] using (fun h => cells2_grow hH.lt hb2 (hD h)), by simpa [getF, hl] using h80, by rw [ha]; simp [cput_put, getF, hl, hu', cput_at]⟩⟩
        · have ho' : some _ = some o := ho
          cases ho'
          have d20 : ls.getD 3 false = true := hw ⟨3, .data⟩ (by simp) rfl
          have z20 : 20 < a0.tmps.size := by omega
          have E20 : a.eval (.tmp 20) = .int .i8 p := by rw [ha]; simp [eval_cput_ne, d20, eval_cput_at, size_cput, z20]
          have d21 : ls.getD 4 false = true := hw ⟨4, .data⟩ (by simp) rfl
          have z21 : 21 < a0.tmps.size := by omega
          have E21 : a.eval (.tmp 21) = .int .i64 q := by rw [ha]; simp [eval_cput_ne, d21, eval_cput_at, size_cput, z21]
          have d23 : ls.getD 6 false = true := hw ⟨6, .data⟩ (by simp) rfl
          have z23 : 23 < a0.tmps.size := by omega
          have E23 : a.eval (.tmp 23) = .agg #[.int .u64 tl, .int .u64 th] := by rw [ha]; simp [eval_cput_ne, d23, eval_cput_at, size_cput, z23]
          refine wpOp_step ho (fun K hK => ?_)
          rw [if_pos (by rfl)]
          refine wp_callK 62 #[a.eval (.tmp 20), a.eval (.tmp 21), a.eval (.tmp 23)] ?_ ?_
          · clear ha E20 E21 E23
            go_simp
          · rw [E20, E21, E23]
            refine (RA.out _).mono ?_
            rintro e w2 ⟨rfl, hb2⟩
            refine ⟨_, rfl, hK _ _ ⟨by simp [hl], hH.step hb2, by simpa [getF, hl] using (fun h => cells2_grow hH.lt hb2 (hS h)), by simpa [getF, hl] using (fun h => cells2_grow hH.lt hb2 (hD h)), by simpa [getF, hl] using h80, by rw [ha]; simp [cput_put, getF, hl, hu', cput_at]⟩⟩
        · have ho' : some _ = some o := ho
          cases ho'
          have d17 : ls.getD 0 false = true := hw ⟨0, .data⟩ (by simp) rfl
          have z17 : 17 < a0.tmps.size := by omega
          have E17 : a.eval (.tmp 17) = .agg #[.int .u64 x, .int .u64 y] := by rw [ha]; simp [eval_cput_ne, d17, eval_cput_at, size_cput, z17]
          have d24 : ls.getD 7 false = true := hw ⟨7, .data⟩ (by simp) rfl
          have z24 : 24 < a0.tmps.size := by omega
          have E24 : a.eval (.tmp 24) = .agg #[.int .u64 rl, .int .u64 rh] := by rw [ha]; simp [eval_cput_ne, d24, eval_cput_at, size_cput, z24]
          refine wpOp_step ho (fun K hK => ?_)
          rw [if_pos (by rfl)]
          refine wp_callK 61 #[a.eval (.tmp 17), a.eval (.tmp 24)] ?_ ?_
          · clear ha E17 E24
            go_simp
          · rw [E17, E24]
            refine (OR.out _).mono ?_
            rintro e w2 ⟨rfl, hb2⟩
            refine ⟨_, rfl, hK _ _ ⟨by simp [hl], hH.step hb2, by simpa [getF, hl] using (fun h => cells2_grow hH.lt hb2 (hS h)), by simpa [getF, hl] using (fun h => cells2_grow hH.lt hb2 (hD h)), by simpa [getF, hl] using h80, by rw [ha]; simp [cput_put, getF, hl, hu', cput_at]⟩⟩
        · have ho' : some _ = some o := ho
          cases ho'
          have E5 : a.eval (.tmp 5) = .pointer (some ⟨w.heap.size + 1, 0, none⟩) := by rw [ha]; simp [eval_cput_ne, e5]
          have d25 : ls.getD 8 false = true := hw ⟨8, .data⟩ (by simp) rfl
          have z25 : 25 < a0.tmps.size := by omega
          have E25 : a.eval (.tmp 25) = .agg #[.int .u64 x2, .int .u64 y2] := by rw [ha]; simp [eval_cput_ne, d25, eval_cput_at, size_cput, z25]
          refine wpOp_step ho (fun K hK => ?_)
          rw [if_pos (by rfl)]
          have hS' := hS hu'
          refine wp_store_mid _ _ _ rfl ((w.heap.size + 1)) 0 #[.int .u64 x2, .int .u64 y2] E5 E25 (there2 hS'.1 hS'.2 hH.f0 hH.f1) infoSet2 (by simp [Value.oneCell']) ?_
          have gg : ∀ j, j ≠ 9 → (ls.setIfInBounds 9 true).getD j false = ls.getD j false := fun j hj => (getF (by omega : 9 < ls.size)).trans (if_neg (Ne.symm hj))
          have gs : (ls.setIfInBounds 9 true).getD 9 false = true := (getF (by omega : 9 < ls.size)).trans (if_pos rfl)
          have q0 := hS'.1
          have q1 := hS'.2
          refine hK _ _ ⟨by simp [hl], hH.store _ _, (fun h => by rw [gs] at h; cases h), (fun _ => stored2 q0 q1 _ _), (fun _ => by rw [gg 0 (by decide)]; exact hw ⟨0, .phase⟩ (by simp) rfl), ?_⟩
          rw [gg 8 (by decide), gg 7 (by decide), gg 6 (by decide), gg 5 (by decide), gg 4 (by decide), gg 3 (by decide), gg 2 (by decide), gg 1 (by decide), gg 0 (by decide), ha]
          rfl
        · cases ho
      case fin =>
        rintro ls a w' ⟨hl, hH, -, hD, -, ha⟩ hr
        have d : ∀ i, i < 10 → ls.getD i false = true := all_doneB hr (by kernel_rfl) (by rw [hl]; rfl)
        obtain ⟨n0, n1⟩ := hD (d 9 (by decide))
        rw [d 8 (by decide), d 7 (by decide), d 6 (by decide), d 5 (by decide), d 4 (by decide), d 3 (by decide), d 2 (by decide), d 1 (by decide), d 0 (by decide)] at ha
        subst ha
        simp only [cput, if_true, Act.put, List.setIfInBounds_toArray, List.set_cons_zero, List.set_cons_succ]
        clear d hD hr hl
        go_wp2
        go_roundw
        case rel =>
          refine ⟨j + 1, by omega, by go_num, hH, ?_⟩
          rw [HX.out, HY.out]
          exact ⟨n0, n1⟩
        case measure => simp [intOf]; omega
    · obtain rfl : j = l.length := by omega
      have R := HV3.out
      have r0 := (hH.but.cell (p := ⟨w.heap.size, 0, none⟩) R.lt (by simp)).trans R.lo
      have r1 := (hH.but.cell (p := ⟨w.heap.size, 1, none⟩) R.lt (by simp)).trans R.hi
      have r2 := (hH.but.frozen (p := ⟨w.heap.size, 0, none⟩) R.lt (by simp)).trans R.f0
      have r3 := (hH.but.frozen (p := ⟨w.heap.size, 1, none⟩) R.lt (by simp)).trans R.f1
      obtain ⟨l0, l1⟩ := hC
      have HB := Lib.hid (HB0.out.trans (hH.but.below (by omega) (HB0.out.size)))
      clear hH HP R
      generalize hx : loW (allPart z n l l.length) = x at l0
      generalize hy : hiW (allPart z n l l.length) = y at l1
      have HX := Lib.hid hx
      have HY := Lib.hid hy
      clear hx hy
      go_wp2
      rw [HX.out, HY.out]
      exact bodyPost_ret (v := .agg #[.int .u64 x, .int .u64 y]) (by simp [results, Tryd.results24, go_sem, r0, r1]) rfl
        ⟨rfl, (HB.out.setCell (by simp) _).setCell (by simp) _⟩

/-! Check. -/
/-- The number of a position's error, with who is in check. -/
def check8F (z : List Int) : Int := if checkF z ≠ 0 then checkF z else if inF (newZ z) (1 - at8 z 97) = true then 54 else 0
theorem chk8_side (z : List Int) (h : checkF z = 0) : at8 z 97 = 0 ∨ at8 z 97 = 1 := by
  apply Classical.byContradiction
  intro hn
  unfold checkF chkF at h
  rw [if_pos hn] at h
  cases h
set_option maxHeartbeats 4000000 in
theorem aCheck_any (z : List Int) (hz : z.length = 98) (h8 : I8s z) (w : World) (hT : Tab w) :
    Calls Tryd.prog 27 #[.agg (posC z).toArray] w fun e w' => e = .returned (.int .i64 (check8F z)) ∧ Below w.heap.size w w' := by
  have CK := Lib.hid (fun W => check_any z hz h8 W)
  have HP := Lib.hid (PosAt.new w z)
  have HINF := Lib.hid (show (Tryd.prog.info? 28).map (·.size) = some (posC z).length by rw [posC_len, hz]; exact infoPos)
  have HT := Lib.hid hT
  clear hT
  by_cases hc : checkF z = 0
  · have e8 : check8F z = if inF (newZ z) (1 - at8 z 97) = true then 54 else 0 := if_neg (fun h => h hc)
    rw [e8]
    rw [hc] at CK
    have hs := chk8_side z hc
    have NE := Lib.hid (fun W => new_brd z hz h8 W)
    have OT := Lib.hid (fun W => other_any (at8 z 97) W)
    rw [wrap_other _ hs] at OT
    have IC := Lib.hid (fun g W (h : Brd W g (newZ z)) (t : Tab W) => inCheck_any g (newZ z) (1 - at8 z 97) (by omega) (newZ_len z hz) W h t)
    have HWX := Lib.hid (show wrap64 (at8 z 97) = at8 z 97 by unfold wrap64; omega)
    have HWI := Lib.hid (show IntKind.i64.wrap (at8 z 97) = at8 z 97 by rw [wrap_i64_eq]; exact HWX.out)
    clear hc e8 h8 hs
    generalize inF (newZ z) (1 - at8 z 97) = r at IC ⊢
    generalize newZ z = nzz at NE IC
    generalize 1 - at8 z 97 = o at OT IC
    generalize s97 : at8 z 97 = s at OT HWX HWI
    go_enter Tryd.func27, Tryd.ntmps27
    go_wp2_with (first
      | (refine wpList_load_mid rfl 28 _ rfl w.heap.size 0 rfl (posC z) _ HP.out.range Tryd.underlying28 rfl HINF.out ?_)
      | (go_at_call 69; refine (CK.out _).mono ?_; rintro e w1 ⟨rfl, hb0⟩; have HP := Lib.hid (HP.out.grow hb0)))
    refine wp_region_held_drew (S := fun w' => Below w1.heap.size w1 w' ∧ PosAt w' w.heap.size z) (by kernel_rfl) ?_ (fun hHeld => ?_)
    · exact ⟨(bref w1).drew, HP.out.drew⟩
    refine wpAnyH_take (i := 0) rfl (by kernel_rfl) (by kernel_rfl) (by kernel_rfl) (fun _ _ _ h => h) (yieldsIf_load_mid (by rfl) _ _ rfl _ _ rfl (posC z) _ (fun w h => h.2.range) (Tryd.underlying28) rfl (HINF.out)) (by assumption) ?_
    try simp only [Act.put, List.getElem_toArray, List.getElem_cons_zero, List.getElem_cons_succ, List.setIfInBounds_toArray, List.set_cons_zero, List.set_cons_succ]
    refine wpAnyH_take (i := 2) (v := ?v1) rfl (by kernel_rfl) (by kernel_rfl) (by kernel_rfl) (fun _ _ _ h => h) (Or.inl ⟨by rfl, ?y1⟩) (by assumption) ?r1
    case y1 => (intro w hSw; (go_simp <;> first | with_reducible rfl | (rw [if_pos (by omega)] <;> with_reducible rfl)))
    try simp only [Act.put, List.getElem_toArray, List.getElem_cons_zero, List.getElem_cons_succ, List.setIfInBounds_toArray, List.set_cons_zero, List.set_cons_succ]
    refine wpAnyH_take (i := 3) (v := ?v2) rfl (by kernel_rfl) (by kernel_rfl) (by kernel_rfl) (fun _ _ _ h => h) (Or.inl ⟨by rfl, ?y2⟩) (by assumption) ?r2
    case y2 => (intro w hSw; have c97 := hSw.2.cell 97 (by omega); rw [s97] at c97; (go_simp <;> first | with_reducible rfl | (rw [if_pos (by omega)] <;> with_reducible rfl)))
    try simp only [Act.put, List.getElem_toArray, List.getElem_cons_zero, List.getElem_cons_succ, List.setIfInBounds_toArray, List.set_cons_zero, List.set_cons_succ]
    refine wpAnyH_take (i := 4) (v := ?v3) rfl (by kernel_rfl) (by kernel_rfl) (by kernel_rfl) (fun _ _ _ h => h) (Or.inl ⟨by rfl, ?y3⟩) (by assumption) ?r3
    case y3 => (intro w hSw; have hwx := HWX.out; have hwi := HWI.out; (go_simp <;> first | with_reducible rfl | (rw [if_pos (by omega)] <;> with_reducible rfl)))
    try simp only [Act.put, List.getElem_toArray, List.getElem_cons_zero, List.getElem_cons_succ, List.setIfInBounds_toArray, List.set_cons_zero, List.set_cons_succ]
    refine wpAnyH_ready (rs := [1]) (by kernel_rfl) (by simp) ?_
    refine AllReadyH.cons rfl (fun K hK => ?_) AllReadyH.nil
    rw [if_pos (by rfl)]
    go_simp
    go_at_call 19
    refine (NE.out _).mono ?_
    rintro e wn ⟨g, rfl, hg, hbd, hb⟩
    refine hK.out _ _ (⟨bthen hHeld.1 hb, hHeld.2.grow hb⟩) (fun hHeld => ?_)
    clear hK K
    try simp only [Act.put, List.getElem_toArray, List.getElem_cons_zero, List.getElem_cons_succ, List.setIfInBounds_toArray, List.set_cons_zero, List.set_cons_succ]
    refine wpAnyH_ready (rs := [5]) (by kernel_rfl) (by simp) ?_
    refine AllReadyH.cons rfl (fun K hK => ?_) AllReadyH.nil
    rw [if_pos (by rfl)]
    go_simp
    go_at_call 64
    refine (OT.out _).mono ?_
    rintro e wo ⟨rfl, rfl⟩
    refine hK.out _ _ (hHeld) (fun hHeld => ?_)
    clear hK K
    try simp only [Act.put, List.getElem_toArray, List.getElem_cons_zero, List.getElem_cons_succ, List.setIfInBounds_toArray, List.set_cons_zero, List.set_cons_succ]
    refine wpAnyH_ready (rs := [6]) (by kernel_rfl) (by simp) ?_
    refine AllReadyH.cons rfl (fun K hK => ?_) AllReadyH.nil
    rw [if_pos (by rfl)]
    go_simp
    go_at_call 29
    refine (IC.out g _ hbd (HT.out.grow (bthen (ball (bref w) _) (bthen hb0 hHeld.1)))).mono ?_
    rintro e wi ⟨rfl, hbi⟩
    refine hK.out _ _ (⟨bthen hHeld.1 hbi, hHeld.2.grow hbi⟩) (fun hHeld => ?_)
    clear hK K
    try simp only [Act.put, List.getElem_toArray, List.getElem_cons_zero, List.getElem_cons_succ, List.setIfInBounds_toArray, List.set_cons_zero, List.set_cons_succ]
    refine wpAnyH_done (by kernel_rfl) ?_ _
    have HB := Lib.hid (bthen (ball (bref w) (.cells (posC z).toArray 28)) (bthen hb0 hHeld.1))
    clear hHeld hbi hb hb0
    cases r with
    | true =>
      go_wp2
      go_ret
      exact ⟨rfl, HB.out⟩
    | false =>
      go_wp2
      go_ret
      exact ⟨rfl, HB.out⟩
  · have e8 : check8F z = checkF z := if_pos hc
    rw [e8]
    have hb : (checkF z != 0) = true := by simpa using hc
    clear e8 hz h8 hc
    generalize checkF z = c at CK hb ⊢
    go_enter Tryd.func27, Tryd.ntmps27
    go_wp2_with (first
      | (refine wpList_load_mid rfl 28 _ rfl w.heap.size 0 rfl (posC z) _ HP.out.range Tryd.underlying28 rfl HINF.out ?_)
      | (go_at_call 69; refine (CK.out _).mono ?_; rintro e w1 ⟨rfl, hb0⟩))
    go_ret
    exact ⟨rfl, bthen (ball (bref w) _) hb0⟩
end Go.Proofs.YtilhicohfnaclaaDoor
