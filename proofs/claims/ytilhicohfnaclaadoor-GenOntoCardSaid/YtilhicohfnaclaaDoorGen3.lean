/-
  gen's dead, files and Free: where a side may drop a kind.
-/
import Derived.Test.YtilhicohfnaclaaDoorGen1
import Derived.Test.YtilhicohfnaclaaDoorAtk2
namespace Go.Proofs.YtilhicohfnaclaaDoor
open Go.RowKit
set_option maxRecDepth 100000
set_option linter.unusedVariables false
set_option linter.unusedSimpArgs false

/-- The squares below k from which a piece could never move. -/
def deadP (x : Int) (k : Nat) : Nat := ofN (((List.range k).filter (fun (q : Nat) => deadF x q)).map (fun (q : Nat) => (q : Int)))
def deadN (x : Int) : Nat := deadP x 81
theorem deadP_sq (x : Int) (k : Nat) : Sq (deadP x k) := ofN_sq _
theorem deadP_step (x : Int) (k : Nat) : deadP x (k + 1) = if deadF x k = true then deadP x k ||| oneN k else deadP x k := by
  unfold deadP
  rw [List.range_succ, List.filter_append, List.map_append]
  by_cases h : deadF x k = true
  · rw [if_pos h, show List.filter (fun (q : Nat) => deadF x q) [k] = [k] by simp [h], List.map_cons, List.map_nil, ofN_snoc]
  · rw [if_neg h, show List.filter (fun (q : Nat) => deadF x q) [k] = [] by simp [h]]
    simp
theorem dead_test (x : Int) (q : Nat) (hq : q < 81) : (deadN x).testBit q = deadF x q := by
  unfold deadN deadP
  rw [ofN_test, Bool.eq_iff_iff, decide_eq_true_eq, List.mem_map]
  constructor
  · rintro ⟨⟨i, hi, e⟩, -⟩
    obtain rfl : i = q := by omega
    exact (List.mem_filter.1 hi).2
  · exact fun h => ⟨⟨q, List.mem_filter.2 ⟨List.mem_range.2 hq, h⟩, rfl⟩, hq⟩
set_option maxHeartbeats 1000000 in
theorem gdead_any (x : Int) (hx : -128 ≤ x ∧ x ≤ 127) (w : World) :
    Calls Tryd.prog 94 #[.int .i8 x] w fun e w' => e = .returned (.agg #[.int .u64 (loW (deadN x)), .int .u64 (hiW (deadN x))]) ∧ Below w.heap.size w w' := by
  have hz0 : ∀ W : World, (zeroValue 32).run Tryd.prog W = .ok (.agg #[.int .u64 0, .int .u64 0]) W := fun W => by kernel_rfl
  unfold deadN
  go_enter Tryd.func94, Tryd.ntmps94
  go_wp2
  clear hz0
  go_loopw [5] (fun i wr => ∃ k : Nat, k ≤ 81 ∧ i = .int .i64 k ∧ Below w.heap.size w wr ∧ Var wr w.heap.size 0 0 ∧ Var wr (w.heap.size + 1) (loW (deadP x k)) (hiW (deadP x k))) (fun i _ => 81 - (intOf i).toNat)
  case atStart =>
    refine ⟨0, by omega, rfl, ball (ball (bref _) _) _, ⟨by simp; omega, by go_simp, by go_simp, by go_simp, by go_simp⟩, ?_⟩
    rw [show deadP x 0 = 0 from rfl, lo_zero, hi_zero]
    exact ⟨by simp, by go_simp, by go_simp, by go_simp, by go_simp⟩
  case round =>
    obtain ⟨k, hk, rfl, hB, hR, hV⟩ := hrel
    have HB := Lib.hid hB
    have HR := Lib.hid hR
    have HV := Lib.hid hV
    by_cases hlt : k < 81
    · have DE := Lib.hid (fun W => dead_any x k hx W)
      have hst := deadP_step x k
      cases hd : deadF x k with
      | true =>
        rw [hd] at DE
        rw [if_pos hd] at hst
        have WI := Lib.hid (fun W => with_any (deadP x k) k (deadP_sq _ _) W)
        rw [← hst] at WI
        clear hB hR hV hst hd
        generalize loW (deadP x k) = a at *
        generalize hiW (deadP x k) = b at *
        generalize hx2 : loW (deadP x (k + 1)) = x2 at *
        generalize hy2 : hiW (deadP x (k + 1)) = y2 at *
        have HX := Lib.hid hx2
        have HY := Lib.hid hy2
        clear hx2 hy2
        go_wp2_with (first
          | (go_at_call 90; refine (DE.out _).mono ?_; rintro e w1 ⟨rfl, hb1⟩; have V1 := HV.out.grow hb1; have l0 := V1.lo; have l1 := V1.hi)
          | (go_at_call 65; refine (WI.out _).mono ?_; rintro e w2 ⟨rfl, hb2⟩; have V2 := V1.grow hb2; clear l0 l1; have l0 := V2.lo; have l1 := V2.hi; have l2 := V2.f0; have l3 := V2.f1; have l4 := V2.lt))
        have hb3 : Below wr.heap.size wr w2 := bthen hb1 hb2
        go_roundw
        case rel =>
          refine ⟨k + 1, by omega, by go_num, ((bthen HB.out hb3).setCell (by simp) _).setCell (by simp) _, (HR.out.grow hb3).other (by omega) _ _, ?_⟩
          rw [HX.out, HY.out]
          exact V2.put _ _
        case measure => simp [intOf]; omega
      | false =>
        rw [hd] at DE
        rw [if_neg (by rw [hd]; decide)] at hst
        have HST := Lib.hid hst
        clear hB hR hV hst hd
        go_wp2_with (go_at_call 90; refine (DE.out _).mono ?_; rintro e w1 ⟨rfl, hb1⟩)
        go_roundw
        case rel => exact ⟨k + 1, by omega, by go_num, bthen HB.out hb1, HR.out.grow hb1, by rw [HST.out]; exact HV.out.grow hb1⟩
        case measure => simp [intOf]; omega
    · obtain rfl : k = 81 := by omega
      have l0 := hV.lo
      have l1 := hV.hi
      have r0 := hR.lo
      have r1 := hR.hi
      have r2 := hR.f0
      have r3 := hR.f1
      clear hB hR hV
      generalize hx2 : loW (deadP x 81) = x2 at *
      generalize hy2 : hiW (deadP x 81) = y2 at *
      have HX := Lib.hid hx2
      have HY := Lib.hid hy2
      clear hx2 hy2
      go_wp2
      rw [HX.out, HY.out]
      exact bodyPost_ret (v := .agg #[.int .u64 x2, .int .u64 y2]) (by simp [results, Tryd.results94, go_sem, r0, r1]) rfl
        ⟨rfl, (HB.out.setCell (by simp) _).setCell (by simp) _⟩

/-- All squares of the files in which some squares lie. -/
def filesP (l : List Int) (k : Nat) : Nat := (l.take k).foldl (fun a q => a ||| ofN (fileL (q / 9) 9)) 0
def filesN (n : Nat) : Nat := filesP (sqI n) (sqI n).length
theorem filesP_zero (l : List Int) : filesP l 0 = 0 := by simp [filesP]
theorem filesP_step (l : List Int) (k : Nat) (h : k < l.length) : filesP l (k + 1) = filesP l k ||| ofN (fileL (l[k] / 9) 9) := by
  unfold filesP
  rw [List.take_succ_eq_append_getElem h, List.foldl_append]
  rfl
theorem filesP_sq (l : List Int) : ∀ k, k ≤ l.length → Sq (filesP l k)
  | 0, _ => by rw [filesP_zero]; exact Sq.zero
  | k + 1, h => by
    rw [filesP_step l k h]
    exact (filesP_sq l k (by omega)).or (ofN_sq _)
theorem filesN_sq (n : Nat) : Sq (filesN n) := filesP_sq _ _ (Nat.le_refl _)
set_option maxHeartbeats 4000000 in
theorem files_any (n : Nat) (hn : Sq n) (w : World) (hT : Tab w) :
    Calls Tryd.prog 95 #[.agg #[.int .u64 (loW n), .int .u64 (hiW n)]] w fun e w' => e = .returned (.agg #[.int .u64 (loW (filesN n)), .int .u64 (hiW (filesN n))]) ∧ Below w.heap.size w w' := by
  have SQ := Lib.hid (fun W (t : Tab W) (h : 1 < W.heap.size) => squares_any n hn W t h)
  have hgt : 1 < w.heap.size := block_lt_of_cell (hT 0 (by omega))
  have HIN := Lib.hid (sqI_in n)
  have HLE := Lib.hid (sqI_le n)
  have HT := Lib.hid hT
  have hz0 : ∀ W : World, (zeroValue 32).run Tryd.prog W = .ok (.agg #[.int .u64 0, .int .u64 0]) W := fun W => by kernel_rfl
  unfold filesN
  clear hn hT
  generalize sqI n = l at *
  generalize loW n = nl at *
  generalize hiW n = nh at *
  have HB0 := Lib.hid (ball (ball (ball (bref w) (.cells #[.int .u64 nl, .int .u64 nh] 32)) (.cells #[.int .u64 0, .int .u64 0] 32)) (.cells #[.int .u64 0, .int .u64 0] 32))
  go_enter Tryd.func95, Tryd.ntmps95
  go_wp2_with (go_at_call 42; refine (SQ.out _ (HT.out.grow HB0.out) (Nat.lt_of_lt_of_le hgt HB0.out.size)).mono ?_; rintro e w3 ⟨v, rfl, hv, hb⟩; obtain ⟨ao, cap, rfl, hp⟩ := hv.uni')
  have V1 : Var w3 (w.heap.size + 1) 0 0 := Var.grow ⟨by first | (simp; done) | (simp; omega), by go_simp, by go_simp, by go_simp, by go_simp⟩ hb
  have V2 : Var w3 (w.heap.size + 2) 0 0 := Var.grow ⟨by simp, by go_simp, by go_simp, by go_simp, by go_simp⟩ hb
  have HB := Lib.hid (bthen HB0.out hb)
  have HV1 := Lib.hid V1
  have HV2 := Lib.hid V2
  have HP := Lib.hid (show l.length ≠ 0 → ∃ g, ao = some ⟨g, 0, none⟩ ∧ w.heap.size + 3 ≤ g ∧ g < w3.heap.size ∧ ∀ (j : Nat) (hj : j < l.length), w3.cell? ⟨g, j, none⟩ = some (.int .i64 l[j]) from fun h => by
    obtain ⟨g, e1, e2, e3, e4⟩ := hp h
    exact ⟨g, e1, by simpa using e2, e3, e4⟩)
  clear hp hv hb V1 V2 hz0 SQ HT HB0 hgt
  go_loopw [9] (fun i wr => ∃ j : Nat, j ≤ l.length ∧ i = .int .i64 j ∧ HeldV w3 wr (w.heap.size + 2) ∧ (wr.cell? ⟨w.heap.size + 2, 0, none⟩ = some (.int .u64 (loW (filesP l j))) ∧ wr.cell? ⟨w.heap.size + 2, 1, none⟩ = some (.int .u64 (hiW (filesP l j))))) (fun i _ => l.length - (intOf i).toNat)
  case atStart =>
    refine ⟨0, Nat.zero_le _, rfl, ⟨But.refl _ _, HV2.out.lt, HV2.out.f0, HV2.out.f1⟩, ?_⟩
    rw [filesP_zero, lo_zero, hi_zero]
    exact ⟨HV2.out.lo, HV2.out.hi⟩
  case round =>
    obtain ⟨j, hj, rfl, hH, hC⟩ := hrel
    have hle : l.length ≤ 81 := HLE.out
    by_cases hlt : j < l.length
    · obtain ⟨g, rfl, hg2, hg, hcs⟩ := HP.out (by omega)
      have c0 : wr.cell? ⟨g, j, none⟩ = some (.int .i64 l[j]) := (hH.but.cell (p := ⟨g, j, none⟩) hg (by show g ≠ w.heap.size + 2; omega)).trans (hcs j hlt)
      have hq := HIN.out l[j] (List.getElem_mem hlt)
      have FI := Lib.hid (fun W => stays (file_any l[j] W hq.1 (by omega)))
      have IF := Lib.hid (fun W => inFile_any (l[j] / 9) W)
      have OR := Lib.hid (fun W => or_any (filesP l j) (ofN (fileL (l[j] / 9) 9)) (filesP_sq _ _ hj) (ofN_sq _) W)
      rw [← filesP_step l j hlt] at OR
      clear hcs hq HP
      generalize loW (ofN (fileL (l[j] / 9) 9)) = fl at *
      generalize hiW (ofN (fileL (l[j] / 9) 9)) = fh at *
      generalize l[j] / 9 = f at *
      generalize l[j] = q at *
      generalize loW (filesP l j) = x at *
      generalize hiW (filesP l j) = y at *
      generalize hx : loW (filesP l (j + 1)) = x2 at *
      generalize hy : hiW (filesP l (j + 1)) = y2 at *
      have HX := Lib.hid hx
      have HY := Lib.hid hy
      have H0 := Lib.hid hH.drew
      have HC := Lib.hid hC
      clear hx hy hH hC
      go_wp2_with fail
      refine wp_region_any (by kernel_rfl) ?_
      change wpAny _ _ _ _ _ _ _ (World.drew _)
      refine wpAny_inv3 (fun a0 => a0.eval (.tmp 3) = .pointer (some ⟨w.heap.size + 2, 0, none⟩) ∧ a0.eval (.tmp 5) = .int .i64 q ∧ 18 < a0.tmps.size) ⟨rfl, rfl, of_decide_eq_true rfl⟩
        (fun a0 ls a w' => ls.size = 6 ∧ HeldV w3 w' (w.heap.size + 2) ∧ (ls.getD 5 false = false → w'.cell? ⟨(w.heap.size + 2), 0, none⟩ = some (.int .u64 x) ∧ w'.cell? ⟨(w.heap.size + 2), 1, none⟩ = some (.int .u64 y)) ∧ (ls.getD 5 false = true → w'.cell? ⟨(w.heap.size + 2), 0, none⟩ = some (.int .u64 x2) ∧ w'.cell? ⟨(w.heap.size + 2), 1, none⟩ = some (.int .u64 y2)) ∧ (ls.getD 5 false = true → ls.getD 0 false = true) ∧ a = cput (ls.getD 4 false) 17 (.agg #[.int .u64 x2, .int .u64 y2]) (cput (ls.getD 3 false) 16 (.agg #[.int .u64 fl, .int .u64 fh]) (cput (ls.getD 2 false) 15 (.int .i64 f) (cput (ls.getD 1 false) 14 (.int .i64 q) (cput (ls.getD 0 false) 13 (.agg #[.int .u64 x, .int .u64 y]) (a0)))))) ?step ?fin ?start (by decide)
      case start => exact ⟨rfl, H0.out, fun _ => ⟨HC.out.1, HC.out.2⟩, (fun h => nomatch h), (fun h => nomatch h), rfl⟩
      case step =>
        rintro a0 ⟨e3, e5, esz⟩ ls a w' ⟨hl, hH, hS, hD, h80, ha⟩ i o ho hu hw
        have hu' := undone hu
        rcases i with _ | _ | _ | _ | _ | _ | i
        · have ho' : some _ = some o := ho
          cases ho'
          have E3 : a.eval (.tmp 3) = .pointer (some ⟨w.heap.size + 2, 0, none⟩) := by rw [ha]; simp [eval_cput_ne, e3]
          have l8 : ls.getD 5 false = false := by
            cases h : ls.getD 5 false
            · rfl
            · rw [h80 h] at hu'; cases hu'
          have hS' := hS l8
          refine wpOp_step ho (fun K hK => ?_)
          rw [if_pos (by rfl)]
          refine wp_load_mid _ _ rfl ((w.heap.size + 2)) 0 E3 [.int .u64 x, .int .u64 y] _ (range2 hS'.1 hS'.2) Tryd.underlying32 rfl infoSet2 ?_
          exact hK _ _ ⟨by simp [hl], hH, by simpa [getF, hl] using hS, by simpa [getF, hl] using hD, by simp [getF, hl], by rw [ha]; simp [cput_put, getF, hl, hu', cput_at]⟩
        · have ho' : some _ = some o := ho
          cases ho'
          have E5 : a.eval (.tmp 5) = .int .i64 q := by rw [ha]; simp [eval_cput_ne, e5]
          refine wpOp_step ho (fun K hK => ?_)
          rw [if_pos (by rfl)]
          refine wp_valueK (w' := w') (.int .i64 q) ?_ (hK _ _ ⟨by simp [hl], hH, by simpa [getF, hl] using hS, by simpa [getF, hl] using hD, by simpa [getF, hl] using h80, by rw [ha]; simp [cput_put, getF, hl, hu', cput_at]⟩)
          clear ha
          exact congrArg (fun v => Result.ok (Next.value v) w') E5
        · have ho' : some _ = some o := ho
          cases ho'
          have d14 : ls.getD 1 false = true := hw ⟨1, .data⟩ (by simp) rfl
          have z14 : 14 < a0.tmps.size := by omega
          have E14 : a.eval (.tmp 14) = .int .i64 q := by rw [ha]; simp [eval_cput_ne, d14, eval_cput_at, size_cput, z14]
          refine wpOp_step ho (fun K hK => ?_)
          rw [if_pos (by rfl)]
          refine wp_callK 119 #[a.eval (.tmp 14)] ?_ ?_
          · clear ha E14
            go_simp
          · rw [E14]
            refine (FI.out _).mono ?_
            rintro e w2 ⟨rfl, hb2⟩
            refine ⟨_, rfl, hK _ _ ⟨by simp [hl], hH.step hb2, by simpa [getF, hl] using (fun h => cells2_grow hH.lt hb2 (hS h)), by simpa [getF, hl] using (fun h => cells2_grow hH.lt hb2 (hD h)), by simpa [getF, hl] using h80, by rw [ha]; simp [cput_put, getF, hl, hu', cput_at]⟩⟩
        · have ho' : some _ = some o := ho
          cases ho'
          have d15 : ls.getD 2 false = true := hw ⟨2, .data⟩ (by simp) rfl
          have z15 : 15 < a0.tmps.size := by omega
          have E15 : a.eval (.tmp 15) = .int .i64 f := by rw [ha]; simp [eval_cput_ne, d15, eval_cput_at, size_cput, z15]
          refine wpOp_step ho (fun K hK => ?_)
          rw [if_pos (by rfl)]
          refine wp_callK 118 #[a.eval (.tmp 15)] ?_ ?_
          · clear ha E15
            go_simp
          · rw [E15]
            refine (IF.out _).mono ?_
            rintro e w2 ⟨rfl, hb2⟩
            refine ⟨_, rfl, hK _ _ ⟨by simp [hl], hH.step hb2, by simpa [getF, hl] using (fun h => cells2_grow hH.lt hb2 (hS h)), by simpa [getF, hl] using (fun h => cells2_grow hH.lt hb2 (hD h)), by simpa [getF, hl] using h80, by rw [ha]; simp [cput_put, getF, hl, hu', cput_at]⟩⟩
        · have ho' : some _ = some o := ho
          cases ho'
          have d13 : ls.getD 0 false = true := hw ⟨0, .data⟩ (by simp) rfl
          have z13 : 13 < a0.tmps.size := by omega
          have E13 : a.eval (.tmp 13) = .agg #[.int .u64 x, .int .u64 y] := by rw [ha]; simp [eval_cput_ne, d13, eval_cput_at, size_cput, z13]
          have d16 : ls.getD 3 false = true := hw ⟨3, .data⟩ (by simp) rfl
          have z16 : 16 < a0.tmps.size := by omega
          have E16 : a.eval (.tmp 16) = .agg #[.int .u64 fl, .int .u64 fh] := by rw [ha]; simp [eval_cput_ne, d16, eval_cput_at, size_cput, z16]
          refine wpOp_step ho (fun K hK => ?_)
          rw [if_pos (by rfl)]
          refine wp_callK 61 #[a.eval (.tmp 13), a.eval (.tmp 16)] ?_ ?_
          · clear ha E13 E16
            go_simp
          · rw [E13, E16]
            refine (OR.out _).mono ?_
            rintro e w2 ⟨rfl, hb2⟩
            refine ⟨_, rfl, hK _ _ ⟨by simp [hl], hH.step hb2, by simpa [getF, hl] using (fun h => cells2_grow hH.lt hb2 (hS h)), by simpa [getF, hl] using (fun h => cells2_grow hH.lt hb2 (hD h)), by simpa [getF, hl] using h80, by rw [ha]; simp [cput_put, getF, hl, hu', cput_at]⟩⟩
        · have ho' : some _ = some o := ho
          cases ho'
          have E3 : a.eval (.tmp 3) = .pointer (some ⟨w.heap.size + 2, 0, none⟩) := by rw [ha]; simp [eval_cput_ne, e3]
          have d17 : ls.getD 4 false = true := hw ⟨4, .data⟩ (by simp) rfl
          have z17 : 17 < a0.tmps.size := by omega
          have E17 : a.eval (.tmp 17) = .agg #[.int .u64 x2, .int .u64 y2] := by rw [ha]; simp [eval_cput_ne, d17, eval_cput_at, size_cput, z17]
          refine wpOp_step ho (fun K hK => ?_)
          rw [if_pos (by rfl)]
          have hS' := hS hu'
          refine wp_store_mid _ _ _ rfl ((w.heap.size + 2)) 0 #[.int .u64 x2, .int .u64 y2] E3 E17 (there2 hS'.1 hS'.2 hH.f0 hH.f1) infoSet2 (by simp [Value.oneCell']) ?_
          have gg : ∀ j, j ≠ 5 → (ls.setIfInBounds 5 true).getD j false = ls.getD j false := fun j hj => (getF (by omega : 5 < ls.size)).trans (if_neg (Ne.symm hj))
          have gs : (ls.setIfInBounds 5 true).getD 5 false = true := (getF (by omega : 5 < ls.size)).trans (if_pos rfl)
          have q0 := hS'.1
          have q1 := hS'.2
          refine hK _ _ ⟨by simp [hl], hH.store _ _, (fun h => by rw [gs] at h; cases h), (fun _ => stored2 q0 q1 _ _), (fun _ => by rw [gg 0 (by decide)]; exact hw ⟨0, .phase⟩ (by simp) rfl), ?_⟩
          rw [gg 4 (by decide), gg 3 (by decide), gg 2 (by decide), gg 1 (by decide), gg 0 (by decide), ha]
          rfl
        · cases ho
      case fin =>
        rintro ls a w' ⟨hl, hH, -, hD, -, ha⟩ hr
        have d : ∀ i, i < 6 → ls.getD i false = true := all_doneB hr (by kernel_rfl) (by rw [hl]; rfl)
        obtain ⟨n0, n1⟩ := hD (d 5 (by decide))
        rw [d 4 (by decide), d 3 (by decide), d 2 (by decide), d 1 (by decide), d 0 (by decide)] at ha
        subst ha
        simp only [cput, if_true, Act.put, List.setIfInBounds_toArray, List.set_cons_zero, List.set_cons_succ]
        clear d hD hr hl
        go_wp2
        go_roundw
        case rel =>
          refine ⟨j + 1, by omega, by go_num, hH, ?_⟩
          rw [HX.out, HY.out]
          exact ⟨n0, n1⟩
        case measure => simp [intOf]; omega
    · obtain rfl : j = l.length := by omega
      have R := HV1.out
      have r0 := (hH.but.cell (p := ⟨w.heap.size + 1, 0, none⟩) R.lt (by simp)).trans R.lo
      have r1 := (hH.but.cell (p := ⟨w.heap.size + 1, 1, none⟩) R.lt (by simp)).trans R.hi
      have r2 := (hH.but.frozen (p := ⟨w.heap.size + 1, 0, none⟩) R.lt (by simp)).trans R.f0
      have r3 := (hH.but.frozen (p := ⟨w.heap.size + 1, 1, none⟩) R.lt (by simp)).trans R.f1
      obtain ⟨l0, l1⟩ := hC
      replace HB := Lib.hid (HB.out.trans (hH.but.below (by omega) (HB.out.size)))
      clear hH HP R
      generalize hx : loW (filesP l l.length) = x at *
      generalize hy : hiW (filesP l l.length) = y at *
      have HX := Lib.hid hx
      have HY := Lib.hid hy
      clear hx hy
      go_wp2
      rw [HX.out, HY.out]
      exact bodyPost_ret (v := .agg #[.int .u64 x, .int .u64 y]) (by simp [results, Tryd.results95, go_sem, r0, r1]) rfl
        ⟨rfl, (HB.out.setCell (by simp) _).setCell (by simp) _⟩

/-! Free. -/
def freeB (z : List Int) (s k : Int) : Nat := minusN (minusN full (takenN z)) (deadN (ofF s k))
def freeN (z : List Int) (s k : Int) : Nat := if ofF s k = 0 ∨ 7 < k then 0 else if k = 1 then minusN (freeB z s k) (filesN (pieceN z (ofF s 1))) else freeB z s k
theorem freeB_sq (z : List Int) (s k : Int) : Sq (freeB z s k) := Sq.full.minus.minus
theorem freeN_sq (z : List Int) (s k : Int) : Sq (freeN z s k) := by
  unfold freeN
  split
  · exact Sq.zero
  · split
    · exact (freeB_sq z s k).minus
    · exact freeB_sq z s k
theorem tab_but {w w' : World} {p : Nat} (h : Tab w) (hb : But p w w') (hne : 1 ≠ p) : Tab w' := fun j hj =>
  (hb.cell (p := ⟨1, j, none⟩) (block_lt_of_cell (h j hj)) hne).trans (h j hj)
theorem zero_setR (W : World) : (zeroValue 32).run Tryd.prog W = .ok (.agg #[.int .u64 0, .int .u64 0]) W := by kernel_rfl
set_option maxHeartbeats 4000000 in
theorem free_any (b : Nat) (z : List Int) (s k : Int) (h1 : -9223372036854775808 ≤ k) (h2 : k ≤ 9223372036854775807) (hz : z.length = 98) (w : World) (hb : Brd w b z) (hT : Tab w) :
    Calls Tryd.prog 55 #[.pointer (some ⟨b, 0, none⟩), .int .i64 s, .int .i64 k] w fun e w' => e = .returned (.agg #[.int .u64 (loW (freeN z s k)), .int .u64 (hiW (freeN z s k))]) ∧ Below w.heap.size w w' := by
  have PO := Lib.hid (fun W => pof_any s k W h1 h2)
  have hz0 := zero_setR
  unfold freeN
  by_cases h0 : ofF s k = 0
  · rw [if_pos (.inl h0), lo_zero, hi_zero]
    rw [h0] at PO
    clear hb hT hz h0 h1 h2
    go_enter Tryd.func55, Tryd.ntmps55
    go_wp2_with (go_at_call 63; refine (PO.out _).mono ?_; rintro e w1 ⟨rfl, rfl⟩)
    exact bodyPost_ret (v := .agg #[.int .u64 0, .int .u64 0]) (by simp [results, Tryd.results55, go_sem]) rfl ⟨rfl, ball (bref w) _⟩
  · have b0 : (ofF s k == 0) = false := by simpa using h0
    by_cases h7 : 7 < k
    · rw [if_pos (.inr h7), lo_zero, hi_zero]
      clear hb hT hz h0
      generalize ofF s k = x at *
      go_enter Tryd.func55, Tryd.ntmps55
      go_wp2_with (go_at_call 63; refine (PO.out _).mono ?_; rintro e w1 ⟨rfl, rfl⟩)
      exact bodyPost_ret (v := .agg #[.int .u64 0, .int .u64 0]) (by simp [results, Tryd.results55, go_sem]) rfl ⟨rfl, ball (bref w) _⟩
    · rw [if_neg (fun h => h.elim h0 h7)]
      have hxb := ofF_bd s k
      have TA := Lib.hid (fun W (h : Brd W b z) => taken_brd b z hz W h)
      have NO := Lib.hid (fun W => not_any (takenN z) (takenN_sq z) W)
      have DE := Lib.hid (fun W => gdead_any (ofF s k) hxb W)
      have MI := Lib.hid (fun W => minus_any (minusN full (takenN z)) (deadN (ofF s k)) Sq.full.minus (deadP_sq _ _) W)
      rw [show minusN (minusN full (takenN z)) (deadN (ofF s k)) = freeB z s k from rfl] at MI
      have hfq := freeB_sq z s k
      have HBD := Lib.hid (show BrdAt (w.alloc (.cells #[.int .u64 0, .int .u64 0] 32)) b z (setAt z) from BrdAt.grow hb (ball (bref w) _))
      have HB := Lib.hid (ball (bref w) (.cells #[.int .u64 0, .int .u64 0] 32))
      have HT := Lib.hid hT
      have HV := Lib.hid (show Var (w.alloc (.cells #[.int .u64 0, .int .u64 0] 32)) w.heap.size 0 0 from ⟨by simp, by go_simp, by go_simp, by go_simp, by go_simp⟩)
      have zb := hb.lt
      have O1 := Lib.hid (fun W (h : Brd W b z) => of_brd b z s 1 (by omega) hz W h)
      have FS := Lib.hid (fun W (t : Tab W) => files_any (pieceN z (ofF s 1)) (pieceN_sq _ _) W t)
      have MI2 := Lib.hid (fun W => minus_any (freeB z s k) (filesN (pieceN z (ofF s 1))) hfq (filesN_sq _) W)
      have hgt : 1 < w.heap.size := block_lt_of_cell (hT 0 (by omega))
      have HGT := Lib.hid hgt
      clear hb hT hz h0 h1 h2 hxb hfq hgt
      generalize freeB z s k = fb at *
      generalize loW (takenN z) = tl at *
      generalize hiW (takenN z) = th at *
      generalize loW (minusN full (takenN z)) = nl at *
      generalize hiW (minusN full (takenN z)) = nh at *
      generalize loW (deadN (ofF s k)) = dl at *
      generalize hiW (deadN (ofF s k)) = dh at *
      generalize ofF s k = x at *
      have ARM : True := trivial
      by_cases hk : k = 1
      · rw [if_pos hk]
        have bk : (k == 1) = true := by simpa using hk
        generalize hx2 : loW (minusN fb (filesN (pieceN z (ofF s 1)))) = x2 at *
        generalize hy2 : hiW (minusN fb (filesN (pieceN z (ofF s 1)))) = y2 at *
        clear hx2 hy2
        generalize loW (filesN (pieceN z (ofF s 1))) = fl at *
        generalize hiW (filesN (pieceN z (ofF s 1))) = fh at *
        generalize loW (pieceN z (ofF s 1)) = pl at *
        generalize hiW (pieceN z (ofF s 1)) = ph at *
        generalize loW fb = x at *
        generalize hiW fb = y at *
        clear hk ARM
        go_enter Tryd.func55, Tryd.ntmps55
        go_upto_region 1 with fail
        generalize w.alloc (.cells #[.int .u64 0, .int .u64 0] 32) = w0 at *
        go_upto_region 5 with (first
          | (go_at_call 63; refine (PO.out _).mono ?_; rintro e w1 ⟨rfl, rfl⟩)
          | (go_at_call 39; refine (TA.out _ HBD.out).mono ?_; rintro e w2 ⟨rfl, hb⟩; replace HBD := Lib.hid (BrdAt.grow HBD.out hb); replace HB := Lib.hid (bthen HB.out hb); replace HV := Lib.hid (HV.out.grow hb); clear hb)
          | (go_at_call 93; refine (NO.out _).mono ?_; rintro e w2 ⟨rfl, hb⟩; replace HBD := Lib.hid (BrdAt.grow HBD.out hb); replace HB := Lib.hid (bthen HB.out hb); replace HV := Lib.hid (HV.out.grow hb); clear hb)
          | (go_at_call 94; refine (DE.out _).mono ?_; rintro e w2 ⟨rfl, hb⟩; replace HBD := Lib.hid (BrdAt.grow HBD.out hb); replace HB := Lib.hid (bthen HB.out hb); replace HV := Lib.hid (HV.out.grow hb); clear hb)
          | (go_at_call 36; refine (MI.out _).mono ?_; rintro e w3 ⟨rfl, hb⟩; replace HBD := Lib.hid (BrdAt.grow HBD.out hb); replace HB := Lib.hid (bthen HB.out hb); replace HV := Lib.hid (HV.out.grow hb); clear hb))
        have HPG := Lib.hid (show w.heap.size < w3.heap.size from Nat.lt_of_lt_of_le HV.out.lt (Nat.le_refl _))
        have HPV := Lib.hid (show Var (w3.alloc (.cells #[.int .u64 x, .int .u64 y] 32)) w3.heap.size x y from ⟨by simp, by go_simp, by go_simp, by go_simp, by go_simp⟩)
        replace HB := Lib.hid (ball HB.out (.cells #[.int .u64 x, .int .u64 y] 32))
        replace HBD := Lib.hid (BrdAt.grow HBD.out (ball (bref w3) (.cells #[.int .u64 x, .int .u64 y] 32)))
        replace HV := Lib.hid (HV.out.grow (ball (bref w3) (.cells #[.int .u64 x, .int .u64 y] 32)))
        generalize w3.alloc (.cells #[.int .u64 x, .int .u64 y] 32) = w4 at *
        generalize w3.heap.size = p at *
        go_wp2_with fail
        replace HBD := Lib.hid (show Brd w4 b z from BrdAt.grow HBD.out (bref w4))
        have HTH := Lib.hid (HT.out.grow HB.out)
        have HNE := Lib.hid (show b ≠ p by have := HB.out.size; have := HPG.out; omega)
        have HNT := Lib.hid (show 1 ≠ p by have := HGT.out; have := HPG.out; omega)
        have H0 := Lib.hid (show HeldV w4 w4.drew p from ⟨But.of (bref w4).drew, HPV.out.lt, HPV.out.f0, HPV.out.f1⟩)
        have HC := Lib.hid (show w4.cell? ⟨p, 0, none⟩ = some (.int .u64 x) ∧ w4.cell? ⟨p, 1, none⟩ = some (.int .u64 y) from ⟨HPV.out.lo, HPV.out.hi⟩)
        refine wp_region_any (by kernel_rfl) ?_
        change wpAny _ _ _ _ _ _ _ (World.drew _)
        refine wpAny_inv3 (fun a0 => a0.eval (.tmp 0) = .pointer (some ⟨b, 0, none⟩) ∧ a0.eval (.tmp 1) = .int .i64 s ∧ a0.eval (.tmp 8) = .pointer (some ⟨p, 0, none⟩) ∧ 33 < a0.tmps.size) ⟨rfl, rfl, rfl, of_decide_eq_true rfl⟩
          (fun a0 ls a w' => ls.size = 7 ∧ HeldV w4 w' p ∧ (ls.getD 6 false = false → w'.cell? ⟨p, 0, none⟩ = some (.int .u64 x) ∧ w'.cell? ⟨p, 1, none⟩ = some (.int .u64 y)) ∧ (ls.getD 6 false = true → w'.cell? ⟨p, 0, none⟩ = some (.int .u64 x2) ∧ w'.cell? ⟨p, 1, none⟩ = some (.int .u64 y2)) ∧ (ls.getD 6 false = true → ls.getD 0 false = true) ∧ a = cput (ls.getD 5 false) 32 (.agg #[.int .u64 x2, .int .u64 y2]) (cput (ls.getD 4 false) 31 (.agg #[.int .u64 fl, .int .u64 fh]) (cput (ls.getD 3 false) 30 (.agg #[.int .u64 pl, .int .u64 ph]) (cput (ls.getD 2 false) 29 (.int .i64 s) (cput (ls.getD 1 false) 28 (.pointer (some ⟨b, 0, none⟩)) (cput (ls.getD 0 false) 27 (.agg #[.int .u64 x, .int .u64 y]) (a0))))))) ?step ?fin ?start (by decide)
        case start => exact ⟨rfl, H0.out, fun _ => ⟨HC.out.1, HC.out.2⟩, (fun h => nomatch h), (fun h => nomatch h), rfl⟩
        case step =>
          rintro a0 ⟨e0, e1, e8, esz⟩ ls a w' ⟨hl, hH, hS, hD, h80, ha⟩ i o ho hu hw
          have hu' := undone hu
          rcases i with _ | _ | _ | _ | _ | _ | _ | i
          · have ho' : some _ = some o := ho
            cases ho'
            have E8 : a.eval (.tmp 8) = .pointer (some ⟨p, 0, none⟩) := by rw [ha]; simp [eval_cput_ne, e8]
            have l8 : ls.getD 6 false = false := by
              cases h : ls.getD 6 false
              · rfl
              · rw [h80 h] at hu'; cases hu'
            have hS' := hS l8
            refine wpOp_step ho (fun K hK => ?_)
            rw [if_pos (by rfl)]
            refine wp_load_mid _ _ rfl (p) 0 E8 [.int .u64 x, .int .u64 y] _ (range2 hS'.1 hS'.2) Tryd.underlying32 rfl infoSet2 ?_
            exact hK _ _ ⟨by simp [hl], hH, by simpa [getF, hl] using hS, by simpa [getF, hl] using hD, by simp [getF, hl], by rw [ha]; simp [cput_put, getF, hl, hu', cput_at]⟩
          · have ho' : some _ = some o := ho
            cases ho'
            have E0 : a.eval (.tmp 0) = .pointer (some ⟨b, 0, none⟩) := by rw [ha]; simp [eval_cput_ne, e0]
            refine wpOp_step ho (fun K hK => ?_)
            rw [if_pos (by rfl)]
            refine wp_valueK (w' := w') (.pointer (some ⟨b, 0, none⟩)) ?_ (hK _ _ ⟨by simp [hl], hH, by simpa [getF, hl] using hS, by simpa [getF, hl] using hD, by simpa [getF, hl] using h80, by rw [ha]; simp [cput_put, getF, hl, hu', cput_at]⟩)
            clear ha
            exact congrArg (fun v => Result.ok (Next.value v) w') E0
          · have ho' : some _ = some o := ho
            cases ho'
            have E1 : a.eval (.tmp 1) = .int .i64 s := by rw [ha]; simp [eval_cput_ne, e1]
            refine wpOp_step ho (fun K hK => ?_)
            rw [if_pos (by rfl)]
            refine wp_valueK (w' := w') (.int .i64 s) ?_ (hK _ _ ⟨by simp [hl], hH, by simpa [getF, hl] using hS, by simpa [getF, hl] using hD, by simpa [getF, hl] using h80, by rw [ha]; simp [cput_put, getF, hl, hu', cput_at]⟩)
            clear ha
            exact congrArg (fun v => Result.ok (Next.value v) w') E1
          · have ho' : some _ = some o := ho
            cases ho'
            have d28 : ls.getD 1 false = true := hw ⟨1, .data⟩ (by simp) rfl
            have z28 : 28 < a0.tmps.size := by omega
            have E28 : a.eval (.tmp 28) = .pointer (some ⟨b, 0, none⟩) := by rw [ha]; simp [eval_cput_ne, d28, eval_cput_at, size_cput, z28]
            have d29 : ls.getD 2 false = true := hw ⟨2, .data⟩ (by simp) rfl
            have z29 : 29 < a0.tmps.size := by omega
            have E29 : a.eval (.tmp 29) = .int .i64 s := by rw [ha]; simp [eval_cput_ne, d29, eval_cput_at, size_cput, z29]
            refine wpOp_step ho (fun K hK => ?_)
            rw [if_pos (by rfl)]
            refine wp_callK 60 #[a.eval (.tmp 28), a.eval (.tmp 29), .int .i64 1] ?_ ?_
            · clear ha E28 E29
              go_simp
            · rw [E28, E29]
              refine (O1.out _ (HBD.out.but hH.but HNE.out)).mono ?_
              rintro e w2 ⟨rfl, hb2⟩
              refine ⟨_, rfl, hK _ _ ⟨by simp [hl], hH.step hb2, by simpa [getF, hl] using (fun h => cells2_grow hH.lt hb2 (hS h)), by simpa [getF, hl] using (fun h => cells2_grow hH.lt hb2 (hD h)), by simpa [getF, hl] using h80, by rw [ha]; simp [cput_put, getF, hl, hu', cput_at]⟩⟩
          · have ho' : some _ = some o := ho
            cases ho'
            have d30 : ls.getD 3 false = true := hw ⟨3, .data⟩ (by simp) rfl
            have z30 : 30 < a0.tmps.size := by omega
            have E30 : a.eval (.tmp 30) = .agg #[.int .u64 pl, .int .u64 ph] := by rw [ha]; simp [eval_cput_ne, d30, eval_cput_at, size_cput, z30]
            refine wpOp_step ho (fun K hK => ?_)
            rw [if_pos (by rfl)]
            refine wp_callK 95 #[a.eval (.tmp 30)] ?_ ?_
            · clear ha E30
              go_simp
            · rw [E30]
              refine (FS.out _ (tab_but HTH.out hH.but HNT.out)).mono ?_
              rintro e w2 ⟨rfl, hb2⟩
              refine ⟨_, rfl, hK _ _ ⟨by simp [hl], hH.step hb2, by simpa [getF, hl] using (fun h => cells2_grow hH.lt hb2 (hS h)), by simpa [getF, hl] using (fun h => cells2_grow hH.lt hb2 (hD h)), by simpa [getF, hl] using h80, by rw [ha]; simp [cput_put, getF, hl, hu', cput_at]⟩⟩
          · have ho' : some _ = some o := ho
            cases ho'
            have d27 : ls.getD 0 false = true := hw ⟨0, .data⟩ (by simp) rfl
            have z27 : 27 < a0.tmps.size := by omega
            have E27 : a.eval (.tmp 27) = .agg #[.int .u64 x, .int .u64 y] := by rw [ha]; simp [eval_cput_ne, d27, eval_cput_at, size_cput, z27]
            have d31 : ls.getD 4 false = true := hw ⟨4, .data⟩ (by simp) rfl
            have z31 : 31 < a0.tmps.size := by omega
            have E31 : a.eval (.tmp 31) = .agg #[.int .u64 fl, .int .u64 fh] := by rw [ha]; simp [eval_cput_ne, d31, eval_cput_at, size_cput, z31]
            refine wpOp_step ho (fun K hK => ?_)
            rw [if_pos (by rfl)]
            refine wp_callK 36 #[a.eval (.tmp 27), a.eval (.tmp 31)] ?_ ?_
            · clear ha E27 E31
              go_simp
            · rw [E27, E31]
              refine (MI2.out _).mono ?_
              rintro e w2 ⟨rfl, hb2⟩
              refine ⟨_, rfl, hK _ _ ⟨by simp [hl], hH.step hb2, by simpa [getF, hl] using (fun h => cells2_grow hH.lt hb2 (hS h)), by simpa [getF, hl] using (fun h => cells2_grow hH.lt hb2 (hD h)), by simpa [getF, hl] using h80, by rw [ha]; simp [cput_put, getF, hl, hu', cput_at]⟩⟩
          · have ho' : some _ = some o := ho
            cases ho'
            have E8 : a.eval (.tmp 8) = .pointer (some ⟨p, 0, none⟩) := by rw [ha]; simp [eval_cput_ne, e8]
            have d32 : ls.getD 5 false = true := hw ⟨5, .data⟩ (by simp) rfl
            have z32 : 32 < a0.tmps.size := by omega
            have E32 : a.eval (.tmp 32) = .agg #[.int .u64 x2, .int .u64 y2] := by rw [ha]; simp [eval_cput_ne, d32, eval_cput_at, size_cput, z32]
            refine wpOp_step ho (fun K hK => ?_)
            rw [if_pos (by rfl)]
            have hS' := hS hu'
            refine wp_store_mid _ _ _ rfl (p) 0 #[.int .u64 x2, .int .u64 y2] E8 E32 (there2 hS'.1 hS'.2 hH.f0 hH.f1) infoSet2 (by simp [Value.oneCell']) ?_
            have gg : ∀ j, j ≠ 6 → (ls.setIfInBounds 6 true).getD j false = ls.getD j false := fun j hj => (getF (by omega : 6 < ls.size)).trans (if_neg (Ne.symm hj))
            have gs : (ls.setIfInBounds 6 true).getD 6 false = true := (getF (by omega : 6 < ls.size)).trans (if_pos rfl)
            have q0 := hS'.1
            have q1 := hS'.2
            refine hK _ _ ⟨by simp [hl], hH.store _ _, (fun h => by rw [gs] at h; cases h), (fun _ => stored2 q0 q1 _ _), (fun _ => by rw [gg 0 (by decide)]; exact hw ⟨0, .phase⟩ (by simp) rfl), ?_⟩
            rw [gg 5 (by decide), gg 4 (by decide), gg 3 (by decide), gg 2 (by decide), gg 1 (by decide), gg 0 (by decide), ha]
            rfl
          · cases ho
        case fin =>
          rintro ls a w' ⟨hl, hH, -, hD, -, ha⟩ hr
          have d : ∀ i, i < 7 → ls.getD i false = true := all_doneB hr (by kernel_rfl) (by rw [hl]; rfl)
          obtain ⟨n0, n1⟩ := hD (d 6 (by decide))
          rw [d 5 (by decide), d 4 (by decide), d 3 (by decide), d 2 (by decide), d 1 (by decide), d 0 (by decide)] at ha
          subst ha
          simp only [cput, if_true, Act.put, List.setIfInBounds_toArray, List.set_cons_zero, List.set_cons_succ]
          clear d hD hr hl
          replace HV := Lib.hid (show Var w' w.heap.size 0 0 from ⟨Nat.lt_trans HPG.out hH.lt, (hH.but.cell (p := ⟨w.heap.size, 0, none⟩) HV.out.lt (by have := HPG.out; show w.heap.size ≠ p; omega)).trans HV.out.lo, (hH.but.cell (p := ⟨w.heap.size, 1, none⟩) HV.out.lt (by have := HPG.out; show w.heap.size ≠ p; omega)).trans HV.out.hi, (hH.but.frozen (p := ⟨w.heap.size, 0, none⟩) HV.out.lt (by have := HPG.out; show w.heap.size ≠ p; omega)).trans HV.out.f0, (hH.but.frozen (p := ⟨w.heap.size, 1, none⟩) HV.out.lt (by have := HPG.out; show w.heap.size ≠ p; omega)).trans HV.out.f1⟩)
          replace HB := Lib.hid (HB.out.trans (hH.but.below (by have := HPG.out; omega) HB.out.size))
          have r0 := HV.out.lo
          have r1 := HV.out.hi
          have r2 := HV.out.f0
          have r3 := HV.out.f1
          clear hH
          go_wp2
          exact bodyPost_ret (v := .agg #[.int .u64 x2, .int .u64 y2]) (by simp [results, Tryd.results55, go_sem, r0, r1]) rfl
            ⟨rfl, (HB.out.setCell (by simp) _).setCell (by simp) _⟩
      · rw [if_neg hk]
        have bk : (k == 1) = false := by simpa using hk
        generalize loW fb = x at *
        generalize hiW fb = y at *
        clear hk ARM
        go_enter Tryd.func55, Tryd.ntmps55
        go_upto_region 1 with fail
        generalize w.alloc (.cells #[.int .u64 0, .int .u64 0] 32) = w0 at *
        go_upto_region 5 with (first
          | (go_at_call 63; refine (PO.out _).mono ?_; rintro e w1 ⟨rfl, rfl⟩)
          | (go_at_call 39; refine (TA.out _ HBD.out).mono ?_; rintro e w2 ⟨rfl, hb⟩; replace HBD := Lib.hid (BrdAt.grow HBD.out hb); replace HB := Lib.hid (bthen HB.out hb); replace HV := Lib.hid (HV.out.grow hb); clear hb)
          | (go_at_call 93; refine (NO.out _).mono ?_; rintro e w2 ⟨rfl, hb⟩; replace HBD := Lib.hid (BrdAt.grow HBD.out hb); replace HB := Lib.hid (bthen HB.out hb); replace HV := Lib.hid (HV.out.grow hb); clear hb)
          | (go_at_call 94; refine (DE.out _).mono ?_; rintro e w2 ⟨rfl, hb⟩; replace HBD := Lib.hid (BrdAt.grow HBD.out hb); replace HB := Lib.hid (bthen HB.out hb); replace HV := Lib.hid (HV.out.grow hb); clear hb)
          | (go_at_call 36; refine (MI.out _).mono ?_; rintro e w3 ⟨rfl, hb⟩; replace HBD := Lib.hid (BrdAt.grow HBD.out hb); replace HB := Lib.hid (bthen HB.out hb); replace HV := Lib.hid (HV.out.grow hb); clear hb))
        have HPG := Lib.hid (show w.heap.size < w3.heap.size from Nat.lt_of_lt_of_le HV.out.lt (Nat.le_refl _))
        have HPV := Lib.hid (show Var (w3.alloc (.cells #[.int .u64 x, .int .u64 y] 32)) w3.heap.size x y from ⟨by simp, by go_simp, by go_simp, by go_simp, by go_simp⟩)
        replace HB := Lib.hid (ball HB.out (.cells #[.int .u64 x, .int .u64 y] 32))
        replace HBD := Lib.hid (BrdAt.grow HBD.out (ball (bref w3) (.cells #[.int .u64 x, .int .u64 y] 32)))
        replace HV := Lib.hid (HV.out.grow (ball (bref w3) (.cells #[.int .u64 x, .int .u64 y] 32)))
        generalize w3.alloc (.cells #[.int .u64 x, .int .u64 y] 32) = w4 at *
        generalize w3.heap.size = p at *
        have q0 := HPV.out.lo
        have q1 := HPV.out.hi
        have r0 := HV.out.lo
        have r1 := HV.out.hi
        have r2 := HV.out.f0
        have r3 := HV.out.f1
        go_wp2
        exact bodyPost_ret (v := .agg #[.int .u64 x, .int .u64 y]) (by simp [results, Tryd.results55, go_sem, r0, r1]) rfl
          ⟨rfl, (HB.out.setCell (by simp) _).setCell (by simp) _⟩
end Go.Proofs.YtilhicohfnaclaaDoor
