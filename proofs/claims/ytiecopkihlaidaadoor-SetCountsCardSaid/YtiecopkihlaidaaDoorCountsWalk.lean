/-
  The walk of the law SetCounts: for every two pairs of words it returns true.
-/
import Derived.Test.YtiecopkihlaidaaDoorReal
namespace Go.Proofs.YtiecopkihlaidaaDoor.setCounts
open Go.RowKit
set_option linter.unusedVariables false

set_option maxHeartbeats 4000000 in
theorem walk (a0 b0 a1 b1 : Int) (g0 : (Lit.int .u64 a0).wf = true) (j0 : (Lit.int .u64 b0).wf = true) (g1 : (Lit.int .u64 a1).wf = true) (j1 : (Lit.int .u64 b1).wf = true) (w : World) (hT : Tab w) :
    Calls Tryd.prog 8 #[.agg #[.int .u64 a0, .int .u64 b0], .agg #[.int .u64 a1, .int .u64 b1]] w fun e w' => e = .returned (.bool true) ∧ Below w.heap.size w w' := by
  have R0 := Lib.hid (fun W => real_any a0 b0 (bounds_u64 g0).1 (bounds_u64 g0).2 (bounds_u64 j0).1 (bounds_u64 j0).2 W)
  have R1 := Lib.hid (fun W => real_any a1 b1 (bounds_u64 g1).1 (bounds_u64 g1).2 (bounds_u64 j1).1 (bounds_u64 j1).2 W)
  have s0 := realN_sq a0 b0
  have s1 := realN_sq a1 b1
  generalize realN a0 b0 = n at R0 s0
  generalize realN a1 b1 = m at R1 s1
  have HT := Lib.hid hT
  clear g0 j0 g1 j1 hT
  go_enter Tryd.func8, Tryd.ntmps8
  go_upto_region 3 with (go_at_call 9; refine (holds_true _ (HT.out.grow (ball (ball (bref w) _) _))).mono ?_; rintro e w1 ⟨rfl, hb1⟩; obtain ⟨hc1, hf1⟩ := bcells hb1; have hz1 : w.heap.size + 1 < w1.heap.size := by (have := hb1.size; simp at this; omega))
  go_cut [] (fun wx => Below w.heap.size w wx ∧ Var wx w.heap.size (loW n) (hiW n) ∧ Var wx (w.heap.size + 1) (loW m) (hiW m))
  case first =>
    have hB := bthen (ball (ball (bref w) _) _) hb1
    have V0 : Var w1 w.heap.size a0 b0 := Var.grow ⟨by simp; omega, by go_simp, by go_simp, by go_simp, by go_simp⟩ hb1
    have V1 : Var w1 (w.heap.size + 1) a1 b1 := Var.grow ⟨by simp, by go_simp, by go_simp, by go_simp, by go_simp⟩ hb1
    clear hb1 hc1 hf1 HT s0 s1
    have HB := Lib.hid hB
    have HV0 := Lib.hid V0
    have HV1 := Lib.hid V1
    have l0 := V0.lo
    have l1 := V0.hi
    have l2 := V0.f0
    have l3 := V0.f1
    have l4 := V1.lo
    have l5 := V1.hi
    have l6 := V1.f0
    have l7 := V1.f1
    clear hB V0 V1
    have hy1 : w.heap.size < w1.heap.size := by omega
    generalize qx0 : loW n = x0 at R0
    have Qx0 := Lib.hid qx0
    clear qx0
    generalize qy0 : hiW n = y0 at R0
    have Qy0 := Lib.hid qy0
    clear qy0
    generalize qx1 : loW m = x1 at R1
    have Qx1 := Lib.hid qx1
    clear qx1
    generalize qy1 : hiW m = y1 at R1
    have Qy1 := Lib.hid qy1
    clear qy1
    go_region_with (first
      | (go_at_call_of 15 (Value.int .u64 a0); refine (R0.out _).mono ?_; rintro e wa ⟨rfl, hba⟩; (first | have hA : Below w1.heap.size w1 wa := (bref w1).drew.trans hba | have hA := hba); obtain ⟨hca, hfa⟩ := bcells hA; have hza : w.heap.size + 1 < wa.heap.size := (by have := hA.size; omega); have hya : w.heap.size < wa.heap.size := (by omega))
      | (go_at_call_of 15 (Value.int .u64 a1); refine (R1.out _).mono ?_; rintro e wb ⟨rfl, hbb⟩; (first | have hA : Below w1.heap.size w1 wb := (bref w1).drew.trans hbb | have hA := hbb); obtain ⟨hcb, hfb⟩ := bcells hA; have hzb : w.heap.size + 1 < wb.heap.size := (by have := hA.size; omega); have hyb : w.heap.size < wb.heap.size := (by omega)))
    all_goals
      go_wp2_with fail
      go_meet
      rw [Qx0.out, Qy0.out, Qx1.out, Qy1.out]
      first
        | exact ⟨((((bthen (bthen (bthen HB.out (bref w1).drew) hba) hbb).setCell (Nat.le_refl _) _).setCell (Nat.le_refl _) _).setCell (Nat.le_succ _) _).setCell (Nat.le_succ _) _,
            ((HV0.out.grow (bthen (bthen (bref w1).drew hba) hbb)).put _ _).other (by omega) _ _,
            ((HV1.out.grow (bthen (bthen (bref w1).drew hba) hbb)).other (by omega) _ _).put _ _⟩
        | exact ⟨((((bthen (bthen (bthen HB.out (bref w1).drew) hbb) hba).setCell (Nat.le_refl _) _).setCell (Nat.le_refl _) _).setCell (Nat.le_succ _) _).setCell (Nat.le_succ _) _,
            ((HV0.out.grow (bthen (bthen (bref w1).drew hbb) hba)).put _ _).other (by omega) _ _,
            ((HV1.out.grow (bthen (bthen (bref w1).drew hbb) hba)).other (by omega) _ _).put _ _⟩
  case rest =>
    obtain ⟨hB, hV0, hV1⟩ := hcut
    have l0 := hV0.lo
    have l1 := hV0.hi
    have l2 := hV1.lo
    have l3 := hV1.hi
    have hz0 := hV0.lt
    have hz1 := hV1.lt
    have HB := Lib.hid hB
    have CN := Lib.hid (fun W => count_any n s0 W)
    have CM := Lib.hid (fun W => count_any m s1 W)
    have OR := Lib.hid (fun W => or_any n m s0 s1 W)
    have CO := Lib.hid (fun W => count_any (n ||| m) (s0.or s1) W)
    have AN := Lib.hid (fun W => and_any n m s0 s1 W)
    have CA := Lib.hid (fun W => count_any (n &&& m) s0.and W)
    have NN := Lib.hid (fun W => not_any n s0 W)
    have CF := Lib.hid (fun W => count_any (minusN full n) Sq.full.minus W)
    have MI := Lib.hid (fun W => minus_any n m s0 s1 W)
    have CI := Lib.hid (fun W => count_any (minusN n m) s0.minus W)
    have NM := Lib.hid (fun W => not_any m s1 W)
    have AM := Lib.hid (fun W => and_any n (minusN full m) s0 Sq.full.minus W)
    rw [← minus_not n m s0] at AM
    have p1 := pop_two n m 81
    have p2 := pop_not n 81 (Nat.le_refl _)
    have p3 := pop_minus n m 81
    have q1 := pop_le 81 n
    have q2 := pop_le 81 m
    clear hB hV0 hV1 s0 s1
    generalize loW (n ||| m) = x2 at OR CO
    generalize hiW (n ||| m) = y2 at OR CO
    generalize loW (n &&& m) = x3 at AN CA
    generalize hiW (n &&& m) = y3 at AN CA
    generalize loW (minusN full n) = x4 at NN CF
    generalize hiW (minusN full n) = y4 at NN CF
    generalize loW (minusN n m) = x5 at MI CI AM
    generalize hiW (minusN n m) = y5 at MI CI AM
    generalize loW (minusN full m) = x6 at NM AM
    generalize hiW (minusN full m) = y6 at NM AM
    generalize loW n = x0 at *
    generalize hiW n = y0 at *
    generalize loW m = x1 at *
    generalize hiW m = y1 at *
    generalize pop 81 (n ||| m) = cO at CO p1
    generalize pop 81 (n &&& m) = cA at CA p1 p3
    generalize pop 81 (minusN full n) = cF at CF p2
    generalize pop 81 (minusN n m) = cI at CI p3
    generalize pop 81 n = cN at *
    generalize pop 81 m = cM at *
    have t1 : ((cN : Int) + (cM : Int) == (cO : Int) + (cA : Int)) = true := by simp; omega
    have t2 : ((cN : Int) + (cF : Int) == 81) = true := by simp; omega
    have t3 : ((cI : Int) == (cN : Int) - (cA : Int)) = true := by simp; omega
    have d1 : cO ≤ 200 := by omega
    have d2 : cA ≤ 200 := by omega
    have d3 : cF ≤ 200 := by omega
    have d4 : cI ≤ 200 := by omega
    have e1 : IntKind.i64.wrap ((cN : Int) + (cM : Int)) = (cN : Int) + (cM : Int) := by rw [IntKind.wrap_i64]; omega
    have e2 : IntKind.i64.wrap ((cO : Int) + (cA : Int)) = (cO : Int) + (cA : Int) := by rw [IntKind.wrap_i64]; omega
    have e3 : IntKind.i64.wrap ((cN : Int) + (cF : Int)) = (cN : Int) + (cF : Int) := by rw [IntKind.wrap_i64]; omega
    have e4 : IntKind.i64.wrap ((cN : Int) - (cA : Int)) = (cN : Int) - (cA : Int) := by rw [IntKind.wrap_i64]; omega
    clear p1 p2 p3 R0 R1 HT hb1 hc1 hf1
    go_wp2_with fail
    go_region_held3 (fun w' => Below wc.heap.size wc w' ∧ w.heap.size < w'.heap.size ∧ w.heap.size + 1 < w'.heap.size ∧ w'.cell? ⟨w.heap.size, 0, none⟩ = some (.int .u64 x0) ∧ w'.cell? ⟨w.heap.size, 1, none⟩ = some (.int .u64 y0) ∧ w'.cell? ⟨w.heap.size + 1, 0, none⟩ = some (.int .u64 x1) ∧ w'.cell? ⟨w.heap.size + 1, 1, none⟩ = some (.int .u64 y1)) (first | exact ⟨(bref wc).drew, hz0, hz1, l0, l1, l2, l3⟩ | exact held_step (by assumption) hb)
      (first
        | (go_at_call_of 25 (Value.int .u64 x0); refine (CN.out _).mono ?_; rintro e wn ⟨rfl, hb⟩)
        | (go_at_call_of 25 (Value.int .u64 x1); refine (CM.out _).mono ?_; rintro e wn ⟨rfl, hb⟩)
        | (go_at_call_of 25 (Value.int .u64 x2); refine (CO.out _).mono ?_; rintro e wn ⟨rfl, hb⟩)
        | (go_at_call_of 25 (Value.int .u64 x3); refine (CA.out _).mono ?_; rintro e wn ⟨rfl, hb⟩)
        | (go_at_call_of 25 (Value.int .u64 x4); refine (CF.out _).mono ?_; rintro e wn ⟨rfl, hb⟩)
        | (go_at_call_of 25 (Value.int .u64 x5); refine (CI.out _).mono ?_; rintro e wn ⟨rfl, hb⟩)
        | (go_at_call 17; refine (OR.out _).mono ?_; rintro e wn ⟨rfl, hb⟩)
        | (go_at_call 18; refine (MI.out _).mono ?_; rintro e wn ⟨rfl, hb⟩)
        | (go_at_call_of 16 (Value.int .u64 x6); refine (AM.out _).mono ?_; rintro e wn ⟨rfl, hb⟩)
        | (go_at_call_of 16 (Value.int .u64 x1); refine (AN.out _).mono ?_; rintro e wn ⟨rfl, hb⟩)
        | (go_at_call_of 19 (Value.int .u64 x0); refine (NN.out _).mono ?_; rintro e wn ⟨rfl, hb⟩)
        | (go_at_call_of 19 (Value.int .u64 x1); refine (NM.out _).mono ?_; rintro e wn ⟨rfl, hb⟩))
    go_wp2
    go_ret
    exact ⟨rfl, bthen HB.out (held_fst (by assumption))⟩
end Go.Proofs.YtiecopkihlaidaaDoor.setCounts
