/-
  The walk of the law WholeReach where the side or the square is none.
-/
import Derived.Test.YtnmekghjkajhcaaDoorReachLem
namespace Go.Proofs.YtnmekghjkajhcaaDoor.wholeReach
open Go.RowKit
set_option linter.unusedVariables false
set_option linter.unusedSimpArgs false

set_option maxRecDepth 100000 in
set_option maxHeartbeats 2000000 in
theorem out_s (s q a b : Int) (h0 : s ≠ 0) (h1 : s ≠ 1) (w : World) :
    Calls Tryd.prog 4 #[.int .i64 s, .int .i64 q, .agg #[.int .u64 a, .int .u64 b]] w fun e w' => e = .returned (.bool true) ∧ Below w.heap.size w w' := by
  have O14 := Lib.hid (fun W => pof_any 0 14 W (by omega) (by omega))
  rw [show ofF 0 14 = 14 by decide] at O14
  have N14 := Lib.hid (fun W => name_any 14 W (by omega) (by omega))
  rw [head_name] at N14
  have ALL := Lib.hid (fun W => all_any W)
  have C81 := Lib.hid (fun W => count_any full Sq.full W)
  rw [head_full] at C81
  have ST := Lib.hid (fun W => stepOf_any 8 40 (by omega) (by omega) W)
  have C8 := Lib.hid (fun W => count_any (stepN 8 40) (stepN_sq _ _) W)
  rw [head_step] at C8
  have RL := Lib.hid (fun W => rayOf_any 2 8 0 (by omega) (by omega) Sq.zero W)
  rw [lo_zero, hi_zero] at RL
  have C8' := Lib.hid (fun W => count_any (rayN 2 8 0) (rayN_sq _ _ _) W)
  rw [head_ray] at C8'
  generalize loW (stepN 8 40) = sl at ST C8
  generalize hiW (stepN 8 40) = sh at ST C8
  generalize loW (rayN 2 8 0) = r2l at RL C8'
  generalize hiW (rayN 2 8 0) = r2h at RL C8'
  generalize loW full = fl at ALL C81
  generalize hiW full = fh at ALL C81
  have n0 : (s != 0) = true := bne_iff_ne.2 h0
  have n1 : (s != 1) = true := bne_iff_ne.2 h1
  have HB := Lib.hid (ball (ball (ball (bref w) (.cells #[.int .i64 s] 3)) (.cells #[.int .i64 q] 3)) (.cells #[.int .u64 a, .int .u64 b] 26))
  have HV := Lib.hid (show (((w.alloc (.cells #[.int .i64 s] 3)).alloc (.cells #[.int .i64 q] 3)).alloc (.cells #[.int .u64 a, .int .u64 b] 26)).cell? ⟨w.heap.size, 0, none⟩ = some (.int .i64 s) ∧ (((w.alloc (.cells #[.int .i64 s] 3)).alloc (.cells #[.int .i64 q] 3)).alloc (.cells #[.int .u64 a, .int .u64 b] 26)).cell? ⟨w.heap.size + 1, 0, none⟩ = some (.int .i64 q) ∧ w.heap.size < (((w.alloc (.cells #[.int .i64 s] 3)).alloc (.cells #[.int .i64 q] 3)).alloc (.cells #[.int .u64 a, .int .u64 b] 26)).heap.size ∧ w.heap.size + 1 < (((w.alloc (.cells #[.int .i64 s] 3)).alloc (.cells #[.int .i64 q] 3)).alloc (.cells #[.int .u64 a, .int .u64 b] 26)).heap.size from ⟨by go_simp, by go_simp, by simp; omega, by simp⟩)
  have HX := Lib.hid (bref (((w.alloc (.cells #[.int .i64 s] 3)).alloc (.cells #[.int .i64 q] 3)).alloc (.cells #[.int .u64 a, .int .u64 b] 26)))
  go_enter Tryd.func4, Tryd.ntmps4
  go_wp2_with (first
      | (go_at_call 17; refine (O14.out _).mono ?_; rintro e w1 ⟨rfl, rfl⟩)
      | (go_at_call 16; refine (N14.out _).mono ?_; rintro e wn ⟨rfl, hb⟩; have HB := Lib.hid (bthen HB.out hb); have HX := Lib.hid (bthen HX.out hb); clear hb)
      | (go_at_call 18; refine (ALL.out _).mono ?_; rintro e wn ⟨rfl, hb⟩; have HB := Lib.hid (bthen HB.out hb); have HX := Lib.hid (bthen HX.out hb); clear hb)
      | (go_at_call_of 12 (Value.int .u64 fl); refine (C81.out _).mono ?_; rintro e wn ⟨rfl, hb⟩; have HB := Lib.hid (bthen HB.out hb); have HX := Lib.hid (bthen HX.out hb); clear hb)
      | (go_at_call 19; refine (ST.out _).mono ?_; rintro e wn ⟨rfl, hb⟩; have HB := Lib.hid (bthen HB.out hb); have HX := Lib.hid (bthen HX.out hb); clear hb)
      | (go_at_call_of 12 (Value.int .u64 sl); refine (C8.out _).mono ?_; rintro e wn ⟨rfl, hb⟩; have HB := Lib.hid (bthen HB.out hb); have HX := Lib.hid (bthen HX.out hb); clear hb)
      | (go_at_call 20; refine (RL.out _).mono ?_; rintro e wn ⟨rfl, hb⟩; have HB := Lib.hid (bthen HB.out hb); have HX := Lib.hid (bthen HX.out hb); clear hb)
      | (go_at_call_of 12 (Value.int .u64 r2l); refine (C8'.out _).mono ?_; rintro e wn ⟨rfl, hb⟩; have HB := Lib.hid (bthen HB.out hb); have HX := Lib.hid (bthen HX.out hb); clear hb; have v0 := (HX.out.cell (p := ⟨w.heap.size, 0, none⟩) HV.out.2.2.1).trans HV.out.1; have v1 := (HX.out.cell (p := ⟨w.heap.size + 1, 0, none⟩) HV.out.2.2.2).trans HV.out.2.1))
  go_ret
  exact ⟨rfl, HB.out⟩
set_option maxRecDepth 100000 in
set_option maxHeartbeats 2000000 in
theorem out_lo0 (s q a b : Int) (h0 : s = 0) (h1 : q < 0) (w : World) :
    Calls Tryd.prog 4 #[.int .i64 s, .int .i64 q, .agg #[.int .u64 a, .int .u64 b]] w fun e w' => e = .returned (.bool true) ∧ Below w.heap.size w w' := by
  have O14 := Lib.hid (fun W => pof_any 0 14 W (by omega) (by omega))
  rw [show ofF 0 14 = 14 by decide] at O14
  have N14 := Lib.hid (fun W => name_any 14 W (by omega) (by omega))
  rw [head_name] at N14
  have ALL := Lib.hid (fun W => all_any W)
  have C81 := Lib.hid (fun W => count_any full Sq.full W)
  rw [head_full] at C81
  have ST := Lib.hid (fun W => stepOf_any 8 40 (by omega) (by omega) W)
  have C8 := Lib.hid (fun W => count_any (stepN 8 40) (stepN_sq _ _) W)
  rw [head_step] at C8
  have RL := Lib.hid (fun W => rayOf_any 2 8 0 (by omega) (by omega) Sq.zero W)
  rw [lo_zero, hi_zero] at RL
  have C8' := Lib.hid (fun W => count_any (rayN 2 8 0) (rayN_sq _ _ _) W)
  rw [head_ray] at C8'
  generalize loW (stepN 8 40) = sl at ST C8
  generalize hiW (stepN 8 40) = sh at ST C8
  generalize loW (rayN 2 8 0) = r2l at RL C8'
  generalize hiW (rayN 2 8 0) = r2h at RL C8'
  generalize loW full = fl at ALL C81
  generalize hiW full = fh at ALL C81
  subst h0
  have n0 : decide (q < 0) = true := decide_eq_true h1
  have HB := Lib.hid (ball (ball (ball (bref w) (.cells #[.int .i64 0] 3)) (.cells #[.int .i64 q] 3)) (.cells #[.int .u64 a, .int .u64 b] 26))
  have HV := Lib.hid (show (((w.alloc (.cells #[.int .i64 0] 3)).alloc (.cells #[.int .i64 q] 3)).alloc (.cells #[.int .u64 a, .int .u64 b] 26)).cell? ⟨w.heap.size, 0, none⟩ = some (.int .i64 0) ∧ (((w.alloc (.cells #[.int .i64 0] 3)).alloc (.cells #[.int .i64 q] 3)).alloc (.cells #[.int .u64 a, .int .u64 b] 26)).cell? ⟨w.heap.size + 1, 0, none⟩ = some (.int .i64 q) ∧ w.heap.size < (((w.alloc (.cells #[.int .i64 0] 3)).alloc (.cells #[.int .i64 q] 3)).alloc (.cells #[.int .u64 a, .int .u64 b] 26)).heap.size ∧ w.heap.size + 1 < (((w.alloc (.cells #[.int .i64 0] 3)).alloc (.cells #[.int .i64 q] 3)).alloc (.cells #[.int .u64 a, .int .u64 b] 26)).heap.size from ⟨by go_simp, by go_simp, by simp; omega, by simp⟩)
  have HX := Lib.hid (bref (((w.alloc (.cells #[.int .i64 0] 3)).alloc (.cells #[.int .i64 q] 3)).alloc (.cells #[.int .u64 a, .int .u64 b] 26)))
  go_enter Tryd.func4, Tryd.ntmps4
  go_wp2_with (first
      | (go_at_call 17; refine (O14.out _).mono ?_; rintro e w1 ⟨rfl, rfl⟩)
      | (go_at_call 16; refine (N14.out _).mono ?_; rintro e wn ⟨rfl, hb⟩; have HB := Lib.hid (bthen HB.out hb); have HX := Lib.hid (bthen HX.out hb); clear hb)
      | (go_at_call 18; refine (ALL.out _).mono ?_; rintro e wn ⟨rfl, hb⟩; have HB := Lib.hid (bthen HB.out hb); have HX := Lib.hid (bthen HX.out hb); clear hb)
      | (go_at_call_of 12 (Value.int .u64 fl); refine (C81.out _).mono ?_; rintro e wn ⟨rfl, hb⟩; have HB := Lib.hid (bthen HB.out hb); have HX := Lib.hid (bthen HX.out hb); clear hb)
      | (go_at_call 19; refine (ST.out _).mono ?_; rintro e wn ⟨rfl, hb⟩; have HB := Lib.hid (bthen HB.out hb); have HX := Lib.hid (bthen HX.out hb); clear hb)
      | (go_at_call_of 12 (Value.int .u64 sl); refine (C8.out _).mono ?_; rintro e wn ⟨rfl, hb⟩; have HB := Lib.hid (bthen HB.out hb); have HX := Lib.hid (bthen HX.out hb); clear hb)
      | (go_at_call 20; refine (RL.out _).mono ?_; rintro e wn ⟨rfl, hb⟩; have HB := Lib.hid (bthen HB.out hb); have HX := Lib.hid (bthen HX.out hb); clear hb)
      | (go_at_call_of 12 (Value.int .u64 r2l); refine (C8'.out _).mono ?_; rintro e wn ⟨rfl, hb⟩; have HB := Lib.hid (bthen HB.out hb); have HX := Lib.hid (bthen HX.out hb); clear hb; have v0 := (HX.out.cell (p := ⟨w.heap.size, 0, none⟩) HV.out.2.2.1).trans HV.out.1; have v1 := (HX.out.cell (p := ⟨w.heap.size + 1, 0, none⟩) HV.out.2.2.2).trans HV.out.2.1))
  go_ret
  exact ⟨rfl, HB.out⟩
set_option maxRecDepth 100000 in
set_option maxHeartbeats 2000000 in
theorem out_hi0 (s q a b : Int) (h0 : s = 0) (h1 : 80 < q) (w : World) :
    Calls Tryd.prog 4 #[.int .i64 s, .int .i64 q, .agg #[.int .u64 a, .int .u64 b]] w fun e w' => e = .returned (.bool true) ∧ Below w.heap.size w w' := by
  have O14 := Lib.hid (fun W => pof_any 0 14 W (by omega) (by omega))
  rw [show ofF 0 14 = 14 by decide] at O14
  have N14 := Lib.hid (fun W => name_any 14 W (by omega) (by omega))
  rw [head_name] at N14
  have ALL := Lib.hid (fun W => all_any W)
  have C81 := Lib.hid (fun W => count_any full Sq.full W)
  rw [head_full] at C81
  have ST := Lib.hid (fun W => stepOf_any 8 40 (by omega) (by omega) W)
  have C8 := Lib.hid (fun W => count_any (stepN 8 40) (stepN_sq _ _) W)
  rw [head_step] at C8
  have RL := Lib.hid (fun W => rayOf_any 2 8 0 (by omega) (by omega) Sq.zero W)
  rw [lo_zero, hi_zero] at RL
  have C8' := Lib.hid (fun W => count_any (rayN 2 8 0) (rayN_sq _ _ _) W)
  rw [head_ray] at C8'
  generalize loW (stepN 8 40) = sl at ST C8
  generalize hiW (stepN 8 40) = sh at ST C8
  generalize loW (rayN 2 8 0) = r2l at RL C8'
  generalize hiW (rayN 2 8 0) = r2h at RL C8'
  generalize loW full = fl at ALL C81
  generalize hiW full = fh at ALL C81
  subst h0
  have n2 : ¬ q < 0 := by omega
  have n0 : decide (q < 0) = false := decide_eq_false n2
  have n1 : decide (80 < q) = true := decide_eq_true h1
  have HB := Lib.hid (ball (ball (ball (bref w) (.cells #[.int .i64 0] 3)) (.cells #[.int .i64 q] 3)) (.cells #[.int .u64 a, .int .u64 b] 26))
  have HV := Lib.hid (show (((w.alloc (.cells #[.int .i64 0] 3)).alloc (.cells #[.int .i64 q] 3)).alloc (.cells #[.int .u64 a, .int .u64 b] 26)).cell? ⟨w.heap.size, 0, none⟩ = some (.int .i64 0) ∧ (((w.alloc (.cells #[.int .i64 0] 3)).alloc (.cells #[.int .i64 q] 3)).alloc (.cells #[.int .u64 a, .int .u64 b] 26)).cell? ⟨w.heap.size + 1, 0, none⟩ = some (.int .i64 q) ∧ w.heap.size < (((w.alloc (.cells #[.int .i64 0] 3)).alloc (.cells #[.int .i64 q] 3)).alloc (.cells #[.int .u64 a, .int .u64 b] 26)).heap.size ∧ w.heap.size + 1 < (((w.alloc (.cells #[.int .i64 0] 3)).alloc (.cells #[.int .i64 q] 3)).alloc (.cells #[.int .u64 a, .int .u64 b] 26)).heap.size from ⟨by go_simp, by go_simp, by simp; omega, by simp⟩)
  have HX := Lib.hid (bref (((w.alloc (.cells #[.int .i64 0] 3)).alloc (.cells #[.int .i64 q] 3)).alloc (.cells #[.int .u64 a, .int .u64 b] 26)))
  go_enter Tryd.func4, Tryd.ntmps4
  go_wp2_with (first
      | (go_at_call 17; refine (O14.out _).mono ?_; rintro e w1 ⟨rfl, rfl⟩)
      | (go_at_call 16; refine (N14.out _).mono ?_; rintro e wn ⟨rfl, hb⟩; have HB := Lib.hid (bthen HB.out hb); have HX := Lib.hid (bthen HX.out hb); clear hb)
      | (go_at_call 18; refine (ALL.out _).mono ?_; rintro e wn ⟨rfl, hb⟩; have HB := Lib.hid (bthen HB.out hb); have HX := Lib.hid (bthen HX.out hb); clear hb)
      | (go_at_call_of 12 (Value.int .u64 fl); refine (C81.out _).mono ?_; rintro e wn ⟨rfl, hb⟩; have HB := Lib.hid (bthen HB.out hb); have HX := Lib.hid (bthen HX.out hb); clear hb)
      | (go_at_call 19; refine (ST.out _).mono ?_; rintro e wn ⟨rfl, hb⟩; have HB := Lib.hid (bthen HB.out hb); have HX := Lib.hid (bthen HX.out hb); clear hb)
      | (go_at_call_of 12 (Value.int .u64 sl); refine (C8.out _).mono ?_; rintro e wn ⟨rfl, hb⟩; have HB := Lib.hid (bthen HB.out hb); have HX := Lib.hid (bthen HX.out hb); clear hb)
      | (go_at_call 20; refine (RL.out _).mono ?_; rintro e wn ⟨rfl, hb⟩; have HB := Lib.hid (bthen HB.out hb); have HX := Lib.hid (bthen HX.out hb); clear hb)
      | (go_at_call_of 12 (Value.int .u64 r2l); refine (C8'.out _).mono ?_; rintro e wn ⟨rfl, hb⟩; have HB := Lib.hid (bthen HB.out hb); have HX := Lib.hid (bthen HX.out hb); clear hb; have v0 := (HX.out.cell (p := ⟨w.heap.size, 0, none⟩) HV.out.2.2.1).trans HV.out.1; have v1 := (HX.out.cell (p := ⟨w.heap.size + 1, 0, none⟩) HV.out.2.2.2).trans HV.out.2.1))
  go_ret
  exact ⟨rfl, HB.out⟩
set_option maxRecDepth 100000 in
set_option maxHeartbeats 2000000 in
theorem out_lo1 (s q a b : Int) (h0 : s = 1) (h1 : q < 0) (w : World) :
    Calls Tryd.prog 4 #[.int .i64 s, .int .i64 q, .agg #[.int .u64 a, .int .u64 b]] w fun e w' => e = .returned (.bool true) ∧ Below w.heap.size w w' := by
  have O14 := Lib.hid (fun W => pof_any 0 14 W (by omega) (by omega))
  rw [show ofF 0 14 = 14 by decide] at O14
  have N14 := Lib.hid (fun W => name_any 14 W (by omega) (by omega))
  rw [head_name] at N14
  have ALL := Lib.hid (fun W => all_any W)
  have C81 := Lib.hid (fun W => count_any full Sq.full W)
  rw [head_full] at C81
  have ST := Lib.hid (fun W => stepOf_any 8 40 (by omega) (by omega) W)
  have C8 := Lib.hid (fun W => count_any (stepN 8 40) (stepN_sq _ _) W)
  rw [head_step] at C8
  have RL := Lib.hid (fun W => rayOf_any 2 8 0 (by omega) (by omega) Sq.zero W)
  rw [lo_zero, hi_zero] at RL
  have C8' := Lib.hid (fun W => count_any (rayN 2 8 0) (rayN_sq _ _ _) W)
  rw [head_ray] at C8'
  generalize loW (stepN 8 40) = sl at ST C8
  generalize hiW (stepN 8 40) = sh at ST C8
  generalize loW (rayN 2 8 0) = r2l at RL C8'
  generalize hiW (rayN 2 8 0) = r2h at RL C8'
  generalize loW full = fl at ALL C81
  generalize hiW full = fh at ALL C81
  subst h0
  have n0 : decide (q < 0) = true := decide_eq_true h1
  have HB := Lib.hid (ball (ball (ball (bref w) (.cells #[.int .i64 1] 3)) (.cells #[.int .i64 q] 3)) (.cells #[.int .u64 a, .int .u64 b] 26))
  have HV := Lib.hid (show (((w.alloc (.cells #[.int .i64 1] 3)).alloc (.cells #[.int .i64 q] 3)).alloc (.cells #[.int .u64 a, .int .u64 b] 26)).cell? ⟨w.heap.size, 0, none⟩ = some (.int .i64 1) ∧ (((w.alloc (.cells #[.int .i64 1] 3)).alloc (.cells #[.int .i64 q] 3)).alloc (.cells #[.int .u64 a, .int .u64 b] 26)).cell? ⟨w.heap.size + 1, 0, none⟩ = some (.int .i64 q) ∧ w.heap.size < (((w.alloc (.cells #[.int .i64 1] 3)).alloc (.cells #[.int .i64 q] 3)).alloc (.cells #[.int .u64 a, .int .u64 b] 26)).heap.size ∧ w.heap.size + 1 < (((w.alloc (.cells #[.int .i64 1] 3)).alloc (.cells #[.int .i64 q] 3)).alloc (.cells #[.int .u64 a, .int .u64 b] 26)).heap.size from ⟨by go_simp, by go_simp, by simp; omega, by simp⟩)
  have HX := Lib.hid (bref (((w.alloc (.cells #[.int .i64 1] 3)).alloc (.cells #[.int .i64 q] 3)).alloc (.cells #[.int .u64 a, .int .u64 b] 26)))
  go_enter Tryd.func4, Tryd.ntmps4
  go_wp2_with (first
      | (go_at_call 17; refine (O14.out _).mono ?_; rintro e w1 ⟨rfl, rfl⟩)
      | (go_at_call 16; refine (N14.out _).mono ?_; rintro e wn ⟨rfl, hb⟩; have HB := Lib.hid (bthen HB.out hb); have HX := Lib.hid (bthen HX.out hb); clear hb)
      | (go_at_call 18; refine (ALL.out _).mono ?_; rintro e wn ⟨rfl, hb⟩; have HB := Lib.hid (bthen HB.out hb); have HX := Lib.hid (bthen HX.out hb); clear hb)
      | (go_at_call_of 12 (Value.int .u64 fl); refine (C81.out _).mono ?_; rintro e wn ⟨rfl, hb⟩; have HB := Lib.hid (bthen HB.out hb); have HX := Lib.hid (bthen HX.out hb); clear hb)
      | (go_at_call 19; refine (ST.out _).mono ?_; rintro e wn ⟨rfl, hb⟩; have HB := Lib.hid (bthen HB.out hb); have HX := Lib.hid (bthen HX.out hb); clear hb)
      | (go_at_call_of 12 (Value.int .u64 sl); refine (C8.out _).mono ?_; rintro e wn ⟨rfl, hb⟩; have HB := Lib.hid (bthen HB.out hb); have HX := Lib.hid (bthen HX.out hb); clear hb)
      | (go_at_call 20; refine (RL.out _).mono ?_; rintro e wn ⟨rfl, hb⟩; have HB := Lib.hid (bthen HB.out hb); have HX := Lib.hid (bthen HX.out hb); clear hb)
      | (go_at_call_of 12 (Value.int .u64 r2l); refine (C8'.out _).mono ?_; rintro e wn ⟨rfl, hb⟩; have HB := Lib.hid (bthen HB.out hb); have HX := Lib.hid (bthen HX.out hb); clear hb; have v0 := (HX.out.cell (p := ⟨w.heap.size, 0, none⟩) HV.out.2.2.1).trans HV.out.1; have v1 := (HX.out.cell (p := ⟨w.heap.size + 1, 0, none⟩) HV.out.2.2.2).trans HV.out.2.1))
  go_ret
  exact ⟨rfl, HB.out⟩
set_option maxRecDepth 100000 in
set_option maxHeartbeats 2000000 in
theorem out_hi1 (s q a b : Int) (h0 : s = 1) (h1 : 80 < q) (w : World) :
    Calls Tryd.prog 4 #[.int .i64 s, .int .i64 q, .agg #[.int .u64 a, .int .u64 b]] w fun e w' => e = .returned (.bool true) ∧ Below w.heap.size w w' := by
  have O14 := Lib.hid (fun W => pof_any 0 14 W (by omega) (by omega))
  rw [show ofF 0 14 = 14 by decide] at O14
  have N14 := Lib.hid (fun W => name_any 14 W (by omega) (by omega))
  rw [head_name] at N14
  have ALL := Lib.hid (fun W => all_any W)
  have C81 := Lib.hid (fun W => count_any full Sq.full W)
  rw [head_full] at C81
  have ST := Lib.hid (fun W => stepOf_any 8 40 (by omega) (by omega) W)
  have C8 := Lib.hid (fun W => count_any (stepN 8 40) (stepN_sq _ _) W)
  rw [head_step] at C8
  have RL := Lib.hid (fun W => rayOf_any 2 8 0 (by omega) (by omega) Sq.zero W)
  rw [lo_zero, hi_zero] at RL
  have C8' := Lib.hid (fun W => count_any (rayN 2 8 0) (rayN_sq _ _ _) W)
  rw [head_ray] at C8'
  generalize loW (stepN 8 40) = sl at ST C8
  generalize hiW (stepN 8 40) = sh at ST C8
  generalize loW (rayN 2 8 0) = r2l at RL C8'
  generalize hiW (rayN 2 8 0) = r2h at RL C8'
  generalize loW full = fl at ALL C81
  generalize hiW full = fh at ALL C81
  subst h0
  have n2 : ¬ q < 0 := by omega
  have n0 : decide (q < 0) = false := decide_eq_false n2
  have n1 : decide (80 < q) = true := decide_eq_true h1
  have HB := Lib.hid (ball (ball (ball (bref w) (.cells #[.int .i64 1] 3)) (.cells #[.int .i64 q] 3)) (.cells #[.int .u64 a, .int .u64 b] 26))
  have HV := Lib.hid (show (((w.alloc (.cells #[.int .i64 1] 3)).alloc (.cells #[.int .i64 q] 3)).alloc (.cells #[.int .u64 a, .int .u64 b] 26)).cell? ⟨w.heap.size, 0, none⟩ = some (.int .i64 1) ∧ (((w.alloc (.cells #[.int .i64 1] 3)).alloc (.cells #[.int .i64 q] 3)).alloc (.cells #[.int .u64 a, .int .u64 b] 26)).cell? ⟨w.heap.size + 1, 0, none⟩ = some (.int .i64 q) ∧ w.heap.size < (((w.alloc (.cells #[.int .i64 1] 3)).alloc (.cells #[.int .i64 q] 3)).alloc (.cells #[.int .u64 a, .int .u64 b] 26)).heap.size ∧ w.heap.size + 1 < (((w.alloc (.cells #[.int .i64 1] 3)).alloc (.cells #[.int .i64 q] 3)).alloc (.cells #[.int .u64 a, .int .u64 b] 26)).heap.size from ⟨by go_simp, by go_simp, by simp; omega, by simp⟩)
  have HX := Lib.hid (bref (((w.alloc (.cells #[.int .i64 1] 3)).alloc (.cells #[.int .i64 q] 3)).alloc (.cells #[.int .u64 a, .int .u64 b] 26)))
  go_enter Tryd.func4, Tryd.ntmps4
  go_wp2_with (first
      | (go_at_call 17; refine (O14.out _).mono ?_; rintro e w1 ⟨rfl, rfl⟩)
      | (go_at_call 16; refine (N14.out _).mono ?_; rintro e wn ⟨rfl, hb⟩; have HB := Lib.hid (bthen HB.out hb); have HX := Lib.hid (bthen HX.out hb); clear hb)
      | (go_at_call 18; refine (ALL.out _).mono ?_; rintro e wn ⟨rfl, hb⟩; have HB := Lib.hid (bthen HB.out hb); have HX := Lib.hid (bthen HX.out hb); clear hb)
      | (go_at_call_of 12 (Value.int .u64 fl); refine (C81.out _).mono ?_; rintro e wn ⟨rfl, hb⟩; have HB := Lib.hid (bthen HB.out hb); have HX := Lib.hid (bthen HX.out hb); clear hb)
      | (go_at_call 19; refine (ST.out _).mono ?_; rintro e wn ⟨rfl, hb⟩; have HB := Lib.hid (bthen HB.out hb); have HX := Lib.hid (bthen HX.out hb); clear hb)
      | (go_at_call_of 12 (Value.int .u64 sl); refine (C8.out _).mono ?_; rintro e wn ⟨rfl, hb⟩; have HB := Lib.hid (bthen HB.out hb); have HX := Lib.hid (bthen HX.out hb); clear hb)
      | (go_at_call 20; refine (RL.out _).mono ?_; rintro e wn ⟨rfl, hb⟩; have HB := Lib.hid (bthen HB.out hb); have HX := Lib.hid (bthen HX.out hb); clear hb)
      | (go_at_call_of 12 (Value.int .u64 r2l); refine (C8'.out _).mono ?_; rintro e wn ⟨rfl, hb⟩; have HB := Lib.hid (bthen HB.out hb); have HX := Lib.hid (bthen HX.out hb); clear hb; have v0 := (HX.out.cell (p := ⟨w.heap.size, 0, none⟩) HV.out.2.2.1).trans HV.out.1; have v1 := (HX.out.cell (p := ⟨w.heap.size + 1, 0, none⟩) HV.out.2.2.2).trans HV.out.2.1))
  go_ret
  exact ⟨rfl, HB.out⟩
end Go.Proofs.YtnmekghjkajhcaaDoor.wholeReach
