/-
  The walk of the law StepDirs: for every way and every number it returns true.
-/
import Derived.Test.YtopggngfchjfhaaStepHead
namespace Go.Proofs.Ytopggngfchjfhaa.stepDirs
open Go.RowKit
set_option linter.unusedVariables false

theorem bounds_i64 {a : Int} (h : (Lit.int .i64 a).wf = true) : -9223372036854775808 ≤ a ∧ a ≤ 9223372036854775807 := by
  simpa [Lit.wf, IntKind.min, IntKind.max, IntKind.signed, IntKind.bits] using h

/-- Where a way leads. -/
theorem from_cases (f r q : Int) (hf : -9223372036854775808 ≤ f ∧ f ≤ 9223372036854775807) (hr : -9223372036854775808 ≤ r ∧ r ≤ 9223372036854775807) :
    fromF (f, r) q = -1 ∨ (0 ≤ q ∧ q < 81 ∧ 0 ≤ fromF (f, r) q ∧ fromF (f, r) q < 81 ∧ fromF (f, r) q / 9 - q / 9 = f ∧ fromF (f, r) q % 9 - q % 9 = r ∧ fromF (turnF 1 (f, r)) (fromF (f, r) q) = q) := by
  by_cases hq : 0 ≤ q ∧ q < 81
  · have e1 : fromF (f, r) q = squareF (wrap64 (q / 9 + f)) (wrap64 (q % 9 + r)) := if_pos hq
    by_cases hs : 0 ≤ wrap64 (q / 9 + f) ∧ wrap64 (q / 9 + f) ≤ 8 ∧ 0 ≤ wrap64 (q % 9 + r) ∧ wrap64 (q % 9 + r) ≤ 8
    · right
      have e2 : squareF (wrap64 (q / 9 + f)) (wrap64 (q % 9 + r)) = wrap64 (q / 9 + f) * 9 + wrap64 (q % 9 + r) := if_pos hs
      rw [e1, e2]
      have w1 : wrap64 (q / 9 + f) = q / 9 + f := by
        have := hs
        unfold wrap64 at this ⊢
        omega
      have w2 : wrap64 (q % 9 + r) = q % 9 + r := by
        have := hs
        unfold wrap64 at this ⊢
        omega
      rw [w1, w2] at hs ⊢
      have hf2 : -8 ≤ f ∧ f ≤ 8 := by omega
      have hr2 : -8 ≤ r ∧ r ≤ 8 := by omega
      refine ⟨by omega, by omega, by omega, by omega, by omega, by omega, ?_⟩
      have w3 : wrap64 (-f) = -f := by unfold wrap64; omega
      have w4 : wrap64 (-r) = -r := by unfold wrap64; omega
      have et : turnF 1 (f, r) = (-f, -r) := by
        show (wrap64 (-f), wrap64 (-r)) = _
        rw [w3, w4]
      rw [et]
      exact (fromF_eq (-f, -r) _ q (by omega) hq (by simp only; omega) (by simp only; omega)).2 (by simp only; omega)
    · left
      rw [e1]
      exact if_neg hs
  · left
    exact if_neg hq

theorem walk (f r q : Int) (g0 : (Lit.int .i64 f).wf = true) (g1 : (Lit.int .i64 r).wf = true) (g2 : (Lit.int .i64 q).wf = true) (w : World) :
    Calls Try.prog 6 #[.agg #[.int .i64 f, .int .i64 r], .int .i64 q] w fun e w' => e = .returned (.bool true) ∧ Below w.heap.size w w' := by
  have H := Lib.hid (fun W => steps_true W)
  have F := Lib.hid (fun W => from_any f r q W)
  have hc := from_cases f r q (bounds_i64 g0) (bounds_i64 g1)
  clear g0 g1 g2
  generalize hz : fromF (f, r) q = z at F hc
  rcases hc with rfl | ⟨q0, q1, z0, z1, ef, er, hback⟩
  · clear hz
    go_enter Try.func6, Try.ntmps6
    go_wp2_with (first
      | (go_at_call 8; refine (H.out _).mono ?_; rintro e w1 ⟨rfl, hb1⟩; obtain ⟨hc1, hf1⟩ := bcells hb1; have hz1 : w.heap.size < w1.heap.size := by (have := hb1.size; simp at this; omega))
      | (go_at_call 16; refine (F.out _).mono ?_; rintro e w2 ⟨rfl, hb2⟩))
    go_ret
    exact ⟨rfl, bthen (bthen (ball (bref w) _) hb1) hb2⟩
  · have z80 : z ≤ 80 := by omega
    have T := Lib.hid (fun W => turn_any f r 1 W)
    have T0 := Lib.hid (fun W => turn_any f r 0 W)
    rw [show turnF 0 (f, r) = (f, r) from rfl] at T0
    have B := Lib.hid (fun W => from_any (turnF 1 (f, r)).1 (turnF 1 (f, r)).2 z W)
    change Hid (∀ W : World, Calls _ _ _ W fun e w' => e = .returned (.int .i64 (fromF (turnF 1 (f, r)) z)) ∧ _) at B
    rw [hback] at B
    generalize (turnF 1 (f, r)).1 = tf at T B
    generalize (turnF 1 (f, r)).2 = tr at T B
    have Fz := Lib.hid (fun W => stays (file_any z W (by omega) (by omega)))
    have Rz := Lib.hid (fun W => stays (rank_any z W (by omega) (by omega)))
    have Fq := Lib.hid (fun W => stays (file_any q W (by omega) (by omega)))
    have Rq := Lib.hid (fun W => stays (rank_any q W (by omega) (by omega)))
    have e1 : IntKind.i64.wrap (z / 9 - q / 9) = f := by rw [wrap_i64_eq]; unfold wrap64; omega
    have e2 : IntKind.i64.wrap (z % 9 - q % 9) = r := by rw [wrap_i64_eq]; unfold wrap64; omega
    have y1 : wrap64 (z / 9 - q / 9) = f := by unfold wrap64; omega
    have y2 : wrap64 (z % 9 - q % 9) = r := by unfold wrap64; omega
    clear ef er hback hz
    go_enter Try.func6, Try.ntmps6
    go_wp2_with (first
      | (go_at_call 8; refine (H.out _).mono ?_; rintro e w1 ⟨rfl, hb1⟩; obtain ⟨hc1, hf1⟩ := bcells hb1; have hz1 : w.heap.size < w1.heap.size := by (have := hb1.size; simp at this; omega))
      | (go_at_call_of 16 (Value.int .i64 q); refine (F.out _).mono ?_; rintro e w2 ⟨rfl, hb2⟩; obtain ⟨hc2, hf2⟩ := bcells hb2; have hz2 : w.heap.size < w2.heap.size := by (have := hb2.size; omega)))
    have k0 : w2.cell? ⟨w.heap.size, 0, none⟩ = some (.int .i64 f) := by go_simp
    have k1 : w2.cell? ⟨w.heap.size, 1, none⟩ = some (.int .i64 r) := by go_simp
    have HB := Lib.hid (bthen (bthen (ball (bref w) _) hb1) hb2)
    clear hc1 hf1 hc2 hf2 hb1 hb2 hz1 H F
    go_region_held3 (fun w' => Below w2.heap.size w2 w' ∧ w.heap.size < w'.heap.size ∧ w'.cell? ⟨w.heap.size, 0, none⟩ = some (.int .i64 f) ∧ w'.cell? ⟨w.heap.size, 1, none⟩ = some (.int .i64 r)) (first | assumption | exact ⟨(bref w2).drew, hz2, k0, k1⟩ | exact held2_step (by assumption) hb)
      (first
        | (go_at_call_of 22 (Value.int .i64 1); refine (T.out _).mono ?_; rintro e wn ⟨rfl, hb⟩)
        | (go_at_call_of 22 (Value.int .i64 0); refine (T0.out _).mono ?_; rintro e wn ⟨rfl, hb⟩)
        | (go_at_call 16; refine (B.out _).mono ?_; rintro e wn ⟨rfl, hb⟩)
        | (go_at_call_of 23 (Value.int .i64 z); refine (Fz.out _).mono ?_; rintro e wn ⟨rfl, hb⟩)
        | (go_at_call_of 23 (Value.int .i64 q); refine (Fq.out _).mono ?_; rintro e wn ⟨rfl, hb⟩)
        | (go_at_call_of 24 (Value.int .i64 z); refine (Rz.out _).mono ?_; rintro e wn ⟨rfl, hb⟩)
        | (go_at_call_of 24 (Value.int .i64 q); refine (Rq.out _).mono ?_; rintro e wn ⟨rfl, hb⟩))
    go_wp2
    go_ret
    exact ⟨rfl, bthen HB.out (held2_fst (by assumption))⟩
end Go.Proofs.Ytopggngfchjfhaa.stepDirs
