/-
  The walk of the law StepEdges: for every piece and every number it returns true.
-/
import Derived.Test.YtopggngfchjfhaaDoorStepMore
import Derived.Test.YtopggngfchjfhaaDoorStepHead
import Derived.Test.YtopggngfchjfhaaDoorLists2
namespace Go.Proofs.YtopggngfchjfhaaDoor
open Go.RowKit
set_option linter.unusedVariables false
set_option linter.unusedSimpArgs false

theorem Own.uni {w : World} {B : Nat} {v : Value} {l : List Int} (h : Own w B v l) : ∃ ao cap, v = .slice ao l.length cap ∧ (l.length ≠ 0 → ∃ g, ao = some ⟨g, 0, none⟩ ∧ B ≤ g ∧ g < w.heap.size ∧ ∀ (j : Nat) (hj : j < l.length), w.cell? ⟨g, j, none⟩ = some (.int .i64 l[j])) := by
  rcases h.parts with ⟨rfl, rfl⟩ | ⟨g, cap, rfl, hb, hg, hc⟩
  · exact ⟨none, 0, rfl, fun h => absurd rfl h⟩
  · exact ⟨_, cap, rfl, fun _ => ⟨g, rfl, hb, hg, fun j hj => by have := hc j hj; rw [Nat.zero_add] at this; exact this⟩⟩
theorem edge_fact (p q : Int) (hq : 0 ≤ q ∧ q ≤ 80) (t : Int) (h : t ∈ sqI (stepN p q)) : 0 ≤ t ∧ t ≤ 80 ∧ t ≠ q ∧ -1 ≤ t / 9 - q / 9 ∧ t / 9 - q / 9 ≤ 1 ∧ -2 ≤ t % 9 - q % 9 ∧ t % 9 - q % 9 ≤ 2 := by
  have h0 := h
  unfold sqI at h0
  obtain ⟨i, hi0, rfl⟩ := List.mem_map.1 h0
  obtain ⟨hi, hb⟩ := (mem_sqI _ i).1 h
  rw [stepN_test p q i hi] at hb
  unfold refStepF at hb
  by_cases hc : q < 0 ∨ 80 < q ∨ (i : Int) < 0 ∨ 80 < (i : Int) ∨ q = i
  · rw [if_pos hc] at hb
    cases hb
  · rw [if_neg hc] at hb
    have key : ∀ k f u : Int, kindStep k f u = true → f ≤ 1 ∧ -2 ≤ u ∧ u ≤ 2 := by
      intro k f u hk
      have e0 : sizeF u = if u < 0 then -u else u := rfl
      unfold kindStep at hk
      repeat' split at hk
      all_goals simp only [decide_eq_true_eq, reduceCtorEq] at hk
      all_goals (split at e0 <;> omega)
    obtain ⟨a, b, c⟩ := key _ _ _ hb
    have e1 : sizeF ((i : Int) / 9 - q / 9) = if (i : Int) / 9 - q / 9 < 0 then -((i : Int) / 9 - q / 9) else (i : Int) / 9 - q / 9 := rfl
    have e2 : aheadF (sideF p) q i = if sideF p = 1 then -(q % 9 - (i : Int) % 9) else q % 9 - (i : Int) % 9 := rfl
    refine ⟨by omega, by omega, by omega, ?_, ?_, ?_, ?_⟩
    · split at e1 <;> omega
    · split at e1 <;> omega
    · split at e2 <;> omega
    · split at e2 <;> omega
theorem stepN_out (p q : Int) (h : ¬ (0 ≤ q ∧ q ≤ 80)) : stepN p q = 0 := by
  apply Nat.eq_of_testBit_eq
  intro i
  rw [Nat.zero_testBit]
  by_cases hi : i < 81
  · rw [stepN_test p q i hi]
    unfold refStepF
    rw [if_pos (by omega)]
  · exact test_sq (stepN_sq p q) i (by omega)

namespace stepEdges
theorem bounds_i8 {a : Int} (h : (Lit.int .i8 a).wf = true) : -128 ≤ a ∧ a ≤ 127 := by
  simpa [Lit.wf, IntKind.min, IntKind.max, IntKind.signed, IntKind.bits] using h
theorem w64 (n : Int) (h0 : -100000 ≤ n) (h1 : n ≤ 100000) : wrap64 n = n := by
  unfold wrap64
  omega
theorem wi64 (n : Int) (h0 : -100000 ≤ n) (h1 : n ≤ 100000) : IntKind.i64.wrap n = n := by
  rw [wrap_i64_eq]
  exact w64 n h0 h1

set_option maxHeartbeats 1000000 in
theorem walk_sq (p q : Int) (p0 : -128 ≤ p) (p1 : p ≤ 127) (hq : 0 ≤ q ∧ q ≤ 80) (w : World) (hT : Tab w) (hw : 1 ≤ w.heap.size) :
    Calls Tryd.prog 9 #[.int .i8 p, .int .i64 q] w fun e w' => e = .returned (.bool true) ∧ Below w.heap.size w w' := by
  have H := Lib.hid (steps_true w)
  have O := Lib.hid (fun W => stepOf_any p q p0 p1 W)
  have SQ := Lib.hid (fun (W : World) (t : Tab W) (h : 1 ≤ W.heap.size) => squares_any (stepN p q) (stepN_sq p q) W t h)
  have C := Lib.hid (fun W => count_any (stepN p q) (stepN_sq p q) W)
  have hc8 := pop_step p q
  generalize pop 81 (stepN p q) = c at C hc8
  have c8 : (c : Int) ≤ 8 := by omega
  have EF := Lib.hid (edge_fact p q hq)
  have hll := sqI_le (stepN p q)
  have HT := Lib.hid hT
  clear hT
  generalize sqI (stepN p q) = l at SQ EF hll
  generalize loW (stepN p q) = x at O SQ C
  generalize hiW (stepN p q) = y at O SQ C
  obtain ⟨q0, q1⟩ := hq
  go_enter Tryd.func9, Tryd.ntmps9
  go_wp2_with (first
    | (go_at_call 34; refine H.out.mono ?_; rintro e w1 ⟨rfl, hb1⟩)
    | (go_at_call 35; refine (O.out _).mono ?_; rintro e w2 ⟨rfl, hb2⟩))
  have hb12 := bthen hb1 hb2
  have hs2 := hb12.size
  refine (SQ.out _ (HT.out.grow (ball hb12 _)) (by simp)).mono ?_
  rintro e w3 ⟨v, rfl, hv, hb3⟩
  obtain ⟨ao, cap, rfl, hp⟩ := hv.uni
  have B0 : Below w.heap.size w w3 := bthen (ball hb12 _) hb3
  have V0 : Var w3 w2.heap.size x y := Var.grow ⟨by simp, by go_simp, by go_simp, by go_simp, by go_simp⟩ hb3
  have HP := Lib.hid hp
  clear hv hp hb3 hb1 hb2 hb12 O SQ H HT hs2
  go_wp2_with fail
  have hs3 := V0.lt
  generalize w2.heap.size = b at V0 hs3 HP ⊢
  go_loopw [26] (fun i wr => ∃ j : Nat, j ≤ l.length ∧ i = .int .i64 j ∧ Below w3.heap.size w3 wr) (fun i _ => l.length - (intOf i).toNat)
  case atStart => exact ⟨0, Nat.zero_le _, rfl, bref _⟩
  case round =>
    obtain ⟨j, hj, rfl, hB⟩ := hrel
    have HB := Lib.hid hB
    have wj : wrap64 ((j : Int) + 1) = ((j + 1 : Nat) : Int) := w64 _ (by omega) (by omega)
    by_cases hlt : j < l.length
    · obtain ⟨g, rfl, -, hg, hcs⟩ := HP.out (by omega)
      have c0 : wr.cell? ⟨g, j, none⟩ = some (.int .i64 l[j]) := (hB.cell (p := ⟨g, j, none⟩) hg).trans (hcs j hlt)
      obtain ⟨t0, t1, tq, f0, f1, r0, r1⟩ := EF.out l[j] (List.getElem_mem hlt)
      have Ft := Lib.hid (fun W => stays (file_any l[j] W t0 t1))
      have Rt := Lib.hid (fun W => stays (rank_any l[j] W t0 t1))
      have Fq := Lib.hid (fun W => stays (file_any q W q0 q1))
      have Rq := Lib.hid (fun W => stays (rank_any q W q0 q1))
      clear hcs EF HP hB
      generalize l[j] = t at c0 Ft Rt t0 t1 tq f0 f1 r0 r1
      have bq : (t == q) = false := by simpa using tq
      generalize hF : t / 9 - q / 9 = f at f0 f1
      generalize hR : t % 9 - q % 9 = r at r0 r1
      have y1 : wrap64 (t / 9 - q / 9) = f := by rw [w64 _ (by omega) (by omega)]; exact hF
      have y2 : wrap64 (t % 9 - q % 9) = r := by rw [w64 _ (by omega) (by omega)]; exact hR
      have x1 : IntKind.i64.wrap (t / 9 - q / 9) = f := by rw [wi64 _ (by omega) (by omega)]; exact hF
      have x2 : IntKind.i64.wrap (t % 9 - q % 9) = r := by rw [wi64 _ (by omega) (by omega)]; exact hR
      have n1 : ¬ f < -1 := by omega
      have n2 : ¬ 1 < f := by omega
      have n3 : ¬ r < -2 := by omega
      have n4 : ¬ 2 < r := by omega
      clear hF hR f0 f1 r0 r1 t0 t1 tq
      go_wp2_with (first
        | (go_at_call_of 30 (Value.int .i64 t); refine (Ft.out _).mono ?_; rintro e w4 ⟨rfl, hb4⟩)
        | (go_at_call_of 30 (Value.int .i64 q); refine (Fq.out _).mono ?_; rintro e w5 ⟨rfl, hb5⟩)
        | (go_at_call_of 31 (Value.int .i64 t); refine (Rt.out _).mono ?_; rintro e w6 ⟨rfl, hb6⟩)
        | (go_at_call_of 31 (Value.int .i64 q); refine (Rq.out _).mono ?_; rintro e w7 ⟨rfl, hb7⟩))
      go_roundw
      case rel => exact ⟨j + 1, by omega, by go_num, HB.out.trans ((bthen (bthen (bthen hb4 hb5) hb6) hb7).mono HB.out.size)⟩
      case measure => simp [intOf]; omega
    · obtain rfl : j = l.length := by omega
      have V := V0.grow hB
      have l0 := V.lo
      have l1 := V.hi
      have lz := V.lt
      clear V V0 hB HP EF hlt
      go_wp2_with (go_at_call 26; refine (C.out _).mono ?_; rintro e w4 ⟨rfl, hb4⟩)
      go_ret
      exact ⟨rfl, bthen (B0.trans (HB.out.mono B0.size)) hb4⟩

theorem walk_far (p q : Int) (p0 : -128 ≤ p) (p1 : p ≤ 127) (hq : ¬ (0 ≤ q ∧ q ≤ 80)) (w : World) :
    Calls Tryd.prog 9 #[.int .i8 p, .int .i64 q] w fun e w' => e = .returned (.bool true) ∧ Below w.heap.size w w' := by
  have H := Lib.hid (steps_true w)
  have O := Lib.hid (fun W => stepOf_any p q p0 p1 W)
  have E := Lib.hid (fun W => empty_any 0 W)
  rw [stepN_out p q hq] at O
  rw [lo_zero, hi_zero] at O E
  have hr : q < 0 ∨ (0 ≤ q ∧ 80 < q) := by omega
  clear hq
  rcases hr with a | ⟨a, b⟩
  all_goals
    go_enter Tryd.func9, Tryd.ntmps9
    go_wp2_with (first
      | (go_at_call 34; refine H.out.mono ?_; rintro e w1 ⟨rfl, hb1⟩)
      | (go_at_call 35; refine (O.out _).mono ?_; rintro e w2 ⟨rfl, hb2⟩)
      | (go_at_call 21; refine (E.out _).mono ?_; rintro e w3 ⟨rfl, hb3⟩))
    go_ret
    exact ⟨rfl, bthen (ball (bthen hb1 hb2) _) hb3⟩

theorem walk (p q : Int) (g0 : (Lit.int .i8 p).wf = true) (g1 : (Lit.int .i64 q).wf = true) (w : World) (hT : Tab w) :
    Calls Tryd.prog 9 #[.int .i8 p, .int .i64 q] w fun e w' => e = .returned (.bool true) ∧ Below w.heap.size w w' := by
  obtain ⟨p0, p1⟩ := bounds_i8 g0
  have hw : 1 ≤ w.heap.size := block_lt_of_cell (hT 0 (by omega))
  by_cases hq : 0 ≤ q ∧ q ≤ 80
  · exact walk_sq p q p0 p1 hq w hT hw
  · exact walk_far p q p0 p1 hq w
end stepEdges
end Go.Proofs.YtopggngfchjfhaaDoor
