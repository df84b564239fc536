/-
  The document's answers for steps: what the reference's size, Step and Far return.
-/
import Derived.Test.YtilhicohfnaclaaDoorStepAll
import Derived.Test.YtilhicohfnaclaaDoorRefFar
namespace Go.Proofs.YtilhicohfnaclaaDoor
set_option maxRecDepth 100000
open Go.RowKit
set_option linter.unusedVariables false

theorem refSize_any (n : Int) (w : World) (h0 : -1000 ≤ n) (h1 : n ≤ 1000) :
    Calls Tryd.prog 122 #[.int .i64 n] w fun e w' => e = .returned (.int .i64 (sizeF n)) ∧ w = w' := by
  unfold sizeF
  by_cases h : n < 0
  · rw [if_pos h]
    have e1 : wrap64 (-n) = -n := by unfold wrap64; omega
    have e2 : IntKind.i64.wrap (-n) = -n := by rw [wrap_i64_eq]; exact e1
    go_enter Tryd.func122, Tryd.ntmps122
    go_wp2
    go_ret
    exact ⟨rfl, rfl⟩
  · rw [if_neg h]
    go_enter Tryd.func122, Tryd.ntmps122
    go_wp2
    go_ret
    exact ⟨rfl, rfl⟩

set_option maxHeartbeats 8000000 in
theorem refStep_any (p q t : Int) (h0 : -128 ≤ p) (h1 : p ≤ 127) (w : World) :
    Calls Tryd.prog 102 #[.int .i64 p, .int .i64 q, .int .i64 t] w fun e w' => e = .returned (.bool (refStepF p q t)) ∧ Below w.heap.size w w' := by
  have K := Lib.hid (fun W => refKind_any p W h0 h1)
  have S := Lib.hid (fun W => refSide_any p W h0 h1)
  unfold refStepF
  by_cases h : q < 0 ∨ 80 < q ∨ t < 0 ∨ 80 < t ∨ q = t
  · rw [if_pos h]
    clear K S h0 h1
    rcases (show q < 0 ∨ (0 ≤ q ∧ 80 < q) ∨ (0 ≤ q ∧ q ≤ 80 ∧ t < 0) ∨ (0 ≤ q ∧ q ≤ 80 ∧ 0 ≤ t ∧ 80 < t) ∨ (0 ≤ q ∧ q ≤ 80 ∧ 0 ≤ t ∧ t ≤ 80 ∧ q = t) by omega) with a | ⟨a, b⟩ | ⟨a, b, c⟩ | ⟨a, b, c, d⟩ | ⟨a, b, c, d, rfl⟩
    all_goals
      clear h
      go_enter Tryd.func102, Tryd.ntmps102
      go_wp2
      go_ret
      exact ⟨rfl, bref _⟩
  · rw [if_neg h]
    obtain ⟨q0, q1, t0, t1, ne⟩ : 0 ≤ q ∧ q ≤ 80 ∧ 0 ≤ t ∧ t ≤ 80 ∧ q ≠ t := by omega
    have bne : (q == t) = false := by simpa using ne
    have d1 : -8 ≤ t / 9 - q / 9 ∧ t / 9 - q / 9 ≤ 8 := by omega
    have d2 : -8 ≤ q % 9 - t % 9 ∧ q % 9 - t % 9 ≤ 8 := by omega
    have w1 : IntKind.i64.wrap (t / 9 - q / 9) = t / 9 - q / 9 := by rw [wrap_i64_eq]; unfold wrap64; omega
    have w2 : IntKind.i64.wrap (q % 9 - t % 9) = q % 9 - t % 9 := by rw [wrap_i64_eq]; unfold wrap64; omega
    have y1 : wrap64 (t / 9 - q / 9) = t / 9 - q / 9 := by unfold wrap64; omega
    have y2 : wrap64 (q % 9 - t % 9) = q % 9 - t % 9 := by unfold wrap64; omega
    have ha : aheadF (sideF p) q t = if sideF p = 1 then -(q % 9 - t % 9) else q % 9 - t % 9 := rfl
    rw [ha]
    generalize hF : t / 9 - q / 9 = F at w1 y1 d1 ⊢
    generalize hU : q % 9 - t % 9 = U at w2 y2 d2 ⊢
    clear h ha
    have w3 : IntKind.i64.wrap (-U) = -U := by rw [wrap_i64_eq]; unfold wrap64; omega
    have y3 : wrap64 (-U) = -U := by unfold wrap64; omega
    have Z := Lib.hid (fun W => refSize_any F W (by omega) (by omega))
    have UA := Lib.hid (fun W => refSize_any U W (by omega) (by omega))
    have UB := Lib.hid (fun W => refSize_any (-U) W (by omega) (by omega))
    have f0 : 0 ≤ sizeF F := by unfold sizeF; split <;> omega
    have f8 : sizeF F ≤ 8 := by unfold sizeF; split <;> omega
    have hs : sideF p = 1 ∨ (sideF p == 1) = false := by
      by_cases e : sideF p = 1
      · exact .inl e
      · exact .inr (by simpa using e)
    generalize hf : sizeF F = f at Z f0 f8 ⊢
    rcases hs with hs | hs
    · rw [hs] at S
      rw [if_pos hs]
      generalize hN : -U = N at w3 y3 UB ⊢
      have hv : (N < 0 ∧ sizeF N = -N) ∨ (0 ≤ N ∧ sizeF N = N) := by unfold sizeF; split <;> omega
      generalize hvv : sizeF N = v at UB hv
      generalize kindF p = k at K ⊢
      by_cases kk : k = 1 ∨ k = 3 ∨ k = 4 ∨ k = 5 ∨ k = 9 ∨ k = 10 ∨ k = 11 ∨ k = 12 ∨ k = 8 ∨ k = 14 ∨ k = 15
      · rcases kk with rfl | rfl | rfl | rfl | rfl | rfl | rfl | rfl | rfl | rfl | rfl
        all_goals
          go_enter Tryd.func102, Tryd.ntmps102
          go_wp2_with (first
          | (go_at_call_of 122 (Value.int .i64 F); refine (Z.out _).mono ?_; rintro e w' ⟨rfl, rfl⟩)
          | (go_at_call_of 122 (Value.int .i64 N); refine (UB.out _).mono ?_; rintro e w' ⟨rfl, rfl⟩)
          | (go_at_call 35; refine (S.out _).mono ?_; rintro e w' ⟨rfl, rfl⟩)
          | (go_at_call 59; refine (K.out _).mono ?_; rintro e w' ⟨rfl, rfl⟩))
        all_goals
          go_ret
          refine ⟨congrArg (fun b => Ending.returned (.bool b)) ?_, bref _⟩
          unfold kindStep
          rw [hvv]
          rw [Bool.eq_iff_iff]
          clear Z UA UB S K w1 w2 w3 y1 y2 y3 
          simp
          try omega
      · have e : kindStep k f N = false := by unfold kindStep; rw [if_neg (by omega), if_neg (by omega), if_neg (by omega), if_neg (by omega), if_neg (by omega), if_neg (by omega), if_neg (by omega)]
        rw [e]
        have b1 : (k == 1) = false := by simp; omega
        have b3 : (k == 3) = false := by simp; omega
        have b4 : (k == 4) = false := by simp; omega
        have b5 : (k == 5) = false := by simp; omega
        have b9 : (k == 9) = false := by simp; omega
        have b10 : (k == 10) = false := by simp; omega
        have b11 : (k == 11) = false := by simp; omega
        have b12 : (k == 12) = false := by simp; omega
        have b8 : (k == 8) = false := by simp; omega
        have b14 : (k == 14) = false := by simp; omega
        have b15 : (k == 15) = false := by simp; omega
        clear kk e
        go_enter Tryd.func102, Tryd.ntmps102
        go_wp2_with (first
          | (go_at_call_of 122 (Value.int .i64 F); refine (Z.out _).mono ?_; rintro e w' ⟨rfl, rfl⟩)
          | (go_at_call_of 122 (Value.int .i64 N); refine (UB.out _).mono ?_; rintro e w' ⟨rfl, rfl⟩)
          | (go_at_call 35; refine (S.out _).mono ?_; rintro e w' ⟨rfl, rfl⟩)
          | (go_at_call 59; refine (K.out _).mono ?_; rintro e w' ⟨rfl, rfl⟩))
        all_goals
          go_ret
          exact ⟨rfl, bref _⟩
    · rw [if_neg (by simpa using hs)]
      have hv : (U < 0 ∧ sizeF U = -U) ∨ (0 ≤ U ∧ sizeF U = U) := by unfold sizeF; split <;> omega
      have UB := UA
      generalize sideF p = s at S hs
      generalize hvv : sizeF U = v at UB hv
      generalize kindF p = k at K ⊢
      by_cases kk : k = 1 ∨ k = 3 ∨ k = 4 ∨ k = 5 ∨ k = 9 ∨ k = 10 ∨ k = 11 ∨ k = 12 ∨ k = 8 ∨ k = 14 ∨ k = 15
      · rcases kk with rfl | rfl | rfl | rfl | rfl | rfl | rfl | rfl | rfl | rfl | rfl
        all_goals
          go_enter Tryd.func102, Tryd.ntmps102
          go_wp2_with (first
          | (go_at_call_of 122 (Value.int .i64 F); refine (Z.out _).mono ?_; rintro e w' ⟨rfl, rfl⟩)
          | (go_at_call_of 122 (Value.int .i64 U); refine (UB.out _).mono ?_; rintro e w' ⟨rfl, rfl⟩)
          | (go_at_call 35; refine (S.out _).mono ?_; rintro e w' ⟨rfl, rfl⟩)
          | (go_at_call 59; refine (K.out _).mono ?_; rintro e w' ⟨rfl, rfl⟩))
        all_goals
          go_ret
          refine ⟨congrArg (fun b => Ending.returned (.bool b)) ?_, bref _⟩
          unfold kindStep
          rw [hvv]
          rw [Bool.eq_iff_iff]
          clear Z UA UB S K w1 w2 w3 y1 y2 y3 
          simp
          try omega
      · have e : kindStep k f U = false := by unfold kindStep; rw [if_neg (by omega), if_neg (by omega), if_neg (by omega), if_neg (by omega), if_neg (by omega), if_neg (by omega), if_neg (by omega)]
        rw [e]
        have b1 : (k == 1) = false := by simp; omega
        have b3 : (k == 3) = false := by simp; omega
        have b4 : (k == 4) = false := by simp; omega
        have b5 : (k == 5) = false := by simp; omega
        have b9 : (k == 9) = false := by simp; omega
        have b10 : (k == 10) = false := by simp; omega
        have b11 : (k == 11) = false := by simp; omega
        have b12 : (k == 12) = false := by simp; omega
        have b8 : (k == 8) = false := by simp; omega
        have b14 : (k == 14) = false := by simp; omega
        have b15 : (k == 15) = false := by simp; omega
        clear kk e
        go_enter Tryd.func102, Tryd.ntmps102
        go_wp2_with (first
          | (go_at_call_of 122 (Value.int .i64 F); refine (Z.out _).mono ?_; rintro e w' ⟨rfl, rfl⟩)
          | (go_at_call_of 122 (Value.int .i64 U); refine (UB.out _).mono ?_; rintro e w' ⟨rfl, rfl⟩)
          | (go_at_call 35; refine (S.out _).mono ?_; rintro e w' ⟨rfl, rfl⟩)
          | (go_at_call 59; refine (K.out _).mono ?_; rintro e w' ⟨rfl, rfl⟩))
        all_goals
          go_ret
          exact ⟨rfl, bref _⟩
end Go.Proofs.YtilhicohfnaclaaDoor
