/-
  The head 'slides' of the ray statements is true; plain facts on what a piece reaches.
-/
import Derived.Test.YtnmekghjkajhcaaDoorRay2
import Derived.Test.YtnmekghjkajhcaaDoorReal4
namespace Go.Proofs.YtnmekghjkajhcaaDoor
open Go.RowKit
set_option linter.unusedVariables false
set_option linter.unusedSimpArgs false

theorem slide1 : rayN 2 44 (ofN [41]) = ofN [43, 42, 41] := by decide +kernel
theorem slide2 : pop 81 (rayN 7 0 0) = 16 := by decide +kernel
theorem rook_all : ∀ k : Nat, k < 81 → pop 81 (rayN 7 (k : Int) 0) = 16 := by decide +kernel

theorem ray_less (p q : Int) (n : Nat) : minusN (rayN p q n) (rayN p q 0) = 0 := by
  apply Nat.eq_of_testBit_eq
  intro i
  rw [test_minus, Nat.zero_testBit]
  cases hb : (rayN p q n).testBit i with
  | false => rfl
  | true =>
    have h := (rayN_test p q n i).1 hb
    have h2 : (rayN p q 0).testBit i = true := by
      rw [rayN_test]
      rcases h with h | ⟨j, hj, h⟩
      · exact .inl h
      · exact .inr ⟨j, hj, wayN_more n 0 (fun i h => by simp at h) q _ i h⟩
    rw [h2]
    rfl
theorem ray_step (p q : Int) (n : Nat) : minusN (stepN p q) (rayN p q n) = 0 := by
  apply Nat.eq_of_testBit_eq
  intro i
  rw [test_minus, Nat.zero_testBit]
  cases hb : (stepN p q).testBit i with
  | false => rfl
  | true =>
    have h2 : (rayN p q n).testBit i = true := by
      rw [rayN_test]
      exact .inl hb
    rw [h2]
    rfl
theorem ray_self (p : Int) (k n : Nat) (hk : k < 81) : (rayN p (k : Int) n).testBit k = false := by
  cases hb : (rayN p (k : Int) n).testBit k with
  | false => rfl
  | true =>
    exfalso
    rcases (rayN_test p k n k).1 hb with h | ⟨j, hj, h⟩
    · rw [stepN_test p k k hk] at h
      unfold refStepF at h
      rw [if_pos (by omega)] at h
      cases h
    · have hI := rdirs_I64 (kindF p) (sideF p) _ (List.getElem_mem hj)
      rw [wayN_self n _ hI.1 hI.2 k hk] at h
      cases h
theorem stepN_far (p q : Int) (h : ¬ (0 ≤ q ∧ q ≤ 80)) : stepN p q = 0 := by
  apply Nat.eq_of_testBit_eq
  intro i
  rw [Nat.zero_testBit]
  by_cases hi : i < 81
  · rw [stepN_test p q i hi]
    unfold refStepF
    rw [if_pos (by omega)]
  · exact test_sq (stepN_sq p q) i (by omega)
theorem wayN_far (q : Int) (d : Int × Int) (n : Nat) (h : ¬ (0 ≤ q ∧ q ≤ 80)) : wayN q d n = 0 := by
  unfold wayN
  split
  · rfl
  · have e : fromF d q = -1 := by unfold fromF; rw [if_neg (by omega)]
    rw [e]
    rfl
theorem rayN_far (p q : Int) (n : Nat) (h : ¬ (0 ≤ q ∧ q ≤ 80)) : rayN p q n = 0 := by
  apply Nat.eq_of_testBit_eq
  intro i
  rw [Nat.zero_testBit]
  cases hb : (rayN p q n).testBit i with
  | false => rfl
  | true =>
    exfalso
    rcases (rayN_test p q n i).1 hb with h1 | ⟨j, hj, h1⟩
    · rw [stepN_far p q h] at h1
      simp at h1
    · rw [wayN_far q _ n h] at h1
      simp at h1
theorem ray_black (p q : Int) (n : Nat) (hp : 1 ≤ p ∧ p ≤ 15) : rayPart (rdirsL p) 0 q n (stepN p q) (rdirsL p).length = rayN p q n := by
  unfold rayN
  by_cases h13 : p = 13
  · subst h13
    rfl
  · have h0 := kind_at 0 p (by omega) hp h13
    rw [show 16 * 0 + p = p by omega] at h0
    rw [h0.1, h0.2]

set_option maxHeartbeats 1000000 in
theorem slides_true (w : World) :
    Calls Tryd.prog 5 #[] w fun e w' => e = .returned (.bool true) ∧ Below w.heap.size w w' := by
  have A := Lib.hid (fun W => rayOf_any 2 44 (ofN [41]) (by decide) (by decide) (ofN_sq _) W)
  have B := Lib.hid (fun W => rayOf_any 7 0 0 (by decide) (by decide) Sq.zero W)
  have N := Lib.hid (fun W => count_any (rayN 7 0 0) (rayN_sq _ _ _) W)
  rw [slide2] at N
  rw [slide1] at A
  rw [lo_zero, hi_zero] at B
  have O1 := Lib.hid (fun (b cap : Nat) (W : World) (hb : b < W.heap.size) (h : ∀ (j : Nat) (hj : j < ([41] : List Int).length), W.cell? ⟨b, 0 + j, none⟩ = some (.int .i64 ([41] : List Int)[j])) => of_any b 0 cap [41] W (by simp) hb h)
  have O2 := Lib.hid (fun (b cap : Nat) (W : World) (hb : b < W.heap.size) (h : ∀ (j : Nat) (hj : j < ([43, 42, 41] : List Int).length), W.cell? ⟨b, 0 + j, none⟩ = some (.int .i64 ([43, 42, 41] : List Int)[j])) => of_any b 0 cap [43, 42, 41] W (by simp) hb h)
  generalize loW (ofN [41]) = x1 at A O1
  generalize hiW (ofN [41]) = y1 at A O1
  generalize loW (ofN [43, 42, 41]) = x2 at A O2
  generalize hiW (ofN [43, 42, 41]) = y2 at A O2
  generalize loW (rayN 7 0 0) = x3 at B N
  generalize hiW (rayN 7 0 0) = y3 at B N
  go_enter Tryd.func5, Tryd.ntmps5
  go_wp2_with fail
  refine (O1.out w.heap.size 1 _ (by simp) ?_).mono ?_
  · intro j hj
    obtain rfl : j = 0 := by simpa using hj
    show _ = some (Value.int .i64 41)
    go_simp
  rintro e w1 ⟨rfl, hb1⟩
  have H1 := Lib.hid (bthen (ball (bref w) _) hb1)
  clear hb1 O1
  go_wp2_with (go_at_call 20; refine (A.out _).mono ?_; rintro e w2 ⟨rfl, hb2⟩)
  refine (O2.out w2.heap.size 3 _ (by simp) ?_).mono ?_
  · intro j hj
    have hj3 : j < 3 := hj
    obtain rfl | rfl | rfl : j = 0 ∨ j = 1 ∨ j = 2 := by omega
    · show _ = some (Value.int .i64 43); go_simp
    · show _ = some (Value.int .i64 42); go_simp
    · show _ = some (Value.int .i64 41); go_simp
  rintro e w3 ⟨rfl, hb3⟩
  have H3 := Lib.hid (bthen H1.out (bthen (ball hb2 _) hb3))
  clear hb2 hb3 O2 A
  go_wp2_with (first | (go_at_call 20; refine (B.out _).mono ?_; rintro e w4 ⟨rfl, hb4⟩) | (go_at_call 12; refine (N.out _).mono ?_; rintro e w5 ⟨rfl, hb5⟩))
  go_ret
  exact ⟨rfl, bthen H3.out (bthen hb4 hb5)⟩
end Go.Proofs.YtnmekghjkajhcaaDoor
