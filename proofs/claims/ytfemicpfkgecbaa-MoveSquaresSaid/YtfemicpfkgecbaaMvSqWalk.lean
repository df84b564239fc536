/-
  The walk of the law MoveSquares: for every two numbers it returns true.
-/
import Derived.Test.YtfemicpfkgecbaaMvNames
import Derived.Test.YtfemicpfkgecbaaMvRefSq
import Derived.OpenShut
namespace Go.Proofs.Ytfemicpfkgecbaa.moveSquares
open Go.RowKit
set_option linter.unusedVariables false
set_option linter.unusedSimpArgs false

theorem sqS_inj (a b : Int) (ha : 0 ≤ a ∧ a < 81) : ((sqS a).toList == (sqS b).toList) = (a == b) := by
  rw [bytes_eq, Bool.eq_iff_iff, decide_eq_true_eq, beq_iff_eq]
  constructor
  · intro h
    unfold sqS at h
    rw [if_pos ha] at h
    by_cases hb : 0 ≤ b ∧ b < 81
    · rw [if_pos hb] at h
      have h2 : sqL a = sqL b := by
        have := congrArg (fun s : ByteArray => s.data.toList) h
        simpa using this
      have h3 := congrArg (List.map (fun c : UInt8 => (c.toNat : Int))) h2
      rw [sqL_nums a ha.1 ha.2, sqL_nums b hb.1 hb.2] at h3
      simp only [List.cons.injEq] at h3
      omega
    · rw [if_neg hb] at h
      have := congrArg ByteArray.size h
      exact absurd this (by show ¬ (2 = 0); decide)
  · rintro rfl; rfl
theorem empty_l : (⟨#[]⟩ : ByteArray).toList = [] := ByteArray.toList_mk []
theorem walk_ne (a b : Int) (ha : 0 ≤ a ∧ a < 81) (hb : 0 ≤ b ∧ b < 81) (hn : a ≠ b) (w : World) : Calls Try.prog 5 #[.int .i64 a, .int .i64 b] w fun e w' => e = .returned (.bool true) ∧ Below w.heap.size w w' := by
  have N := Lib.hid (fun W => names_mv W)
  have SA := Lib.hid (fun W => squareS_any a W)
  have SB := Lib.hid (fun W => squareS_any b W)
  have RA := Lib.hid (fun W => refSq_any a ha.1 ha.2 W)
  have e1 : (a == b) = false := by simpa using hn
  have E := sqS_inj a b ha
  rw [e1] at E
  have b1 : ((sqS a).toList == (sqS a).toList) = true := by simp
  obtain ⟨a0, a1⟩ := ha
  obtain ⟨b0, b2⟩ := hb
  generalize sqS a = x at *
  generalize sqS b = y at *
  clear hn
  go_enter Try.func5, Try.ntmps5
  go_wp2_with (first
    | (go_at_call 8; refine (N.out _).mono ?_; rintro e w1 ⟨rfl, hb1⟩)
    | (go_at_call_of 15 (Value.int .i64 a); refine (SA.out _).mono ?_; rintro e w2 ⟨rfl, hb2⟩)
    | (go_at_call_of 15 (Value.int .i64 b); refine (SB.out _).mono ?_; rintro e w3 ⟨rfl, hb3⟩)
    | (go_at_call 16; refine (RA.out _).mono ?_; rintro e w4 ⟨rfl, n, rfl⟩))
  go_ret
  exact ⟨rfl, bthen (bthen (bthen hb1 hb2) hb3) (bdrewN (bref w3) n)⟩
theorem walk_eq (a : Int) (ha : 0 ≤ a ∧ a < 81) (w : World) : Calls Try.prog 5 #[.int .i64 a, .int .i64 a] w fun e w' => e = .returned (.bool true) ∧ Below w.heap.size w w' := by
  have N := Lib.hid (fun W => names_mv W)
  have SA := Lib.hid (fun W => squareS_any a W)
  have RA := Lib.hid (fun W => refSq_any a ha.1 ha.2 W)
  have e1 : (a == a) = true := by simp
  have b1 : ((sqS a).toList == (sqS a).toList) = true := by simp
  obtain ⟨a0, a1⟩ := ha
  generalize sqS a = x at *
  go_enter Try.func5, Try.ntmps5
  go_wp2_with (first
    | (go_at_call 8; refine (N.out _).mono ?_; rintro e w1 ⟨rfl, hb1⟩; have HB := Lib.hid hb1)
    | (go_at_call 15; refine (SA.out _).mono ?_; rintro e w2 ⟨rfl, hb2⟩; have HB := Lib.hid (bthen HB.out hb2))
    | (go_at_call 16; refine (RA.out _).mono ?_; rintro e w4 ⟨rfl, n, rfl⟩))
  go_ret
  exact ⟨rfl, bdrewN HB.out n⟩
theorem walk_b (a b : Int) (ha : 0 ≤ a ∧ a < 81) (hb : b < 0 ∨ (0 ≤ b ∧ 80 < b)) (w : World) : Calls Try.prog 5 #[.int .i64 a, .int .i64 b] w fun e w' => e = .returned (.bool true) ∧ Below w.heap.size w w' := by
  have N := Lib.hid (fun W => names_mv W)
  have SA := Lib.hid (fun W => squareS_any a W)
  have SB := Lib.hid (fun W => squareS_any b W)
  obtain ⟨a0, a1⟩ := ha
  generalize sqS a = x at *
  generalize sqS b = y at *
  rcases hb with hb | ⟨hb0, hb⟩
  all_goals
    go_enter Try.func5, Try.ntmps5
    go_wp2_with (first
      | (go_at_call 8; refine (N.out _).mono ?_; rintro e w1 ⟨rfl, hb1⟩)
      | (go_at_call_of 15 (Value.int .i64 a); refine (SA.out _).mono ?_; rintro e w2 ⟨rfl, hb2⟩)
      | (go_at_call_of 15 (Value.int .i64 b); refine (SB.out _).mono ?_; rintro e w3 ⟨rfl, hb3⟩))
    go_ret
    exact ⟨rfl, bthen (bthen hb1 hb2) hb3⟩
theorem walk_a (a b : Int) (ha : a < 0 ∨ (0 ≤ a ∧ 80 < a)) (w : World) : Calls Try.prog 5 #[.int .i64 a, .int .i64 b] w fun e w' => e = .returned (.bool true) ∧ Below w.heap.size w w' := by
  have N := Lib.hid (fun W => names_mv W)
  have SA := Lib.hid (fun W => squareS_any a W)
  have SB := Lib.hid (fun W => squareS_any b W)
  rw [show sqS a = ⟨#[]⟩ from if_neg (by omega)] at SA
  generalize sqS b = y at *
  rcases ha with ha | ⟨a0, ha⟩
  all_goals
    go_enter Try.func5, Try.ntmps5
    go_wp2_with (first
      | (go_at_call 8; refine (N.out _).mono ?_; rintro e w1 ⟨rfl, hb1⟩)
      | (go_at_call_of 15 (Value.int .i64 a); refine (SA.out _).mono ?_; rintro e w2 ⟨rfl, hb2⟩)
      | (go_at_call_of 15 (Value.int .i64 b); refine (SB.out _).mono ?_; rintro e w3 ⟨rfl, hb3⟩))
    go_ret
    exact ⟨rfl, bthen (bthen hb1 hb2) hb3⟩
theorem walk (a b : Int) (wa : (Lit.int .i64 a).wf = true) (wb : (Lit.int .i64 b).wf = true) (w : World) : Calls Try.prog 5 #[.int .i64 a, .int .i64 b] w fun e w' => e = .returned (.bool true) ∧ Below w.heap.size w w' := by
  by_cases ha : 0 ≤ a ∧ a < 81
  · by_cases hb : 0 ≤ b ∧ b < 81
    · by_cases h : a = b
      · subst h; exact walk_eq a ha w
      · exact walk_ne a b ha hb h w
    · exact walk_b a b ha (by omega) w
  · exact walk_a a b (by omega) w
end Go.Proofs.Ytfemicpfkgecbaa.moveSquares
