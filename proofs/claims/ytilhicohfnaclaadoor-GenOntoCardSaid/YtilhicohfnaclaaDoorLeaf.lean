/-
  The piece package's leaf functions: what each returns, for every argument: Up, Raw, Total, split, Kind, Side, Of.
-/
import Derived.Test.YtilhicohfnaclaaDoorFns
import Derived.Test.YtilhicohfnaclaaDoorRows
import Derived.Below
namespace Go.Proofs.YtilhicohfnaclaaDoor
open Go.RowKit

theorem up_any (k : Int) (w : World) : Calls Tryd.prog 87 #[.int .i64 k] w fun e w' => e = .returned (.int .i64 (upF k)) ∧ w = w' := by
  by_cases h : k = 1 ∨ k = 2 ∨ k = 3 ∨ k = 4 ∨ k = 6 ∨ k = 7
  · rcases h with rfl | rfl | rfl | rfl | rfl | rfl
    all_goals
      go_enter Tryd.func87, Tryd.ntmps87
      go_wp2
      go_ret
      exact ⟨rfl, rfl⟩
  · have e := upF_zero k h
    rw [e]
    clear e
    have h1 : (k == 1) = false := by simp; omega
    have h2 : (k == 2) = false := by simp; omega
    have h3 : (k == 3) = false := by simp; omega
    have h4 : (k == 4) = false := by simp; omega
    have h6 : (k == 6) = false := by simp; omega
    have h7 : (k == 7) = false := by simp; omega
    clear h
    go_enter Tryd.func87, Tryd.ntmps87
    go_wp2
    go_ret
    exact ⟨rfl, rfl⟩

theorem upF_wrap (k : Int) (h0 : -9223372036854775808 ≤ k) (h1 : k ≤ 9223372036854775807) (h : ¬ (9 ≤ k ∧ k ≤ 15)) : upF (IntKind.i64.wrap (k - 8)) = 0 := by
  apply upF_zero
  rw [IntKind.wrap_i64]
  omega
theorem rawF_far (k : Int) (h : ¬ (9 ≤ k ∧ k ≤ 15)) (h8 : ¬ (1 ≤ k ∧ k ≤ 8)) : rawF k = 0 := by
  have := rawF_cases k
  omega

theorem raw_any (k : Int) (w : World) (h0 : -9223372036854775808 ≤ k) (h1 : k ≤ 9223372036854775807) : Calls Tryd.prog 101 #[.int .i64 k] w fun e w' => e = .returned (.int .i64 (rawF k)) ∧ w = w' := by
  by_cases h8 : 1 ≤ k ∧ k ≤ 8
  · have e : rawF k = k := if_pos h8
    rw [e]
    clear e
    obtain ⟨a, b⟩ := h8
    go_enter Tryd.func101, Tryd.ntmps101
    go_wp2
    go_ret
    exact ⟨rfl, rfl⟩
  · by_cases h9 : 9 ≤ k ∧ k ≤ 15
    · obtain ⟨a, b⟩ := h9
      have c : ¬ k ≤ 8 := by omega
      have hb : (upF (k - 8) == 0) = decide (k = 13) := by
        unfold upF
        by_cases h13 : k = 13
        · subst h13; rfl
        · rw [if_pos (by omega)]
          simp [h13]; omega
      have e : rawF k = if (k = 13) then 0 else k - 8 := by
        have := rawF_cases k
        split <;> omega
      rw [e]
      clear e h8 h0 h1
      by_cases h13 : k = 13
      · subst h13
        go_enter Tryd.func101, Tryd.ntmps101
        go_wp2_with (go_at_call 87; refine (up_any _ _).mono ?_; rintro e w' ⟨rfl, rfl⟩)
        go_ret
        exact ⟨rfl, rfl⟩
      · rw [if_neg h13]
        simp only [h13, decide_false] at hb
        go_enter Tryd.func101, Tryd.ntmps101
        go_wp2_with (go_at_call 87; refine (up_any _ _).mono ?_; rintro e w' ⟨rfl, rfl⟩)
        go_ret
        exact ⟨rfl, rfl⟩
    · have e := rawF_far k h9 h8
      rw [e]
      by_cases h1' : 1 ≤ k
      · have c : ¬ k ≤ 8 := by omega
        have hb : (upF (k - 8) == 0) = true := by rw [upF_zero _ (by omega)]; rfl
        clear h8 h9 h0 e
        go_enter Tryd.func101, Tryd.ntmps101
        go_wp2_with (go_at_call 87; refine (up_any _ _).mono ?_; rintro e w' ⟨rfl, rfl⟩)
        go_ret
        exact ⟨rfl, rfl⟩
      · have hb : (upF (wrap64 (k - 8)) == 0) = true := by
          rw [upF_zero _ (by simp only [wrap64]; omega)]; rfl
        clear h8 h9 e
        go_enter Tryd.func101, Tryd.ntmps101
        go_wp2_with (go_at_call 87; refine (up_any _ _).mono ?_; rintro e w' ⟨rfl, rfl⟩)
        go_ret
        exact ⟨rfl, rfl⟩

theorem total_any (k : Int) (w : World) : Calls Tryd.prog 125 #[.int .i64 k] w fun e w' => e = .returned (.int .i64 (totalF k)) ∧ w = w' := by
  by_cases h : 1 ≤ k ∧ k ≤ 8
  · obtain rfl | rfl | rfl | rfl | rfl | rfl | rfl | rfl : k = 1 ∨ k = 2 ∨ k = 3 ∨ k = 4 ∨ k = 5 ∨ k = 6 ∨ k = 7 ∨ k = 8 := by omega
    all_goals
      go_enter Tryd.func125, Tryd.ntmps125
      go_wp2
      go_ret
      exact ⟨rfl, rfl⟩
  · have e : totalF k = 0 := by unfold totalF; rw [if_neg (by omega), if_neg (by omega), if_neg (by omega)]
    rw [e]
    clear e
    have h1 : (k == 1) = false := by simp; omega
    have h2 : (k == 2) = false := by simp; omega
    have h3 : (k == 3) = false := by simp; omega
    have h4 : (k == 4) = false := by simp; omega
    have h5 : (k == 5) = false := by simp; omega
    have h6 : (k == 6) = false := by simp; omega
    have h7 : (k == 7) = false := by simp; omega
    have h8 : (k == 8) = false := by simp; omega
    clear h
    go_enter Tryd.func125, Tryd.ntmps125
    go_wp2
    go_ret
    exact ⟨rfl, rfl⟩

theorem split_any (p : Int) (w : World) (h0 : -128 ≤ p) (h1 : p ≤ 127) : Calls Tryd.prog 114 #[.int .i8 p] w fun e w' => e = .returned (.tuple #[.int .i64 (sideF p), .int .i64 (kindF p)]) ∧ w = w' := by
  by_cases h : 16 ≤ p
  · have ec : cutF p = p - 16 := if_pos h
    by_cases hr : rawF (p - 16) = 0
    · have e1 : sideF p = -1 := by unfold sideF; rw [ec, if_pos hr]
      have e2 : kindF p = 0 := by unfold kindF; rw [ec, if_pos hr]
      rw [e1, e2]
      have hb : (rawF (p - 16) == 0) = true := by rw [hr]; rfl
      clear e1 e2 ec hr
      go_enter Tryd.func114, Tryd.ntmps114
      go_wp2_with (go_at_call 101; refine (raw_any _ _ (by omega) (by omega)).mono ?_; rintro e w' ⟨rfl, rfl⟩)
      go_ret2
      exact ⟨rfl, rfl⟩
    · have e1 : sideF p = 1 := by unfold sideF; rw [ec, if_neg hr, if_pos h]
      have e2 : kindF p = p - 16 := by unfold kindF; rw [ec, if_neg hr]
      rw [e1, e2]
      have hb : (rawF (p - 16) == 0) = false := by simpa using hr
      clear e1 e2 ec hr
      go_enter Tryd.func114, Tryd.ntmps114
      go_wp2_with (go_at_call 101; refine (raw_any _ _ (by omega) (by omega)).mono ?_; rintro e w' ⟨rfl, rfl⟩)
      go_ret2
      exact ⟨rfl, rfl⟩
  · have ec : cutF p = p := if_neg h
    by_cases hr : rawF p = 0
    · have e1 : sideF p = -1 := by unfold sideF; rw [ec, if_pos hr]
      have e2 : kindF p = 0 := by unfold kindF; rw [ec, if_pos hr]
      rw [e1, e2]
      have hb : (rawF p == 0) = true := by rw [hr]; rfl
      clear e1 e2 ec hr
      go_enter Tryd.func114, Tryd.ntmps114
      go_wp2_with (go_at_call 101; refine (raw_any _ _ (by omega) (by omega)).mono ?_; rintro e w' ⟨rfl, rfl⟩)
      go_ret2
      exact ⟨rfl, rfl⟩
    · have e1 : sideF p = 0 := by unfold sideF; rw [ec, if_neg hr, if_neg h]
      have e2 : kindF p = p := by unfold kindF; rw [ec, if_neg hr]
      rw [e1, e2]
      have hb : (rawF p == 0) = false := by simpa using hr
      clear e1 e2 ec hr
      go_enter Tryd.func114, Tryd.ntmps114
      go_wp2_with (go_at_call 101; refine (raw_any _ _ (by omega) (by omega)).mono ?_; rintro e w' ⟨rfl, rfl⟩)
      go_ret2
      exact ⟨rfl, rfl⟩

theorem kind_any (p : Int) (w : World) (h0 : -128 ≤ p) (h1 : p ≤ 127) : Calls Tryd.prog 88 #[.int .i8 p] w fun e w' => e = .returned (.int .i64 (kindF p)) ∧ w = w' := by
  go_enter Tryd.func88, Tryd.ntmps88
  go_wp2_with (go_at_call 114; refine (split_any _ _ h0 h1).mono ?_; rintro e w' ⟨rfl, rfl⟩)
  go_ret
  exact ⟨rfl, rfl⟩

theorem side_any (p : Int) (w : World) (h0 : -128 ≤ p) (h1 : p ≤ 127) : Calls Tryd.prog 82 #[.int .i8 p] w fun e w' => e = .returned (.int .i64 (sideF p)) ∧ w = w' := by
  go_enter Tryd.func82, Tryd.ntmps82
  go_wp2_with (go_at_call 114; refine (split_any _ _ h0 h1).mono ?_; rintro e w' ⟨rfl, rfl⟩)
  go_ret
  exact ⟨rfl, rfl⟩

theorem pof_any (s k : Int) (w : World) (h0 : -9223372036854775808 ≤ k) (h1 : k ≤ 9223372036854775807) : Calls Tryd.prog 63 #[.int .i64 s, .int .i64 k] w fun e w' => e = .returned (.int .i8 (ofF s k)) ∧ w = w' := by
  by_cases hr : rawF k = 0
  · have e1 : ofF s k = 0 := if_pos hr
    rw [e1]
    have hb : (rawF k == 0) = true := by rw [hr]; rfl
    clear e1 hr
    go_enter Tryd.func63, Tryd.ntmps63
    go_wp2_with (go_at_call 101; refine (raw_any _ _ h0 h1).mono ?_; rintro e w' ⟨rfl, rfl⟩)
    go_ret
    exact ⟨rfl, rfl⟩
  · have hk : 1 ≤ k ∧ k ≤ 15 := by have := rawF_cases k; omega
    have hb : (rawF k == 0) = false := by simpa using hr
    have e1 : ofF s k = if s = 0 then k else if s = 1 then 16 + k else 0 := if_neg hr
    rw [e1]
    obtain ⟨a, b⟩ := hk
    clear e1 hr h0 h1
    by_cases s0 : s = 0
    · subst s0
      go_enter Tryd.func63, Tryd.ntmps63
      go_wp2_with (go_at_call 101; refine (raw_any _ _ (by omega) (by omega)).mono ?_; rintro e w' ⟨rfl, rfl⟩)
      go_ret
      exact ⟨rfl, rfl⟩
    · by_cases s1 : s = 1
      · subst s1
        go_enter Tryd.func63, Tryd.ntmps63
        go_wp2_with (go_at_call 101; refine (raw_any _ _ (by omega) (by omega)).mono ?_; rintro e w' ⟨rfl, rfl⟩)
        go_ret
        exact ⟨rfl, rfl⟩
      · rw [if_neg s0, if_neg s1]
        have c0 : (s == 0) = false := by simpa using s0
        have c1 : (s == 1) = false := by simpa using s1
        clear s0 s1
        go_enter Tryd.func63, Tryd.ntmps63
        go_wp2_with (go_at_call 101; refine (raw_any _ _ (by omega) (by omega)).mono ?_; rintro e w' ⟨rfl, rfl⟩)
        go_ret
        exact ⟨rfl, rfl⟩
end Go.Proofs.YtilhicohfnaclaaDoor
