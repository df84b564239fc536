/-
  What one thing counts, by its name of three numbers; a name in one way.
-/
import Derived.Test.YtmpjjdlohneiiaaKeyHead
import Derived.OpenShut
namespace Go.Proofs.Ytmpjjdlohneiiaa
open Go.RowKit
set_option linter.unusedVariables false
set_option linter.unusedSimpArgs false

def oneF (a b c : Int) : Nat := if 0 ≤ a ∧ a ≤ 80 then (if b < 1 ∨ 31 < b then 0 else pieceK a b) else if a = -1 ∨ a = -2 then handK (-1 - a) b c else 0
def normF (a c : Int) : Int := if 0 ≤ a ∧ a ≤ 80 then 0 else c
theorem one_code (a b c : Int) (h : oneF a b c ≠ 0) : ∃ n : Nat, oneF a b c = mixN n ∧ n < 18446744073709551616 ∧ ((0 ≤ a ∧ a ≤ 80 ∧ 1 ≤ b ∧ b ≤ 31 ∧ (n : Int) = 16384 + 128 * a + b) ∨ ((a = -1 ∨ a = -2) ∧ 1 ≤ b ∧ b ≤ 7 ∧ 1 ≤ c ∧ c ≤ 18 ∧ (n : Int) = 4194304 + 16384 * (-1 - a) + 128 * b + c)) := by
  unfold oneF at h ⊢
  by_cases ha : 0 ≤ a ∧ a ≤ 80
  · rw [if_pos ha] at h ⊢
    by_cases hb : b < 1 ∨ 31 < b
    · rw [if_pos hb] at h
      exact absurd rfl h
    · rw [if_neg hb] at h ⊢
      by_cases hk : kindF b = 0
      · exact absurd (pieceK_no a b (fun h => h.2.2 hk)) h
      · rw [pieceK_yes a b (by omega) hk]
        exact ⟨_, rfl, by omega, .inl ⟨ha.1, ha.2, by omega, by omega, by omega⟩⟩
  · rw [if_neg ha] at h ⊢
    by_cases hs : a = -1 ∨ a = -2
    · rw [if_pos hs] at h ⊢
      by_cases hc : ((-1 - a = 0 ∨ -1 - a = 1) ∧ (1 ≤ b ∧ b ≤ 7) ∧ (1 ≤ c ∧ c ≤ 18))
      · rw [handK_yes _ _ _ hc]
        exact ⟨_, rfl, by omega, .inr ⟨hs, by omega, by omega, by omega, by omega, by omega⟩⟩
      · exact absurd (handK_no _ _ _ hc) h
    · rw [if_neg hs] at h
      exact absurd rfl h
theorem one_apart (a b c a' b' c' : Int) (h : oneF a b c ≠ 0) (h' : oneF a' b' c' ≠ 0) : oneF a b c = oneF a' b' c' ↔ (a = a' ∧ b = b' ∧ normF a c = normF a' c') := by
  obtain ⟨n, e, hn, hc⟩ := one_code a b c h
  obtain ⟨m, e', hm, hc'⟩ := one_code a' b' c' h'
  unfold normF
  constructor
  · intro hq
    rw [e, e'] at hq
    have hnm := mixN_inj hn hm hq
    rcases hc with hc | hc <;> rcases hc' with hc' | hc'
    · rw [if_pos (by omega), if_pos (by omega)]
      omega
    · omega
    · omega
    · rw [if_neg (by omega), if_neg (by omega)]
      omega
  · rintro ⟨rfl, rfl, hq⟩
    unfold oneF
    by_cases ha : 0 ≤ a ∧ a ≤ 80
    · rw [if_pos ha, if_pos ha]
    · rw [if_neg ha, if_neg ha] at hq
      rw [hq]
theorem one_any (a b c : Int) (w : World) :
    Calls Try.prog 29 #[.agg #[.int .i64 a, .int .i64 b, .int .i64 c]] w fun e w' => e = .returned (.int .u64 (oneF a b c : Int)) ∧ Below w.heap.size w w' := by
  unfold oneF
  by_cases ha : 0 ≤ a ∧ a ≤ 80
  · rw [if_pos ha]
    obtain ⟨a1, a2⟩ := ha
    by_cases hb : b < 1 ∨ 31 < b
    · rw [if_pos hb]
      have hb' : b < 1 ∨ (¬ b < 1 ∧ 31 < b) := by omega
      clear hb
      rcases hb' with b1 | ⟨b1, b2⟩
      all_goals
        go_enter Try.func29, Try.ntmps29
        go_wp2
        go_ret
        exact ⟨rfl, ball (bref _) _⟩
    · rw [if_neg hb]
      have P := Lib.hid (fun W => pieceK_any a b (by omega) (by omega) W)
      generalize ((pieceK a b : Nat) : Int) = v at P ⊢
      have b1 : ¬ b < 1 := by omega
      have b2 : ¬ 31 < b := by omega
      clear hb
      go_enter Try.func29, Try.ntmps29
      go_wp2_with (go_at_call 24; refine (P.out _).mono ?_; rintro e w1 ⟨rfl, hb1⟩)
      go_ret
      exact ⟨rfl, bthen (ball (bref _) _) hb1⟩
  · rw [if_neg ha]
    by_cases hs : a = -1 ∨ a = -2
    · rw [if_pos hs]
      have H := Lib.hid (fun W => handK_any (-1 - a) b c W)
      generalize ((handK (-1 - a) b c : Nat) : Int) = v at H ⊢
      clear ha
      rcases hs with rfl | rfl
      all_goals
        simp only [show (-1 - -1 : Int) = 0 by decide, show (-1 - -2 : Int) = 1 by decide] at H
        go_enter Try.func29, Try.ntmps29
        go_wp2_with (go_at_call 25; refine (H.out _).mono ?_; rintro e w1 ⟨rfl, hb1⟩)
        go_ret
        exact ⟨rfl, bthen (ball (bref _) _) hb1⟩
    · rw [if_neg hs]
      have e1 : (a == -1) = false := by simp; omega
      have e2 : (a == -2) = false := by simp; omega
      have hb' : a < 0 ∨ (0 ≤ a ∧ ¬ a ≤ 80) := by omega
      clear hs ha
      rcases hb' with b1 | ⟨b1, b2⟩
      all_goals
        go_enter Try.func29, Try.ntmps29
        go_wp2
        go_ret
        exact ⟨rfl, ball (bref _) _⟩
theorem norm_any (a b c : Int) (w : World) :
    Calls Try.prog 30 #[.agg #[.int .i64 a, .int .i64 b, .int .i64 c]] w fun e w' => e = .returned (.agg #[.int .i64 a, .int .i64 b, .int .i64 (normF a c)]) ∧ Below w.heap.size w w' := by
  unfold normF
  by_cases ha : 0 ≤ a ∧ a ≤ 80
  · rw [if_pos ha]
    obtain ⟨a1, a2⟩ := ha
    go_enter Try.func30, Try.ntmps30
    go_wp2
    exact bodyPost_ret (v := .agg #[.int .i64 a, .int .i64 b, .int .i64 0]) (by simp [results, Try.results30, go_sem]) rfl ⟨rfl, ball (ball (bref w) _) _⟩
  · rw [if_neg ha]
    have hb' : a < 0 ∨ (0 ≤ a ∧ ¬ a ≤ 80) := by omega
    clear ha
    rcases hb' with b1 | ⟨b1, b2⟩
    all_goals
      go_enter Try.func30, Try.ntmps30
      go_wp2
      exact bodyPost_ret (v := .agg #[.int .i64 a, .int .i64 b, .int .i64 c]) (by simp [results, Try.results30, go_sem]) rfl ⟨rfl, ball (ball (bref w) _) _⟩
end Go.Proofs.Ytmpjjdlohneiiaa
