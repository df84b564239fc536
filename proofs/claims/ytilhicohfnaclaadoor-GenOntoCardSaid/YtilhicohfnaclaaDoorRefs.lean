/-
  The document's answers for pieces: what each of the reference's plain functions returns, for every number: Raw, Up, Total, Kind, Side.
-/
import Derived.Test.YtilhicohfnaclaaDoorLeaf
import Derived.Lib.Hide
namespace Go.Proofs.YtilhicohfnaclaaDoor
set_option maxRecDepth 100000
open Go.RowKit

theorem refRaw_any (k : Int) (w : World) (h0 : -9223372036854775808 ≤ k) : Calls Tryd.prog 110 #[.int .i64 k] w fun e w' => e = .returned (.int .i64 (rawF k)) ∧ w = w' := by
  have c := rawF_cases k
  by_cases h1 : k < 1
  · have e : rawF k = 0 := by omega
    rw [e]
    clear e c
    go_enter Tryd.func110, Tryd.ntmps110
    go_wp2
    go_ret
    exact ⟨rfl, rfl⟩
  · by_cases h2 : 15 < k
    · have e : rawF k = 0 := by omega
      rw [e]
      clear e c
      go_enter Tryd.func110, Tryd.ntmps110
      go_wp2
      go_ret
      exact ⟨rfl, rfl⟩
    · by_cases h3 : k = 13
      · subst h3
        go_enter Tryd.func110, Tryd.ntmps110
        go_wp2
        go_ret
        exact ⟨rfl, rfl⟩
      · have b3 : (k == 13) = false := by simpa using h3
        by_cases h4 : 8 < k
        · have e : rawF k = k - 8 := by omega
          rw [e]
          clear e c h3
          go_enter Tryd.func110, Tryd.ntmps110
          go_wp2
          go_ret
          exact ⟨rfl, rfl⟩
        · have e : rawF k = k := by omega
          rw [e]
          clear e c h3
          go_enter Tryd.func110, Tryd.ntmps110
          go_wp2
          go_ret
          exact ⟨rfl, rfl⟩

theorem refUp_any (k : Int) (w : World) : Calls Tryd.prog 91 #[.int .i64 k] w fun e w' => e = .returned (.int .i64 (upF k)) ∧ w = w' := by
  by_cases h : 1 ≤ k ∧ k ≤ 7
  · obtain rfl | rfl | rfl | rfl | rfl | rfl | rfl : k = 1 ∨ k = 2 ∨ k = 3 ∨ k = 4 ∨ k = 5 ∨ k = 6 ∨ k = 7 := by omega
    all_goals
      go_enter Tryd.func91, Tryd.ntmps91
      go_wp2
      go_ret
      exact ⟨rfl, rfl⟩
  · rw [upF_zero k (by omega)]
    by_cases h1 : 1 ≤ k
    · have h2 : ¬ k ≤ 7 := by omega
      clear h
      go_enter Tryd.func91, Tryd.ntmps91
      go_wp2
      go_ret
      exact ⟨rfl, rfl⟩
    · clear h
      go_enter Tryd.func91, Tryd.ntmps91
      go_wp2
      go_ret
      exact ⟨rfl, rfl⟩

set_option maxHeartbeats 1000000 in
theorem refTotal_any (k : Int) (w : World) : Calls Tryd.prog 72 #[.int .i64 k] w fun e w' => e = .returned (.int .i64 (totalF k)) ∧ Below w.heap.size w w' := by
  by_cases h : 1 ≤ k ∧ k ≤ 8
  · obtain rfl | rfl | rfl | rfl | rfl | rfl | rfl | rfl : k = 1 ∨ k = 2 ∨ k = 3 ∨ k = 4 ∨ k = 5 ∨ k = 6 ∨ k = 7 ∨ k = 8 := by omega
    all_goals
      go_enter Tryd.func72, Tryd.ntmps72
      go_wp2
      go_ret
      exact ⟨rfl, (Below.refl _ _).alloc (Nat.le_refl _) _⟩
  · have e : totalF k = 0 := by unfold totalF; rw [if_neg (by omega), if_neg (by omega), if_neg (by omega)]
    rw [e]
    clear e
    by_cases h1 : k < 1
    · clear h
      go_enter Tryd.func72, Tryd.ntmps72
      go_wp2
      go_ret
      exact ⟨rfl, (Below.refl _ _).alloc (Nat.le_refl _) _⟩
    · have h2 : 8 < k := by omega
      clear h
      go_enter Tryd.func72, Tryd.ntmps72
      go_wp2
      go_ret
      exact ⟨rfl, (Below.refl _ _).alloc (Nat.le_refl _) _⟩
end Go.Proofs.YtilhicohfnaclaaDoor
