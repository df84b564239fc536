/-
  The reference's Far.
-/
import Derived.Test.YtilhicohfnaclaaDoorFar
namespace Go.Proofs.YtilhicohfnaclaaDoor
set_option maxRecDepth 100000
open Go.RowKit
set_option linter.unusedVariables false

theorem refFar_any (s q : Int) (w : World) :
    Calls Tryd.prog 92 #[.int .i64 s, .int .i64 q] w fun e w' => e = .returned (.int .i64 (farF s q)) ∧ w = w' := by
  unfold farF
  by_cases h : 0 ≤ q ∧ q < 81
  · rw [if_pos h]
    have hw : wrap64 (8 - q % 9) = 8 - q % 9 := by unfold wrap64; omega
    have hw2 : IntKind.i64.wrap (8 - q % 9) = 8 - q % 9 := by rw [wrap_i64_eq]; exact hw
    have n0 : ¬ q < 0 := by omega
    have n1 : ¬ 80 < q := by omega
    by_cases s0 : s = 0
    · subst s0
      go_enter Tryd.func92, Tryd.ntmps92
      go_wp2
      go_ret
      exact ⟨rfl, rfl⟩
    · rw [if_neg s0]
      by_cases s1 : s = 1
      · subst s1
        go_enter Tryd.func92, Tryd.ntmps92
        go_wp2
        go_ret
        exact ⟨rfl, rfl⟩
      · rw [if_neg s1]
        have b0 : (s == 0) = false := by simpa using s0
        by_cases s2 : s < 0
        · go_enter Tryd.func92, Tryd.ntmps92
          go_wp2
          go_ret
          exact ⟨rfl, rfl⟩
        · have s3 : 1 < s := by omega
          go_enter Tryd.func92, Tryd.ntmps92
          go_wp2
          go_ret
          exact ⟨rfl, rfl⟩
  · rw [if_neg h]
    by_cases n0 : q < 0
    · go_enter Tryd.func92, Tryd.ntmps92
      go_wp2
      go_ret
      exact ⟨rfl, rfl⟩
    · have n1 : 80 < q := by omega
      go_enter Tryd.func92, Tryd.ntmps92
      go_wp2
      go_ret
      exact ⟨rfl, rfl⟩

end Go.Proofs.YtilhicohfnaclaaDoor
