/-
  The reference's Check and Text of moves.
-/
import Derived.Test.YtfemicpfkgecbaaMvRefSq
import Derived.Deep.RegionHeld3
namespace Go.Proofs.Ytfemicpfkgecbaa
open Go.RowKit
set_option linter.unusedVariables false
set_option linter.unusedSimpArgs false

theorem refCheck_mv (f t d : Int) (p : Bool) (w : World) :
    Calls Try.prog 12 #[.agg #[.int .i64 f, .int .i64 t, .int .i64 d, .bool p]] w fun e w' => e = .returned (.int .i64 (checkM f t d p)) ∧ Below w.heap.size w w' := by
  have hz := checkM_zero f t d p
  by_cases ht0 : t < 0
  · rw [show checkM f t d p = 1 from if_neg (by omega)]
    clear hz
    go_enter Try.func12, Try.ntmps12
    go_wp2
    go_ret
    exact ⟨rfl, ball (bref w) _⟩
  · by_cases ht1 : 80 < t
    · rw [show checkM f t d p = 1 from if_neg (by omega)]
      clear hz
      go_enter Try.func12, Try.ntmps12
      go_wp2
      go_ret
      exact ⟨rfl, ball (bref w) _⟩
    · by_cases hd : d = 0
      · subst hd
        by_cases hf0 : f < 0
        · rw [show checkM f t 0 p = 1 by unfold checkM; rw [if_pos (by omega), if_pos rfl, if_neg (by omega)]]
          clear hz
          go_enter Try.func12, Try.ntmps12
          go_wp2
          go_ret
          exact ⟨rfl, ball (bref w) _⟩
        · by_cases hf1 : 80 < f
          · rw [show checkM f t 0 p = 1 by unfold checkM; rw [if_pos (by omega), if_pos rfl, if_neg (by omega)]]
            clear hz
            go_enter Try.func12, Try.ntmps12
            go_wp2
            go_ret
            exact ⟨rfl, ball (bref w) _⟩
          · by_cases he : f = t
            · rw [show checkM f t 0 p = 70 by unfold checkM; rw [if_pos (by omega), if_pos rfl, if_pos (by omega), if_pos he]]
              have b1 : (f == t) = true := by simpa using he
              clear hz he
              go_enter Try.func12, Try.ntmps12
              go_wp2
              go_ret
              exact ⟨rfl, ball (bref w) _⟩
            · rw [show checkM f t 0 p = 0 by unfold checkM; rw [if_pos (by omega), if_pos rfl, if_pos (by omega), if_neg he]]
              have b1 : (f == t) = false := by simpa using he
              clear hz he
              go_enter Try.func12, Try.ntmps12
              go_wp2
              go_ret
              exact ⟨rfl, ball (bref w) _⟩
      · have hv : checkM f t d p = if 1 ≤ d ∧ d ≤ 7 ∧ f = 0 ∧ p = false then 0 else 70 := by unfold checkM; rw [if_pos (by omega), if_neg hd]
        rw [hv]
        have b0 : (d != 0) = true := by simpa using hd
        clear hz hv hd
        by_cases hd1 : d < 1
        · rw [if_neg (by omega)]
          go_enter Try.func12, Try.ntmps12
          go_wp2
          go_ret
          exact ⟨rfl, ball (bref w) _⟩
        · by_cases hd7 : 7 < d
          · rw [if_neg (by omega)]
            go_enter Try.func12, Try.ntmps12
            go_wp2
            go_ret
            exact ⟨rfl, ball (bref w) _⟩
          · by_cases hf : f = 0
            · subst hf
              cases p
              · rw [if_pos ⟨by omega, by omega, rfl, rfl⟩]
                go_enter Try.func12, Try.ntmps12
                go_wp2
                go_ret
                exact ⟨rfl, ball (bref w) _⟩
              · rw [if_neg (by simp)]
                go_enter Try.func12, Try.ntmps12
                go_wp2
                go_ret
                exact ⟨rfl, ball (bref w) _⟩
            · rw [if_neg (by omega)]
              have b1 : (f != 0) = true := by simpa using hf
              clear hf
              go_enter Try.func12, Try.ntmps12
              go_wp2
              go_ret
              exact ⟨rfl, ball (bref w) _⟩

theorem run_letter (d : Int) (h1 : 1 ≤ d) (h7 : d ≤ 7) (w : World) : Sem.run Try.prog (Instr.slice 9 (Value.string { data := #[80, 76, 78, 83, 71, 66, 82] }) (some (Value.int IntKind.i64 (IntKind.i64.wrap (d - 1)))) (some (Value.int IntKind.i64 d)) none) w = Result.ok (.string ⟨#[letB d]⟩) w := by
  obtain rfl | rfl | rfl | rfl | rfl | rfl | rfl : d = 1 ∨ d = 2 ∨ d = 3 ∨ d = 4 ∨ d = 5 ∨ d = 6 ∨ d = 7 := by omega
  all_goals kernel_rfl
end Go.Proofs.Ytfemicpfkgecbaa
