/-
  The ray statements' real: of two raw words the set of squares that they hold.
-/
import Derived.Test.YtnmekghjkajhcaaDoorReal
namespace Go.Proofs.YtnmekghjkajhcaaDoor
open Go.RowKit
set_option linter.unusedVariables false

theorem real4_any (a b : Int) (a0 : 0 ≤ a) (a1 : a ≤ 18446744073709551615) (b0 : 0 ≤ b) (b1 : b ≤ 18446744073709551615) (w : World) :
    Calls Tryd.prog 6 #[.agg #[.int .u64 a, .int .u64 b]] w fun e w' => e = .returned (.agg #[.int .u64 (loW (realN a b)), .int .u64 (hiW (realN a b))]) ∧ Below w.heap.size w w' := by
  have e1 := real_lo a b a0 a1
  have e2 := real_hi a b b0 b1
  generalize loW (realN a b) = x at e1 ⊢
  generalize hiW (realN a b) = y at e2 ⊢
  clear a0 a1 b0 b1
  go_enter Tryd.func6, Tryd.ntmps6
  go_wp2
  exact bodyPost_ret (v := .agg #[.int .u64 x, .int .u64 y]) (by simp [results, Tryd.results6, go_sem]) rfl ⟨rfl, ball (ball (bref _) _) _⟩
end Go.Proofs.YtnmekghjkajhcaaDoor
