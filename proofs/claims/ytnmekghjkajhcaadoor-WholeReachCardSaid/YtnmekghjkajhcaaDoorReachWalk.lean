/-
  The walk of the law WholeReach.
-/
import Derived.Test.YtnmekghjkajhcaaDoorReachW0
import Derived.Test.YtnmekghjkajhcaaDoorReachW1
import Derived.Test.YtnmekghjkajhcaaDoorReachOut
namespace Go.Proofs.YtnmekghjkajhcaaDoor.wholeReach
open Go.RowKit
set_option linter.unusedVariables false
set_option linter.unusedSimpArgs false

theorem walk (s q a b : Int) (g0 : (Lit.int .i64 s).wf = true) (g1 : (Lit.int .i64 q).wf = true) (ga : (Lit.int .u64 a).wf = true) (gb : (Lit.int .u64 b).wf = true) (w : World) (hT : Tab w) :
    Calls Tryd.prog 4 #[.int .i64 s, .int .i64 q, .agg #[.int .u64 a, .int .u64 b]] w fun e w' => e = .returned (.bool true) ∧ Below w.heap.size w w' := by
  by_cases h : (s = 0 ∨ s = 1) ∧ 0 ≤ q ∧ q ≤ 80
  · obtain ⟨h, l, u⟩ := h
    obtain ⟨n, rfl⟩ : ∃ n : Nat, q = n := ⟨q.toNat, by omega⟩
    rcases h with h | h
    · exact walk0 s n a b h (by omega) ga gb w hT
    · exact walk1 s n a b h (by omega) ga gb w hT
  · by_cases h0 : s = 0
    · by_cases h1 : q < 0
      · exact out_lo0 s q a b h0 h1 w
      · exact out_hi0 s q a b h0 (by omega) w
    · by_cases h1 : s = 1
      · by_cases h2 : q < 0
        · exact out_lo1 s q a b h1 h2 w
        · exact out_hi1 s q a b h1 (by omega) w
      · exact out_s s q a b h0 h1 w
end Go.Proofs.YtnmekghjkajhcaaDoor.wholeReach
