/-
  The step package's Zone, and the statements' head 'steps'.
-/
import Derived.Test.YtnmekghjkajhcaaDoorStep3
namespace Go.Proofs.YtnmekghjkajhcaaDoor
open Go.RowKit
set_option linter.unusedVariables false
set_option linter.unusedSimpArgs false

/-- The squares below k where a side's pieces are promoted. -/
def zoneL (s : Int) (k : Nat) : List Int := ((List.range k).filter (fun (q : Nat) => decide (0 ≤ farF s q ∧ farF s q ≤ 2))).map (fun (q : Nat) => (q : Int))
theorem zoneL_step (s : Int) (k : Nat) : zoneL s (k + 1) = if 0 ≤ farF s k ∧ farF s k ≤ 2 then zoneL s k ++ [(k : Int)] else zoneL s k := by
  unfold zoneL
  rw [List.range_succ, List.filter_append, List.map_append]
  by_cases h : 0 ≤ farF s k ∧ farF s k ≤ 2
  · simp [h]
  · rw [if_neg h]
    simp [h]
theorem zone_put (s : Int) (k : Nat) (h : 0 ≤ farF s k ∧ farF s k ≤ 2) : ofN (zoneL s (k + 1)) = ofN (zoneL s k) ||| oneN k := by
  rw [zoneL_step, if_pos h, ofN_snoc]
theorem zone_not (s : Int) (k : Nat) (h : ¬ (0 ≤ farF s k ∧ farF s k ≤ 2)) : ofN (zoneL s (k + 1)) = ofN (zoneL s k) := by
  rw [zoneL_step, if_neg h]

end Go.Proofs.YtnmekghjkajhcaaDoor
