/-
  The head 'holds' of the set statements is true; the statements' plain and real.
-/
import Derived.Test.YtnmekghjkajhcaaDoorRef1
namespace Go.Proofs.YtnmekghjkajhcaaDoor
open Go.RowKit
set_option linter.unusedVariables false

def headN : Nat := 1180591620717411303432
theorem head_of : ofN [3, 70, 99] = headN := by decide +kernel

end Go.Proofs.YtnmekghjkajhcaaDoor
