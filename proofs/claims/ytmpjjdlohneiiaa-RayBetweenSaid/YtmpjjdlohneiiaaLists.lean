/-
  Lists of squares: what the set package's Squares, the reference's List, and the statements' plain and same return.
-/
import Derived.Test.YtmpjjdlohneiiaaListMath
import Derived.OwnWalk
import Derived.WalkSmall
import Derived.Maps.AppendAt
namespace Go.Proofs.Ytmpjjdlohneiiaa
open Go.RowKit
set_option linter.unusedVariables false

theorem infoInt : (Try.prog.info? 3).map (fun i => (i.zero, i.size, i.bytes)) = some (some (.int .i64 0), 1, 8) := by kernel_rfl

/-- A list of numbers in the call's own memory from block B on. -/
def Own (w : World) (B : Nat) (v : Value) (l : List Int) : Prop := w.ownsRow B 3 1 v l.length (l.map (Value.int .i64))

theorem lo_and (x : Nat) (h : x < 18446744073709551616) (h0 : x ≠ 0) : bits .and .u64 (x : Int) (IntKind.u64.wrap ((x : Int) - 1)) = ((x &&& (x - 1) : Nat) : Int) := by
  have e : (x : Int) - 1 = ((x - 1 : Nat) : Int) := by omega
  rw [e, wrap_nat _ (by omega), u64_and_nat _ _ h (by omega)]

end Go.Proofs.Ytmpjjdlohneiiaa
