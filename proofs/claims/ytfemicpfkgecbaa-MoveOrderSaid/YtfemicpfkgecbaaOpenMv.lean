/-
  Moves handed over by value, opened.
-/
import Derived.Test.YtfemicpfkgecbaaRows
import Derived.ProofKit
import Derived.OpenShut
import Derived.Carry
import Derived.ChangeArms
import Derived.Lib.SmallJoins
namespace Go.Proofs.Ytfemicpfkgecbaa
open Go.ChangeShapes Go.WideShapes Go.ChangeAt Go.RowKit Go.Joins
set_option linter.unusedVariables false
set_option linter.unusedSimpArgs false

section
variable {H : Type} {enc : TypeId × Value → H} {W : World} {b0 b1 : Nat} {sp : Nat → Bool} {r : Reach} {v : Value} {d : DataW H} {ps : List MemPlace}

theorem cellsMv : Try.prog.cellsOf 23 = 4 := by kernel_rfl
theorem open_mv (hv : Value.okWide Try.prog W r b1 23 v) (h : DataW.Trod enc Try.prog W b0 sp true 23 v d ps) :
    ∃ (f t k : Int) (p : Bool), v = .agg #[.int .i64 f, .int .i64 t, .int .i64 k, .bool p] ∧ (Lit.int .i64 f).wf = true ∧ (Lit.int .i64 t).wf = true ∧ (Lit.int .i64 k).wf = true := by
  obtain ⟨v0, v1, v2, v3, y0, y1, y2, y3, n, rfl, -, -, h0, h1, h2, h3⟩ := open_agg4 Try.underlying23 (by kernel_rfl) cellsMv hv h
  obtain ⟨f, e0, -, w0⟩ := DataW.trod_int Try.underlying3 h0
  obtain ⟨t, e1, -, w1⟩ := DataW.trod_int Try.underlying3 h1
  obtain ⟨k, e2, -, w2⟩ := DataW.trod_int Try.underlying3 h2
  obtain ⟨p, e3, -⟩ := DataW.trod_bool Try.underlying4 h3
  simp only [List.cons.injEq, and_true] at e0 e1 e2 e3
  subst e0 e1 e2 e3
  exact ⟨f, t, k, p, rfl, w0, w1, w2⟩
end
end Go.Proofs.Ytfemicpfkgecbaa
