/-
  Two reference sets of the same squares are equal.
-/
import Derived.Test.YtiecopkihlaidaaDoorOfBig
import Derived.ChangeKeysEq
namespace Go.Proofs.YtiecopkihlaidaaDoor
open Go.RowKit
set_option linter.unusedVariables false

theorem items_same (n : Nat) (W : World) : ∀ is : List Nat, (∀ i ∈ is, i < 81) → (Op.eqItems 9999 4 1 (arrP n 81) (arrP n 81) is).run Tryd.prog W = .ok true W
  | [], _ => by simp [Op.eqItems]
  | i :: is, h => by
    have hi : i < 81 := h i (by simp)
    have ih := items_same n W is (fun j hj => h j (by simp [hj]))
    have hx : (arrP n 81)[i * 1]? = some (.bool (decide (i < 81) && n.testBit i)) := by rw [Nat.mul_one]; exact arrP_get n 81 i hi
    have hp := run_part_plain (P := Tryd.prog) W (e := 4) (by kernel_rfl) hx
    have he := run_equalIn_bool (P := Tryd.prog) W 9998 4 (decide (i < 81) && n.testBit i) (decide (i < 81) && n.testBit i) Tryd.underlying4
    simp only [Op.eqItems, Sem.run_bind, hp, he, Result.andThen_ok, beq_self_eq_true, Bool.not_true, Bool.false_eq_true, if_false]
    exact ih
theorem infoBool : (Tryd.prog.info? 4).isSome = true := by kernel_rfl
theorem arr_eq (n : Nat) (W : World) : (Op.equalIn 10000 29 (.agg (arrP n 81)) (.agg (arrP n 81))).run Tryd.prog W = .ok true W := by
  obtain ⟨i, hi⟩ := Option.isSome_iff_exists.1 infoBool
  rw [show (10000 : Nat) = 9999 + 1 from rfl, run_equalIn_array W 9999 _ _ Tryd.underlying29 hi, show Tryd.prog.cellsOf 4 = 1 by kernel_rfl]
  exact items_same n W _ (fun i hi => by simpa using hi)
end Go.Proofs.YtiecopkihlaidaaDoor
