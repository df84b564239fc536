/-
  What the rows' list gives the walks: the library's table lies where it was laid; a world for the witness.
-/
import Derived.Test.YtilhicohfnaclaaDoorSetAll
import Derived.Lib.LaidTab
import Derived.OpenShut
namespace Go.Proofs.YtilhicohfnaclaaDoor
open Go.RowKit

theorem gTab : Tryd.prog.globalNamed "math/bits.deBruijn64tab" = some 1 := by kernel_rfl
theorem gTabType : (Tryd.prog.globals[1]?).map (·.type) = some 127 := by kernel_rfl
theorem cellsTab : Tryd.prog.cellsOf 127 = 64 := by kernel_rfl
theorem cellsU8 : Tryd.prog.cellsOf 5 = 1 := by kernel_rfl
def tabZ : List Int := Lib.deBruijn64tab.map (fun (n : Nat) => (n : Int))
theorem tabZ_get : ∀ j : Nat, j < 64 → tabZ.getD j 0 = ((Lib.deBruijn64tab.getD j 0 : Nat) : Int) := by decide +kernel
theorem tabZ_len : tabZ.length = 64 := by decide +kernel
theorem tab_of {W : World} (h : laidMetH Tryd.prog [("math/bits.deBruijn64tab", Rows.laid_math_bits_deBruijn64tab)] W) : Tab W := by
  have t : Lib.TabIs Tryd.prog W "math/bits.deBruijn64tab" .u8 tabZ :=
    Lib.tabIs_of_head (rest := []) gTab gTabType Tryd.underlying127 Tryd.underlying5 cellsU8 cellsTab h
  intro j hj
  have c := t.cell gTab j (by rw [tabZ_len]; exact hj)
  rw [tabZ_get j hj] at c
  exact c
/-- The cells of the table. -/
def tabCells : Array Value := (tabZ.map (fun z => Value.int .u8 z)).toArray
noncomputable def laidWorld (os : Os) : World :=
  { World.holding Tryd.prog os ⟨#[], #[], []⟩ with heap := (World.holding Tryd.prog os ⟨#[], #[], []⟩).heap.modify 1 fun
      | .cells _ t frozen => .cells tabCells t frozen
      | o => o }
end Go.Proofs.YtilhicohfnaclaaDoor
