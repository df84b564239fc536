/-
  What the rows' list gives the walks, where the board's own table is listed too: both tables lie where they were laid; a world for the witness.
-/
import Derived.Test.YtfemicpfkgecbaaDoorSet4
import Derived.Lib.LaidTab
import Derived.OpenShut
namespace Go.Proofs.YtfemicpfkgecbaaDoor
open Go.RowKit

theorem tabIs_of_vars {P : Program} {W : World} {name : String} {k : IntKind} {zs : List Int} {rest : List (String × DataW Unit)} {g : Nat} {t e : TypeId} {n : Nat} {ps : List MemPlace}
    (hg : P.globalNamed name = some g) (hty : (P.globals[g]?).map (·.type) = some t) (ht : P.underlying t = some (.array n e)) (he : P.underlying e = some (.int k)) (hce : P.cellsOf e = 1) (hct : P.cellsOf t = n)
    (h : DataW.LaidVars P W ((name, Lib.tabData k zs) :: rest) ps) : Lib.TabIs P W name k zs ∧ ∃ q, DataW.LaidVars P W rest q := by
  obtain ⟨g', t', cs, fuel, p, q, hg', ht', hvar, hd, hr, _⟩ := h
  obtain rfl := Option.some.inj (hg.symm.trans hg')
  obtain rfl := Option.some.inj (hty.symm.trans ht')
  refine ⟨?_, q, hr⟩
  unfold Lib.TabIs
  rw [hvar, ← Lib.cells_of_tab ht he hce hct hd]

theorem gTab : Tryd.prog.globalNamed "math/bits.deBruijn64tab" = some 1 := by kernel_rfl
theorem gTabType : (Tryd.prog.globals[1]?).map (·.type) = some 103 := by kernel_rfl
theorem cellsTab : Tryd.prog.cellsOf 103 = 64 := by kernel_rfl
theorem cellsU8 : Tryd.prog.cellsOf 5 = 1 := by kernel_rfl
theorem gHome : Tryd.prog.globalNamed "kakugyo/board.home" = some 0 := by kernel_rfl
theorem gHomeType : (Tryd.prog.globals[0]?).map (·.type) = some 93 := by kernel_rfl
theorem cellsHome : Tryd.prog.cellsOf 93 = 9 := by kernel_rfl
theorem cellsI64 : Tryd.prog.cellsOf 3 = 1 := by kernel_rfl
def tabZ : List Int := Lib.deBruijn64tab.map (fun (n : Nat) => (n : Int))
theorem tabZ_get : ∀ j : Nat, j < 64 → tabZ.getD j 0 = ((Lib.deBruijn64tab.getD j 0 : Nat) : Int) := by decide +kernel
theorem tabZ_len : tabZ.length = 64 := by decide +kernel
def homeZ : List Int := [2, 3, 4, 5, 8, 5, 4, 3, 2]
/-- The board's table of the last rank lies where it was laid. -/
def Home (w : World) : Prop := ∀ j, j < 9 → w.cell? ⟨0, j, none⟩ = some (.int .i64 (homeZ.getD j 0))
theorem Home.grow {w w' : World} (h : Home w) (hb : Below w.heap.size w w') : Home w' := fun j hj => by
  have h0 := h j hj
  have hlt : 0 < w.heap.size := by
    apply Nat.lt_of_not_le
    intro hn
    have : w.heap[0]? = none := Array.getElem?_eq_none hn
    simp [World.cell?, this] at h0
  exact (hb.cell (p := ⟨0, j, none⟩) hlt).trans h0
theorem both_of {W : World} (h : laidMetH Tryd.prog [("math/bits.deBruijn64tab", Rows.laid_math_bits_deBruijn64tab), ("kakugyo/board.home", Rows.laid_kakugyo_board_home)] W) : Tab W ∧ Home W := by
  obtain ⟨ps, hv, _⟩ := h
  obtain ⟨t, q, hv2⟩ := tabIs_of_vars (k := .u8) (zs := tabZ) gTab gTabType Tryd.underlying103 Tryd.underlying5 cellsU8 cellsTab hv
  obtain ⟨u, q2, -⟩ := tabIs_of_vars (k := .i64) (zs := homeZ) gHome gHomeType Tryd.underlying93 Tryd.underlying3 cellsI64 cellsHome hv2
  refine ⟨fun j hj => ?_, fun j hj => u.cell gHome j hj⟩
  have c := t.cell gTab j (by rw [tabZ_len]; exact hj)
  rw [tabZ_get j hj] at c
  exact c
/-- The cells of the tables. -/
def tabCells : Array Value := (tabZ.map (fun z => Value.int .u8 z)).toArray
def homeCells : Array Value := (homeZ.map (fun z => Value.int .i64 z)).toArray
noncomputable def laidWorld (os : Os) : World :=
  { World.holding Tryd.prog os ⟨#[], #[], []⟩ with heap := (((World.holding Tryd.prog os ⟨#[], #[], []⟩).heap.modify 1 (fun
      | .cells _ t frozen => .cells tabCells t frozen
      | o => o)).modify 0 (fun
      | .cells _ t frozen => .cells homeCells t frozen
      | o => o)) }
end Go.Proofs.YtfemicpfkgecbaaDoor
