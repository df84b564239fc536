/-
  Arrays of whole numbers and of sets, handed over by value, opened.
-/
import Derived.Test.YtmnkbckjhkegaaaDoorBase
import Derived.Test.YtmnkbckjhkegaaaDoorRows
import Derived.ProofKit
import Derived.OpenShut
import Derived.Carry
import Derived.ChangeArms
namespace Go.Proofs.YtmnkbckjhkegaaaDoor
open Go.ChangeShapes Go.WideShapes Go.ChangeAt Go.RowKit
set_option linter.unusedVariables false
set_option linter.unusedSimpArgs false

section
variable {H : Type} {enc : TypeId × Value → H} {W : World} {b0 b1 : Nat} {sp : Nat → Bool} {r : Reach} {v : Value} {d : DataW H} {ps : List MemPlace}

theorem take_one {cs : List Value} {o : Nat} {k : IntKind} {a : Int} (h : (cs.drop o).take 1 = [.int k a]) : cs[o]? = some (.int k a) := by
  have := congrArg (fun l => l[0]?) h
  simpa [List.getElem?_take, List.getElem?_drop] using this
/-- An array of whole numbers of one kind, opened: each of its cells. -/
theorem cells_ints {P : Program} {t e : TypeId} {n : Nat} {k : IntKind} {fuel : Nat} {cs : List Value} {x : DataW H × List MemPlace} (ht : P.underlying t = some (.array n e)) (he : P.underlying e = some (.int k)) (hc : P.cellsOf e = 1)
    (h : DataW.trod enc P W b0 sp true fuel t cs = some x) : ∀ j, j < n → ∃ a, cs[j]? = some (.int k a) ∧ (Lit.int k a).wf = true := by
  obtain ⟨xs, m, _, _, hl, hlen, hf⟩ := DataW.trod_array ht h
  intro j hj
  have hj2 := hf j hj
  rw [List.getElem?_eq_getElem (by omega), hc, Nat.mul_one] at hj2
  obtain ⟨a, ha, _, hw⟩ := DataW.trod_int he hj2
  exact ⟨a, take_one ha, hw⟩


theorem cellsInt0 : Tryd.prog.cellsOf 3 = 1 := by kernel_rfl
theorem cellsArr2 : Tryd.prog.cellsOf 67 = 2 := by kernel_rfl
theorem open_arr2int (hv : Value.okWide Tryd.prog W r b1 67 v) (h : DataW.Trod enc Tryd.prog W b0 sp true 67 v d ps) :
    ∃ x y : Int, v = .agg #[.int .i64 x, .int .i64 y] ∧ (Lit.int .i64 x).wf = true ∧ (Lit.int .i64 y).wf = true := by
  simp only [Value.okWide, Tryd.underlying67] at hv
  obtain ⟨cs, rfl, hsz, _⟩ := hv
  rw [cellsArr2] at hsz
  obtain ⟨fuel, hf⟩ := h
  have hk := cells_ints Tryd.underlying67 Tryd.underlying3 cellsInt0 hf
  obtain ⟨x, hx, wx⟩ := hk 0 (by omega)
  obtain ⟨y, hy, wy⟩ := hk 1 (by omega)
  refine ⟨x, y, ?_, wx, wy⟩
  congr 1
  apply Array.ext_getElem?
  intro i
  simp only [Value.cells, Array.getElem?_toList] at hx hy
  rcases i with _ | _ | i
  · simpa using hx
  · simpa using hy
  · rw [Array.getElem?_eq_none (by omega)]
    simp
theorem cellsS2 : Tryd.prog.cellsOf 40 = 2 := by kernel_rfl
theorem cellsU1 : Tryd.prog.cellsOf 38 = 1 := by kernel_rfl
theorem cellsArr2S : Tryd.prog.cellsOf 43 = 4 := by kernel_rfl
theorem open_arr2set (hv : Value.okWide Tryd.prog W r b1 43 v) (h : DataW.Trod enc Tryd.prog W b0 sp true 43 v d ps) :
    ∃ x y z u : Int, v = .agg #[.int .u64 x, .int .u64 y, .int .u64 z, .int .u64 u] ∧ (Lit.int .u64 x).wf = true ∧ (Lit.int .u64 y).wf = true ∧ (Lit.int .u64 z).wf = true ∧ (Lit.int .u64 u).wf = true := by
  simp only [Value.okWide, Tryd.underlying43] at hv
  obtain ⟨cs, rfl, hsz, _⟩ := hv
  rw [cellsArr2S] at hsz
  obtain ⟨fuel, hf⟩ := h
  obtain ⟨xs, m, _, _, hl, hlen, hx⟩ := DataW.trod_array Tryd.underlying43 hf
  have key : ∀ j, j < 2 → ∃ a b : Int, cs.toList[2 * j]? = some (.int .u64 a) ∧ cs.toList[2 * j + 1]? = some (.int .u64 b) ∧ (Lit.int .u64 a).wf = true ∧ (Lit.int .u64 b).wf = true := by
    intro j hj
    have hj2 := hx j hj
    rw [List.getElem?_eq_getElem (by omega), cellsS2] at hj2
    obtain ⟨y0, y1, n, _, _, h0, h1⟩ := trod_struct2 Tryd.underlying40 hj2
    have h0 : DataW.trod enc Tryd.prog W b0 sp true n 38 (List.take (Tryd.prog.cellsOf 38) (List.drop 0 (List.take 2 (List.drop (j * 2) cs.toList)))) = some y0 := h0
    have h1 : DataW.trod enc Tryd.prog W b0 sp true n 38 (List.take (Tryd.prog.cellsOf 38) (List.drop 1 (List.take 2 (List.drop (j * 2) cs.toList)))) = some y1 := h1
    rw [cellsU1] at h0 h1
    obtain ⟨a, ha, _, wa⟩ := DataW.trod_int Tryd.underlying38 h0
    obtain ⟨b, hb, _, wb⟩ := DataW.trod_int Tryd.underlying38 h1
    have ha := take_one ha
    have hb := take_one hb
    simp only [List.getElem?_take, List.getElem?_drop] at ha hb
    rw [if_pos (by omega), show j * 2 + 0 = 2 * j by omega] at ha
    rw [if_pos (by omega), show j * 2 + 1 = 2 * j + 1 by omega] at hb
    exact ⟨a, b, ha, hb, wa, wb⟩
  obtain ⟨x, y, hx0, hy0, wx, wy⟩ := key 0 (by omega)
  obtain ⟨z, u, hz0, hu0, wz, wu⟩ := key 1 (by omega)
  refine ⟨x, y, z, u, ?_, wx, wy, wz, wu⟩
  congr 1
  apply Array.ext_getElem?
  intro i
  simp only [Array.getElem?_toList] at hx0 hy0 hz0 hu0
  rcases i with _ | _ | _ | _ | i
  · simpa using hx0
  · simpa using hy0
  · simpa using hz0
  · simpa using hu0
  · rw [Array.getElem?_eq_none (by omega)]
    simp
end
end Go.Proofs.YtmnkbckjhkegaaaDoor
