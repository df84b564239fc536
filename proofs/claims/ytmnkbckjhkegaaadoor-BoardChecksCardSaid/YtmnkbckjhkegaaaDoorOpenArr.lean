/-
  Arrays of three numbers and raw positions, handed over by value, opened.
-/
import Derived.Test.YtmnkbckjhkegaaaDoorPosC
import Derived.Test.YtmnkbckjhkegaaaDoorOpenTwo
import Derived.ProofKit
import Derived.OpenShut
import Derived.Carry
import Derived.ChangeArms
namespace Go.Proofs.YtmnkbckjhkegaaaDoor
open Go.ChangeShapes Go.WideShapes Go.ChangeAt Go.RowKit
set_option linter.unusedVariables false
set_option linter.unusedSimpArgs false

section
variable {H : Type} {enc : TypeId × Value → H} {W : World} {b0 b1 : Nat} {sp : Nat → Bool} {r : Reach} {v : Value} {d : DataW H} {ps : List MemPlace}

theorem cellsInt1 : Tryd.prog.cellsOf 3 = 1 := by kernel_rfl
/-- A raw position, opened: its ninety-eight cells. -/
theorem cellsP1 : Tryd.prog.cellsOf 23 = 1 := by kernel_rfl
theorem cellsI81 : Tryd.prog.cellsOf 22 = 1 := by kernel_rfl
theorem cellsB81 : Tryd.prog.cellsOf 24 = 81 := by kernel_rfl
theorem cellsH8 : Tryd.prog.cellsOf 25 = 8 := by kernel_rfl
theorem cellsH16 : Tryd.prog.cellsOf 26 = 16 := by kernel_rfl
theorem cellsPos : Tryd.prog.cellsOf 28 = 98 := by kernel_rfl
theorem open_pos (hv : Value.okWide Tryd.prog W r b1 28 v) (h : DataW.Trod enc Tryd.prog W b0 sp true 28 v d ps) :
    ∃ z : List Int, v = .agg (posC z).toArray ∧ z.length = 98 ∧ I8s z := by
  obtain ⟨cs, rfl, hsz⟩ := okWide_struct Tryd.underlying28 hv
  rw [cellsPos] at hsz
  obtain ⟨fuel, hf⟩ := h
  simp only [Value.cells] at hf
  have hl : cs.toList.length = 98 := by simpa using hsz
  have hcs : cs = cs.toList.toArray := by simp
  generalize cs.toList = l at hf hl hcs
  subst hcs
  obtain ⟨xs, n, _, _, _, hlen, hx⟩ := DataW.trod_struct Tryd.underlying28 hf
  have h0 := hx 0 _ rfl
  have h1 := hx 1 _ rfl
  have h2 := hx 2 _ rfl
  have hlen3 : xs.length = 3 := hlen
  rw [List.getElem?_eq_getElem (by omega)] at h0 h1 h2
  have h0 : DataW.trod enc Tryd.prog W b0 sp true n 24 ((l.drop 0).take (Tryd.prog.cellsOf 24)) = some xs[0] := h0
  have h1 : DataW.trod enc Tryd.prog W b0 sp true n 26 ((l.drop 81).take (Tryd.prog.cellsOf 26)) = some xs[1] := h1
  have h2 : DataW.trod enc Tryd.prog W b0 sp true n 22 ((l.drop 97).take (Tryd.prog.cellsOf 22)) = some xs[2] := h2
  rw [cellsB81] at h0
  rw [cellsH16] at h1
  rw [cellsI81] at h2
  have key : ∀ j, j < 98 → ∃ a : Int, l[j]? = some (.int .i8 a) ∧ (Lit.int .i8 a).wf = true := by
    intro j hj
    by_cases c0 : j < 81
    · obtain ⟨a, ha, hw⟩ := cells_ints Tryd.underlying24 Tryd.underlying23 cellsP1 h0 j c0
      rw [List.getElem?_take, if_pos c0, List.getElem?_drop, Nat.zero_add] at ha
      exact ⟨a, ha, hw⟩
    · by_cases c1 : j < 97
      · obtain ⟨ys, m, _, _, _, hyl, hy⟩ := DataW.trod_array Tryd.underlying26 h1
        have hs : (j - 81) / 8 < 2 := by omega
        have hy2 := hy ((j - 81) / 8) hs
        rw [List.getElem?_eq_getElem (by omega), cellsH8] at hy2
        obtain ⟨a, ha, hw⟩ := cells_ints Tryd.underlying25 Tryd.underlying22 cellsI81 hy2 ((j - 81) % 8) (Nat.mod_lt _ (by omega))
        rw [List.getElem?_take, if_pos (Nat.mod_lt _ (by omega)), List.getElem?_drop, List.getElem?_take, if_pos (by omega), List.getElem?_drop, show 81 + ((j - 81) / 8 * 8 + (j - 81) % 8) = j by omega] at ha
        exact ⟨a, ha, hw⟩
      · obtain rfl : j = 97 := by omega
        obtain ⟨a, ha, _, hw⟩ := DataW.trod_int Tryd.underlying22 h2
        exact ⟨a, take_one ha, hw⟩
  refine ⟨l.map (fun v => match v with | .int _ n => n | _ => 0), ?_, by simpa using hl, ?_⟩
  · congr 2
    apply List.ext_getElem?
    intro j
    by_cases hj : j < 98
    · obtain ⟨a, ha, _⟩ := key j hj
      rw [ha]
      unfold posC
      rw [List.getElem?_map, List.getElem?_map, ha]
      rfl
    · unfold posC
      rw [List.getElem?_eq_none (by omega), List.getElem?_eq_none (by rw [List.length_map, List.length_map]; omega)]
  · intro x hx
    obtain ⟨v, hv, rfl⟩ := List.mem_map.1 hx
    obtain ⟨j, hj, rfl⟩ := List.mem_iff_getElem.1 hv
    obtain ⟨a, ha, hw⟩ := key j (by omega)
    rw [List.getElem?_eq_getElem hj] at ha
    rw [Option.some.inj ha]
    exact bounds_i8 hw
end
end Go.Proofs.YtmnkbckjhkegaaaDoor
