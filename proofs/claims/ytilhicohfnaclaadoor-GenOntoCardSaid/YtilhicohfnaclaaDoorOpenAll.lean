/-
  Arrays of whole numbers and of sets, handed over by value, opened.
-/
import Derived.Test.YtilhicohfnaclaaDoorBase
import Derived.Test.YtilhicohfnaclaaDoorRows
import Derived.ProofKit
import Derived.OpenShut
import Derived.Carry
import Derived.ChangeArms
import Derived.Test.YtilhicohfnaclaaDoorPosC
namespace Go.Proofs.YtilhicohfnaclaaDoor
open Go.ChangeShapes Go.WideShapes Go.ChangeAt Go.RowKit
set_option linter.unusedVariables false
set_option linter.unusedSimpArgs false
set_option maxRecDepth 100000

section
variable {H : Type} {enc : TypeId × Value → H} {W : World} {b0 b1 : Nat} {sp : Nat → Bool} {r : Reach} {v : Value} {d : DataW H} {ps : List MemPlace}

theorem take_one {cs : List Value} {o : Nat} {k : IntKind} {a : Int} (h : (cs.drop o).take 1 = [.int k a]) : cs[o]? = some (.int k a) := by
  have := congrArg (fun l => l[0]?) h
  simpa [List.getElem?_take, List.getElem?_drop] using this
/-- An array of whole numbers of one kind, opened: each of its cells. -/
theorem cells_ints {P : Program} {t e : TypeId} {n : Nat} {k : IntKind} {fuel : Nat} {cs : List Value} {x : DataW H × List MemPlace} (ht : P.underlying t = some (.array n e)) (he : P.underlying e = some (.int k)) (hc : P.cellsOf e = 1)
    (h : DataW.trod enc P W b0 sp true fuel t cs = some x) : ∀ j, j < n → ∃ a, cs[j]? = some (.int k a) ∧ (Lit.int k a).wf = true := by
  obtain ⟨xs, m, _, _, hl, hlen, hf⟩ := DataW.trod_array ht h
  intro j hj
  have hj2 := hf j hj
  rw [List.getElem?_eq_getElem (by omega), hc, Nat.mul_one] at hj2
  obtain ⟨a, ha, _, hw⟩ := DataW.trod_int he hj2
  exact ⟨a, take_one ha, hw⟩


theorem cellsInt0 : Tryd.prog.cellsOf 3 = 1 := by kernel_rfl
theorem cellsArr2 : Tryd.prog.cellsOf 29 = 2 := by kernel_rfl
theorem open_arr2int (hv : Value.okWide Tryd.prog W r b1 29 v) (h : DataW.Trod enc Tryd.prog W b0 sp true 29 v d ps) :
    ∃ x y : Int, v = .agg #[.int .i64 x, .int .i64 y] ∧ (Lit.int .i64 x).wf = true ∧ (Lit.int .i64 y).wf = true := by
  simp only [Value.okWide, Tryd.underlying29] at hv
  obtain ⟨cs, rfl, hsz, _⟩ := hv
  rw [cellsArr2] at hsz
  obtain ⟨fuel, hf⟩ := h
  have hk := cells_ints Tryd.underlying29 Tryd.underlying3 cellsInt0 hf
  obtain ⟨x, hx, wx⟩ := hk 0 (by omega)
  obtain ⟨y, hy, wy⟩ := hk 1 (by omega)
  refine ⟨x, y, ?_, wx, wy⟩
  congr 1
  apply Array.ext_getElem?
  intro i
  simp only [Value.cells, Array.getElem?_toList] at hx hy
  rcases i with _ | _ | i
  · simpa using hx
  · simpa using hy
  · rw [Array.getElem?_eq_none (by omega)]
    simp
theorem cellsS2 : Tryd.prog.cellsOf 32 = 2 := by kernel_rfl
theorem cellsU1 : Tryd.prog.cellsOf 30 = 1 := by kernel_rfl
theorem cellsArr2S : Tryd.prog.cellsOf 89 = 4 := by kernel_rfl
theorem open_arr2set (hv : Value.okWide Tryd.prog W r b1 89 v) (h : DataW.Trod enc Tryd.prog W b0 sp true 89 v d ps) :
    ∃ x y z u : Int, v = .agg #[.int .u64 x, .int .u64 y, .int .u64 z, .int .u64 u] ∧ (Lit.int .u64 x).wf = true ∧ (Lit.int .u64 y).wf = true ∧ (Lit.int .u64 z).wf = true ∧ (Lit.int .u64 u).wf = true := by
  simp only [Value.okWide, Tryd.underlying89] at hv
  obtain ⟨cs, rfl, hsz, _⟩ := hv
  rw [cellsArr2S] at hsz
  obtain ⟨fuel, hf⟩ := h
  obtain ⟨xs, m, _, _, hl, hlen, hx⟩ := DataW.trod_array Tryd.underlying89 hf
  have key : ∀ j, j < 2 → ∃ a b : Int, cs.toList[2 * j]? = some (.int .u64 a) ∧ cs.toList[2 * j + 1]? = some (.int .u64 b) ∧ (Lit.int .u64 a).wf = true ∧ (Lit.int .u64 b).wf = true := by
    intro j hj
    have hj2 := hx j hj
    rw [List.getElem?_eq_getElem (by omega), cellsS2] at hj2
    obtain ⟨y0, y1, n, _, _, h0, h1⟩ := trod_struct2 Tryd.underlying32 hj2
    have h0 : DataW.trod enc Tryd.prog W b0 sp true n 30 (List.take (Tryd.prog.cellsOf 30) (List.drop 0 (List.take 2 (List.drop (j * 2) cs.toList)))) = some y0 := h0
    have h1 : DataW.trod enc Tryd.prog W b0 sp true n 30 (List.take (Tryd.prog.cellsOf 30) (List.drop 1 (List.take 2 (List.drop (j * 2) cs.toList)))) = some y1 := h1
    rw [cellsU1] at h0 h1
    obtain ⟨a, ha, _, wa⟩ := DataW.trod_int Tryd.underlying30 h0
    obtain ⟨b, hb, _, wb⟩ := DataW.trod_int Tryd.underlying30 h1
    have ha := take_one ha
    have hb := take_one hb
    simp only [List.getElem?_take, List.getElem?_drop] at ha hb
    rw [if_pos (by omega), show j * 2 + 0 = 2 * j by omega] at ha
    rw [if_pos (by omega), show j * 2 + 1 = 2 * j + 1 by omega] at hb
    exact ⟨a, b, ha, hb, wa, wb⟩
  obtain ⟨x, y, hx0, hy0, wx, wy⟩ := key 0 (by omega)
  obtain ⟨z, u, hz0, hu0, wz, wu⟩ := key 1 (by omega)
  refine ⟨x, y, z, u, ?_, wx, wy, wz, wu⟩
  congr 1
  apply Array.ext_getElem?
  intro i
  simp only [Array.getElem?_toList] at hx0 hy0 hz0 hu0
  rcases i with _ | _ | _ | _ | i
  · simpa using hx0
  · simpa using hy0
  · simpa using hz0
  · simpa using hu0
  · rw [Array.getElem?_eq_none (by omega)]
    simp
end
end Go.Proofs.YtilhicohfnaclaaDoor

/-
  Arrays of three numbers and raw positions, handed over by value, opened.
-/
namespace Go.Proofs.YtilhicohfnaclaaDoor
set_option maxRecDepth 100000
open Go.ChangeShapes Go.WideShapes Go.ChangeAt Go.RowKit
set_option linter.unusedVariables false
set_option linter.unusedSimpArgs false

section
variable {H : Type} {enc : TypeId × Value → H} {W : World} {b0 b1 : Nat} {sp : Nat → Bool} {r : Reach} {v : Value} {d : DataW H} {ps : List MemPlace}

theorem cellsInt1 : Tryd.prog.cellsOf 3 = 1 := by kernel_rfl
/-- A raw position, opened: its ninety-eight cells. -/
theorem cellsP1 : Tryd.prog.cellsOf 23 = 1 := by kernel_rfl
theorem cellsI81 : Tryd.prog.cellsOf 22 = 1 := by kernel_rfl
theorem cellsB81 : Tryd.prog.cellsOf 24 = 81 := by kernel_rfl
theorem cellsH8 : Tryd.prog.cellsOf 25 = 8 := by kernel_rfl
theorem cellsH16 : Tryd.prog.cellsOf 26 = 16 := by kernel_rfl
theorem cellsPos : Tryd.prog.cellsOf 28 = 98 := by kernel_rfl
theorem open_pos (hv : Value.okWide Tryd.prog W r b1 28 v) (h : DataW.Trod enc Tryd.prog W b0 sp true 28 v d ps) :
    ∃ z : List Int, v = .agg (posC z).toArray ∧ z.length = 98 ∧ I8s z := by
  obtain ⟨cs, rfl, hsz⟩ := okWide_struct Tryd.underlying28 hv
  rw [cellsPos] at hsz
  obtain ⟨fuel, hf⟩ := h
  simp only [Value.cells] at hf
  have hl : cs.toList.length = 98 := by simpa using hsz
  have hcs : cs = cs.toList.toArray := by simp
  generalize cs.toList = l at hf hl hcs
  subst hcs
  obtain ⟨xs, n, _, _, _, hlen, hx⟩ := DataW.trod_struct Tryd.underlying28 hf
  have h0 := hx 0 _ rfl
  have h1 := hx 1 _ rfl
  have h2 := hx 2 _ rfl
  have hlen3 : xs.length = 3 := hlen
  rw [List.getElem?_eq_getElem (by omega)] at h0 h1 h2
  have h0 : DataW.trod enc Tryd.prog W b0 sp true n 24 ((l.drop 0).take (Tryd.prog.cellsOf 24)) = some xs[0] := h0
  have h1 : DataW.trod enc Tryd.prog W b0 sp true n 26 ((l.drop 81).take (Tryd.prog.cellsOf 26)) = some xs[1] := h1
  have h2 : DataW.trod enc Tryd.prog W b0 sp true n 22 ((l.drop 97).take (Tryd.prog.cellsOf 22)) = some xs[2] := h2
  rw [cellsB81] at h0
  rw [cellsH16] at h1
  rw [cellsI81] at h2
  have key : ∀ j, j < 98 → ∃ a : Int, l[j]? = some (.int .i8 a) ∧ (Lit.int .i8 a).wf = true := by
    intro j hj
    by_cases c0 : j < 81
    · obtain ⟨a, ha, hw⟩ := cells_ints Tryd.underlying24 Tryd.underlying23 cellsP1 h0 j c0
      rw [List.getElem?_take, if_pos c0, List.getElem?_drop, Nat.zero_add] at ha
      exact ⟨a, ha, hw⟩
    · by_cases c1 : j < 97
      · obtain ⟨ys, m, _, _, _, hyl, hy⟩ := DataW.trod_array Tryd.underlying26 h1
        have hs : (j - 81) / 8 < 2 := by omega
        have hy2 := hy ((j - 81) / 8) hs
        rw [List.getElem?_eq_getElem (by omega), cellsH8] at hy2
        obtain ⟨a, ha, hw⟩ := cells_ints Tryd.underlying25 Tryd.underlying22 cellsI81 hy2 ((j - 81) % 8) (Nat.mod_lt _ (by omega))
        rw [List.getElem?_take, if_pos (Nat.mod_lt _ (by omega)), List.getElem?_drop, List.getElem?_take, if_pos (by omega), List.getElem?_drop, show 81 + ((j - 81) / 8 * 8 + (j - 81) % 8) = j by omega] at ha
        exact ⟨a, ha, hw⟩
      · obtain rfl : j = 97 := by omega
        obtain ⟨a, ha, _, hw⟩ := DataW.trod_int Tryd.underlying22 h2
        exact ⟨a, take_one ha, hw⟩
  refine ⟨l.map (fun v => match v with | .int _ n => n | _ => 0), ?_, by simpa using hl, ?_⟩
  · congr 2
    apply List.ext_getElem?
    intro j
    by_cases hj : j < 98
    · obtain ⟨a, ha, _⟩ := key j hj
      rw [ha]
      unfold posC
      rw [List.getElem?_map, List.getElem?_map, ha]
      rfl
    · unfold posC
      rw [List.getElem?_eq_none (by omega), List.getElem?_eq_none (by rw [List.length_map, List.length_map]; omega)]
  · intro x hx
    obtain ⟨v, hv, rfl⟩ := List.mem_map.1 hx
    obtain ⟨j, hj, rfl⟩ := List.mem_iff_getElem.1 hv
    obtain ⟨a, ha, hw⟩ := key j (by omega)
    rw [List.getElem?_eq_getElem hj] at ha
    rw [Option.some.inj ha]
    exact bounds_i8 hw
end
end Go.Proofs.YtilhicohfnaclaaDoor
