/-
  Slices of puts, handed over: opened; what the walk of BoardHolds keeps.
-/
import Derived.Test.YtbopbekehccdmaaDoorBegins
import Derived.Test.YtbopbekehccdmaaDoorRefKind
import Derived.Test.YtbopbekehccdmaaDoorDeedCom
import Derived.Deep.Slices
import Derived.OpenShut
namespace Go.Proofs.YtbopbekehccdmaaDoor
open Go.ChangeShapes Go.WideShapes Go.ChangeAt Go.RowKit
set_option linter.unusedVariables false
set_option linter.unusedSimpArgs false
set_option maxRecDepth 100000

def putC (m : Int × Int) : List Value := [.int .i64 m.1, .int .i8 m.2]
/-- The puts of a slice in memory. -/
def PutsAt (W : World) (oa : Option Addr) (M : List (Int × Int)) : Prop := ∀ i m, M[i]? = some m → ∃ b o, oa = some ⟨b, o, none⟩ ∧ b < W.heap.size ∧ W.rangeAt b (o + i * 2) (putC m) ∧ (-128 ≤ m.2 ∧ m.2 ≤ 127)
theorem PutsAt.grow {W W' : World} {oa : Option Addr} {M : List (Int × Int)} (h : PutsAt W oa M) (hb : Below W.heap.size W W') : PutsAt W' oa M := fun i m hm => by
  obtain ⟨b, o, e, hlt, hr, h8⟩ := h i m hm
  exact ⟨b, o, e, Nat.lt_of_lt_of_le hlt hb.size, fun j v hv => (hb.cell (p := ⟨b, o + i * 2 + j, none⟩) hlt).trans (hr j v hv), h8⟩

section
variable {H : Type} {enc : TypeId × Value → H} {W : World} {d : DataW H} {ps : List MemPlace}
theorem cellsPut2 : Tryd.prog.cellsOf 36 = 2 := by kernel_rfl
theorem cellsIntP : Tryd.prog.cellsOf 3 = 1 := by kernel_rfl
theorem cellsPcP : Tryd.prog.cellsOf 23 = 1 := by kernel_rfl
theorem open_puts {o : Option Addr} {len cap : Nat}
    (h : DataW.Trod enc Tryd.prog W 0 (fun _ => true) true 29 (.slice o len cap) d ps) : ∃ M : List (Int × Int), M.length = len ∧ M.length ≤ maxLen ∧ PutsAt W o M := by
  obtain ⟨fuel, hf⟩ := h
  rcases Go.Deep.open_slice Tryd.underlying29 hf with ⟨hcs, hx⟩ | ⟨a, len', cap', m, n, D, Pl, hcs, hb, hl, hm, hmm, hx, hel⟩
  · simp only [Value.cells] at hcs
    obtain ⟨rfl, rfl, rfl⟩ : o = none ∧ len = 0 ∧ cap = 0 := by simpa using hcs
    exact ⟨[], rfl, Nat.zero_le _, fun i m hm => by simp at hm⟩
  · simp only [Value.cells] at hcs
    obtain ⟨rfl, rfl, rfl⟩ : o = some a ∧ len = len' ∧ cap = cap' := by simpa using hcs
    have hlm : len ≤ m := by rw [hmm]; split <;> omega
    have hsp : 0 < len → a.spot = none := fun h0 => by
      obtain ⟨cs', h1, h2⟩ := hel 0 (by omega)
      rw [cellsPut2] at h1
      obtain ⟨_, hlen, hcell⟩ := World.cells?_some h1
      have c0 := hcell 0 (by omega)
      rw [Go.Deep.add_add, List.getElem?_eq_getElem (by omega)] at c0
      simpa [Addr.add] using World.cell?_spot c0
    have each : ∀ i, i < len → ∃ q : Int × Int, ∃ b o, a = ⟨b, o, none⟩ ∧ b < W.heap.size ∧ W.rangeAt b (o + i * 2) (putC q) ∧ (-128 ≤ q.2 ∧ q.2 ≤ 127) := by
      intro i hi
      obtain ⟨cs', h1, h2⟩ := hel i (by omega)
      rw [cellsPut2] at h1
      obtain ⟨_, hlen, hcell⟩ := World.cells?_some h1
      obtain ⟨xs, k, hk, hxy, _, hxl, hfl⟩ := DataW.trod_struct Tryd.underlying36 h2
      have hxl2 : xs.length = 2 := hxl
      have g0 := hfl 0 _ rfl
      have g1 := hfl 1 _ rfl
      rw [List.getElem?_eq_getElem (by omega)] at g0 g1
      have g0 : DataW.trod enc Tryd.prog W 0 (fun _ => true) true k 3 ((cs'.drop 0).take (Tryd.prog.cellsOf 3)) = some xs[0] := g0
      have g1 : DataW.trod enc Tryd.prog W 0 (fun _ => true) true k 23 ((cs'.drop 1).take (Tryd.prog.cellsOf 23)) = some xs[1] := g1
      rw [cellsIntP] at g0
      rw [cellsPcP] at g1
      obtain ⟨x0, e0, -, -⟩ := DataW.trod_int Tryd.underlying3 g0
      obtain ⟨x1, e1, -, hx8⟩ := DataW.trod_int Tryd.underlying23 g1
      match cs', hlen with
      | [c0, c1], _ =>
      simp at e0 e1
      subst e0 e1
      have c0 := hcell 0 (by omega)
      have c1 := hcell 1 (by omega)
      rw [Go.Deep.add_add] at c0 c1
      obtain ⟨b, of, spot⟩ := a
      have hs : spot = none := hsp (by omega)
      subst hs
      rw [add_plain] at c0 c1
      refine ⟨(x0, x1), b, of, rfl, World.block_lt_of_cell? W _ c0, fun j v hj => ?_, bounds_i8 hx8⟩
      match j, hj with
      | 0, hj => simp [putC] at hj; subst hj; exact c0
      | 1, hj => simp [putC] at hj; subst hj; exact c1
      | j + 2, hj => simp [putC] at hj
    obtain ⟨q, hq⟩ := Go.Deep.choose_lt each
    refine ⟨(List.range len).map q, by simp, by simp; omega, fun i mv hmv => ?_⟩
    have hi : i < len := by
      have := (List.getElem?_eq_some_iff.1 hmv).1
      simpa using this
    rw [List.getElem?_map, List.getElem?_range hi] at hmv
    obtain rfl : q i = mv := by simpa using hmv
    obtain ⟨b, of, rfl, hlt, hr⟩ := hq i hi
    exact ⟨b, of, rfl, hlt, hr⟩
end
end Go.Proofs.YtbopbekehccdmaaDoor
