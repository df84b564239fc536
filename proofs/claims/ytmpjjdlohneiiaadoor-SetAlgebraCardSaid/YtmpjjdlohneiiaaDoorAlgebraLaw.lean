/-
  SetAlgebra: for every input the law 'SetAlgebra' returns true and changes nothing that was there. Condition: the library's table math/bits.deBruijn64tab is as the program's text lays it (the card ties it).
-/
import Derived.Test.YtmpjjdlohneiiaaDoorAlgebraWalk
import Derived.Test.YtmpjjdlohneiiaaDoorTable
import Derived.Test.YtmpjjdlohneiiaaDoorCards
import Derived.Test.YtmpjjdlohneiiaaDoorTie
import Derived.ProofKit
import Derived.OpenShut
import Derived.Deep.DeepHandedRow
import Derived.Lib.SmallJoins
namespace Go.Proofs.YtmpjjdlohneiiaaDoor.setAlgebra
open Go.ChangeShapes Go.WideShapes Go.ChangeAt Go.RowKit Go.Joins
set_option linter.unusedVariables false

theorem own : ownKnob Tryd.prog.godebug = none := by kernel_rfl
theorem cellsSet : Tryd.prog.cellsOf 24 = 2 := by kernel_rfl
theorem cellsInt : Tryd.prog.cellsOf 3 = 1 := by kernel_rfl
theorem contract (H : Type) (enc : TypeId × Value → H) (W : World) (base : Nat) (args : Array Value) (ds gs : List (DataW H)) (before : List MemPlace)
    (hval : ∀ (j : Nat) t v, Tryd.f3.params[j]? = some t → args[j]? = some v → Value.okWide Tryd.prog W .any base t v)
    (hW : DataW.Whole enc Tryd.prog Tryd.f3.params.toList Rows.setAlgebraSpec.vars false W args.toList ds gs before) (hL : laidMetH Tryd.prog Rows.setAlgebraRow.laid W) :
    Calls Tryd.prog 3 args W fun e W' => ∃ v, e = .returned v ∧ Rows.setAlgebraSpec.post enc Tryd.prog Tryd.f3 false true false false W args v W' := by
  have hW' := hW
  obtain ⟨p, q, hA0, hV, rfl, hfz, hnd⟩ := hW
  have hA : DataW.TrodAll enc Tryd.prog W 0 (fun _ => true) true Tryd.f3.params.toList args.toList ds p := hA0
  rw [Tryd.params3] at hA hval
  obtain ⟨v0, vs0, d0, ds0, p0, q0, hargs, rfl, rfl, h0, r0⟩ := trodAll_cons hA
  obtain ⟨v1, vs1, d1, ds1, p1, q1, rfl, rfl, rfl, h1, r1⟩ := trodAll_cons r0
  obtain ⟨rfl, rfl, rfl⟩ := trodAll_nil r1
  obtain rfl : args = #[v0, v1] := by cases args; simp_all
  obtain ⟨rfl, rfl⟩ := trodVars_none hV
  obtain ⟨c0, e0, x0, y0, m0, rfl, rfl, rfl, hx0, hy0⟩ := open_agg2 Tryd.underlying24 (by kernel_rfl) cellsSet (hval 0 24 v0 rfl rfl) h0
  obtain ⟨a0, g0, rfl, u0⟩ := DataW.trod_int Tryd.underlying22 hx0
  obtain ⟨b0, j0, rfl, z0⟩ := DataW.trod_int Tryd.underlying22 hy0
  simp at g0 j0
  subst g0 j0
  obtain ⟨c1, e1, x1, y1, m1, rfl, rfl, rfl, hx1, hy1⟩ := open_agg2 Tryd.underlying24 (by kernel_rfl) cellsSet (hval 1 24 v1 rfl rfl) h1
  obtain ⟨a1, g1, rfl, u1⟩ := DataW.trod_int Tryd.underlying22 hx1
  obtain ⟨b1, j1, rfl, z1⟩ := DataW.trod_int Tryd.underlying22 hy1
  simp at g1 j1
  subst g1 j1
  clear hA0
  simp only [List.append_nil] at hW'
  refine (walk a0 b0 a1 b1 u0 z0 u1 z1 W (tab_of hL)).mono fun e W' ⟨he, hg⟩ => ?_
  subst he
  exact ⟨_, rfl, _, _, _, [], [], [], hW', (trodAll_cons_mk (shut_bool Tryd.underlying4 _) trodAll_mk0), (trodAll_cons_mk (shut_agg2 (y0 := (.lit (.int .u64 a0), [])) (y1 := (.lit (.int .u64 b0), [])) Tryd.underlying24 (by kernel_rfl) cellsSet ⟨1, by simp [DataW.trod, Tryd.underlying22, u0]⟩ ⟨1, by simp [DataW.trod, Tryd.underlying22, z0]⟩) (trodAll_cons_mk (shut_agg2 (y0 := (.lit (.int .u64 a1), [])) (y1 := (.lit (.int .u64 b1), [])) Tryd.underlying24 (by kernel_rfl) cellsSet ⟨1, by simp [DataW.trod, Tryd.underlying22, u1]⟩ ⟨1, by simp [DataW.trod, Tryd.underlying22, z1]⟩) trodAll_mk0)), rfl, hg.frame _, fun h => nomatch h⟩

theorem laid_met (os : Os) : laidMet Tryd.prog Rows.setAlgebraRow.laid ((laidWorld os).forCall (fun _ _ => 0) ⟨#[], #[.agg #[.int .u64 0, .int .u64 0], .agg #[.int .u64 0, .int .u64 0]], []⟩).memory :=
  laidMet_of_run' 8 (by kernel_rfl) (by kernel_rfl)
theorem reads (os : Os) {H : Type} (enc : TypeId × Value → H) : ∃ places, DataW.whole enc Tryd.prog ((laidWorld os).forCall (fun _ _ => 0) ⟨#[], #[.agg #[.int .u64 0, .int .u64 0], .agg #[.int .u64 0, .int .u64 0]], []⟩).memory Tryd.f3.params.toList Rows.setAlgebraSpec.vars false #[(.agg #[.int .u64 0, .int .u64 0] : Value), (.agg #[.int .u64 0, .int .u64 0] : Value)].toList 8 = some ([.agg [.lit (.int .u64 0), .lit (.int .u64 0)], .agg [.lit (.int .u64 0), .lit (.int .u64 0)]], [], places) :=
  ⟨[], by kernel_rfl⟩

set_option maxRecDepth 100000 in
theorem lifted (os : Os) (started : os.Started) (H : Type) (enc : TypeId × Value → H) (F : Stop.Interp) :
    ReturnsInHanded {} Tryd.checked os 3 .any ((OpenSpec.ofChange Rows.setAlgebraSpec).preRow enc Tryd.prog Tryd.f3 Rows.setAlgebraRow.domain false Rows.setAlgebraRow.laid) (((OpenSpec.ofChange Rows.setAlgebraSpec).at F).post enc Tryd.prog Tryd.f3 false true false false) := by
  obtain ⟨places, hx⟩ := reads os enc
  refine returnsInHanded_of_row (C := Tryd.checked) (s := OpenSpec.ofChange Rows.setAlgebraSpec) own started (by kernel_rfl) Tryd.func3
    (witness_row_at (enc := enc) (C := Tryd.checked) false (laidWorld os) #[.agg #[.int .u64 0, .int .u64 0], .agg #[.int .u64 0, .int .u64 0]] rfl (by kernel_rfl) (by kernel_rfl) (by kernel_rfl)
      (OpenSpec.preRow_of_cond 8 hx (by kernel_rfl) (fun k hk => by cases hk) (by kernel_rfl) (laid_met os))) ?_
  intro W base args ds gs before hval hW _ _ _ hL _ _
  exact contract H enc W base args ds gs before hval hW hL

theorem said : Rows.SetAlgebraSaid :=
  OpenClaim.holds_of_cond 3 Tryd.f3 rfl rfl rfl rfl rfl rfl rfl ⟨rfl, rfl, rfl, rfl, rfl⟩ rfl rfl rfl rfl rfl (by kernel_rfl) Tryd.func3 (by kernel_rfl)
    (of_decide_eq_true (by kernel_rfl)) (by unfold Func.isWrapper; first | (rw [if_pos (by decide +kernel)]; kernel_rfl) | (rw [if_neg (by decide +kernel)]; exact ⟨rfl, rfl⟩))
    (fun os started H enc _ F => by rw [OpenClaim.pre_eq_preRow]; exact lifted os started H enc F)

theorem plain (f : FuncId) (fn : Func) (hf : Tryd.pinned.checked.prog.funcNamed "kakugyo/kakugyolaw01.SetAlgebra" = some f) (hfn : Tryd.pinned.checked.prog.funcs[f]? = some fn) :
    false = Tryd.pinned.checked.prog.looks [] ∧ ∀ (j : Nat) t, fn.params[j]? = some t → Tryd.pinned.checked.prog.wantsStandIn t = false := by
  obtain rfl : f = 3 := Option.some.inj ((show Tryd.prog.funcNamed "kakugyo/kakugyolaw01.SetAlgebra" = some 3 by kernel_rfl).symm.trans hf) |>.symm
  obtain rfl : fn = Tryd.f3 := (Option.some.inj (Tryd.func3.symm.trans hfn)).symm
  refine ⟨by kernel_rfl, fun j t ht => ?_⟩
  rw [Tryd.params3] at ht
  have ht2 := Array.mem_of_getElem? ht
  have s0 : Tryd.prog.wantsStandIn 24 = false := by kernel_rfl
  obtain rfl : t = 24 := by simpa using ht2
  exact s0

theorem card : Rows.SetAlgebraCardSaid :=
  Claim7.holds_tied_plain_at .later [] _ _ _ _ said (fun _ h => by cases h) (by kernel_rfl) (fun _ h => by cases h) setAlgebra_row_tie rfl ⟨rfl, rfl⟩ (by kernel_rfl) rfl plain (by kernel_rfl)
end Go.Proofs.YtmpjjdlohneiiaaDoor.setAlgebra
