/-
  GenOnto: for every input the law 'GenOnto' returns true and changes nothing that was there. Condition: the listed tables are as the program's text lays them (the card ties them).
-/
import Derived.Test.YtilhicohfnaclaaDoorGenOntoWalk
import Derived.Test.YtilhicohfnaclaaDoorOpenAll
import Derived.Test.YtilhicohfnaclaaDoorBegins
import Derived.Test.YtilhicohfnaclaaDoorCards
import Derived.Test.YtilhicohfnaclaaDoorTie
import Derived.ProofKit
import Derived.OpenShut
import Derived.Deep.DeepHandedRow
import Derived.Lib.SmallJoins
namespace Go.Proofs.YtilhicohfnaclaaDoor.genOnto
open Go.ChangeShapes Go.WideShapes Go.ChangeAt Go.RowKit Go.Joins
set_option linter.unusedVariables false
set_option maxRecDepth 100000

theorem own : ownKnob Tryd.prog.godebug = none := by kernel_rfl
theorem laidOut : laidOutB Tryd.prog = true := by kernel_rfl
theorem cells_set : Tryd.prog.cellsOf 32 = 2 := by kernel_rfl
theorem contract (H : Type) (enc : TypeId × Value → H) (W : World) (base : Nat) (args : Array Value) (ds gs : List (DataW H)) (before : List MemPlace)
    (hval : ∀ (j : Nat) t v, Tryd.f10.params[j]? = some t → args[j]? = some v → Value.okWide Tryd.prog W .any base t v)
    (hW : DataW.Whole enc Tryd.prog Tryd.f10.params.toList Rows.genOntoSpec.vars false W args.toList ds gs before) (hL : laidMetH Tryd.prog Rows.genOntoRow.laid W) :
    Calls Tryd.prog 10 args W fun e W' => ∃ v, e = .returned v ∧ Rows.genOntoSpec.post enc Tryd.prog Tryd.f10 false true false false W args v W' := by
  have hW' := hW
  obtain ⟨p, q, hA0, hV, rfl, hfz, hnd⟩ := hW
  have hA : DataW.TrodAll enc Tryd.prog W 0 (fun _ => true) true Tryd.f10.params.toList args.toList ds p := hA0
  rw [Tryd.params10] at hA hval
  obtain ⟨v0, vs0, d0, ds0, p0, q0, hargs, rfl, rfl, h0, r0⟩ := trodAll_cons hA
  obtain ⟨v1, vs1, d1, ds1, p1, q1, rfl, rfl, rfl, h1, r1⟩ := trodAll_cons r0
  obtain ⟨rfl, rfl, rfl⟩ := trodAll_nil r1
  obtain rfl : args = #[v0, v1] := by cases args; simp_all
  obtain ⟨rfl, rfl⟩ := trodVars_none hV
  clear hA0
  simp only [List.append_nil] at hW'
  have hlt : ∀ x ∈ p0 ++ (p1), x.block < W.heap.size := fun x hx => by simpa using hW'.lt x hx
  have sh0 : ∀ W' : World, Below W.heap.size W W' → DataW.Trod enc Tryd.prog W' 0 (fun b => decide (b < W.heap.size)) true 28 v0 d0 p0 := fun W' hg => Below.trod laidOut (by kernel_rfl) (of_decide_eq_true (by kernel_rfl)) h0 hg (fun x hx => hlt x (List.mem_append.2 (.inl hx)))
  have sh1 : ∀ W' : World, Below W.heap.size W W' → DataW.Trod enc Tryd.prog W' 0 (fun b => decide (b < W.heap.size)) true 32 v1 d1 p1 := fun W' hg => Below.trod laidOut (by kernel_rfl) (of_decide_eq_true (by kernel_rfl)) h1 hg (fun x hx => hlt x (List.mem_append.2 (.inr hx)))
  obtain ⟨z0, rfl, hz0, e0⟩ := open_pos (hval 0 28 v0 rfl rfl) h0
  obtain ⟨c1, e1, x1, y1, m1, rfl, -, -, hx1, hy1⟩ := open_agg2 Tryd.underlying32 (by kernel_rfl) cells_set (hval 1 32 v1 rfl rfl) h1
  obtain ⟨a1, g1, -, u1⟩ := DataW.trod_int Tryd.underlying30 hx1
  obtain ⟨b1, j1, -, z1⟩ := DataW.trod_int Tryd.underlying30 hy1
  simp at g1 j1
  subst g1 j1
  refine (walk z0 a1 b1 hz0 e0 u1 z1 W (both_of hL).1 (both_of hL).2).mono fun e W' ⟨he, hg⟩ => ?_
  subst he
  exact ⟨_, rfl, _, _, _, [], _, [], hW', (trodAll_cons_mk (shut_bool Tryd.underlying4 _) trodAll_mk0), (trodAll_cons_mk (sh0 W' hg) (trodAll_cons_mk (sh1 W' hg) trodAll_mk0)), rfl, hg.frame _, fun h => nomatch h⟩

theorem laid_met (os : Os) : laidMet Tryd.prog Rows.genOntoRow.laid ((laidWorld os).forCall (fun _ _ => 0) ⟨#[], #[.agg Tryd.zeroCells28, .agg #[.int .u64 0, .int .u64 0]], []⟩).memory :=
  laidMet_of_run' 8 (by kernel_rfl) (by kernel_rfl)
theorem reads (os : Os) {H : Type} (enc : TypeId × Value → H) : ∃ places, DataW.whole enc Tryd.prog ((laidWorld os).forCall (fun _ _ => 0) ⟨#[], #[.agg Tryd.zeroCells28, .agg #[.int .u64 0, .int .u64 0]], []⟩).memory Tryd.f10.params.toList Rows.genOntoSpec.vars false #[(.agg Tryd.zeroCells28 : Value), (.agg #[.int .u64 0, .int .u64 0] : Value)].toList 8 = some ([.agg [.agg (List.replicate 81 (.lit (.int .i8 0))), .agg [.agg (List.replicate 8 (.lit (.int .i8 0))), .agg (List.replicate 8 (.lit (.int .i8 0)))], .lit (.int .i8 0)], .agg [.lit (.int .u64 0), .lit (.int .u64 0)]], [], places) :=
  ⟨[], by kernel_rfl⟩

set_option maxRecDepth 100000 in
theorem lifted (os : Os) (started : os.Started) (H : Type) (enc : TypeId × Value → H) (F : Stop.Interp) :
    ReturnsInHanded {} Tryd.checked os 10 .any ((OpenSpec.ofChange Rows.genOntoSpec).preRow enc Tryd.prog Tryd.f10 Rows.genOntoRow.domain false Rows.genOntoRow.laid) (((OpenSpec.ofChange Rows.genOntoSpec).at F).post enc Tryd.prog Tryd.f10 false true false false) := by
  obtain ⟨places, hx⟩ := reads os enc
  refine returnsInHanded_of_row (C := Tryd.checked) (s := OpenSpec.ofChange Rows.genOntoSpec) own started (by kernel_rfl) Tryd.func10
    (witness_row_at (enc := enc) (C := Tryd.checked) false (laidWorld os) #[.agg Tryd.zeroCells28, .agg #[.int .u64 0, .int .u64 0]] rfl (by kernel_rfl) (by kernel_rfl) (by kernel_rfl)
      (OpenSpec.preRow_of_cond 8 hx (by kernel_rfl) (fun k hk => by cases hk) (by kernel_rfl) (laid_met os))) ?_
  intro W base args ds gs before hval hW _ _ _ hL _ _
  exact contract H enc W base args ds gs before hval hW hL

theorem said : Rows.GenOntoSaid :=
  OpenClaim.holds_of_cond 10 Tryd.f10 rfl rfl rfl rfl rfl rfl rfl ⟨rfl, rfl, rfl, rfl, rfl⟩ rfl rfl rfl rfl rfl (by kernel_rfl) Tryd.func10 (by kernel_rfl)
    (of_decide_eq_true (by kernel_rfl)) (by unfold Func.isWrapper; first | (rw [if_pos (by decide +kernel)]; kernel_rfl) | (rw [if_neg (by decide +kernel)]; exact ⟨rfl, rfl⟩))
    (fun os started H enc _ F => by rw [OpenClaim.pre_eq_preRow]; exact lifted os started H enc F)

theorem plain (f : FuncId) (fn : Func) (hf : Tryd.pinned.checked.prog.funcNamed "kakugyo/kakugyolaw10.GenOnto" = some f) (hfn : Tryd.pinned.checked.prog.funcs[f]? = some fn) :
    false = Tryd.pinned.checked.prog.looks [] ∧ ∀ (j : Nat) t, fn.params[j]? = some t → Tryd.pinned.checked.prog.wantsStandIn t = false := by
  obtain rfl : f = 10 := Option.some.inj ((show Tryd.prog.funcNamed "kakugyo/kakugyolaw10.GenOnto" = some 10 by kernel_rfl).symm.trans hf) |>.symm
  obtain rfl : fn = Tryd.f10 := (Option.some.inj (Tryd.func10.symm.trans hfn)).symm
  refine ⟨by kernel_rfl, fun j t ht => ?_⟩
  rw [Tryd.params10] at ht
  have ht2 := Array.mem_of_getElem? ht
  have s0 : Tryd.prog.wantsStandIn 28 = false := by kernel_rfl
  have s1 : Tryd.prog.wantsStandIn 32 = false := by kernel_rfl
  obtain rfl | rfl : t = 28 ∨ t = 32 := by simpa using ht2
  · exact s0
  · exact s1

theorem card : Rows.GenOntoCardSaid :=
  Claim7.holds_tied_plain_at .later [] _ _ _ _ said (fun _ h => by cases h) (by kernel_rfl) (fun _ h => by cases h) genOnto_row_tie rfl ⟨rfl, rfl⟩ (by kernel_rfl) rfl plain (by kernel_rfl)
end Go.Proofs.YtilhicohfnaclaaDoor.genOnto
