import Derived.Test.YtfemicpfkgecbaaDoorBase
import Derived.Test.YtfemicpfkgecbaaDoorRows
import Derived.ProofKit
import Derived.OpenShut
import Derived.Carry
import Derived.ChangeArms
import Derived.Test.YtfemicpfkgecbaaDoorPosC
import Derived.Lib.SmallJoins
import Derived.Test.YtfemicpfkgecbaaDoorDMakesWalk
import Derived.Test.YtfemicpfkgecbaaDoorTable2
import Derived.Test.YtfemicpfkgecbaaDoorCards
import Derived.Test.YtfemicpfkgecbaaDoorTie
import Derived.Deep.DeepHandedRow
set_option maxRecDepth 100000

/-
  Arrays of whole numbers and of sets, handed over by value, opened.
-/
namespace Go.Proofs.YtfemicpfkgecbaaDoor
open Go.ChangeShapes Go.WideShapes Go.ChangeAt Go.RowKit
set_option linter.unusedVariables false
set_option linter.unusedSimpArgs false

section
variable {H : Type} {enc : TypeId × Value → H} {W : World} {b0 b1 : Nat} {sp : Nat → Bool} {r : Reach} {v : Value} {d : DataW H} {ps : List MemPlace}

theorem take_one {cs : List Value} {o : Nat} {k : IntKind} {a : Int} (h : (cs.drop o).take 1 = [.int k a]) : cs[o]? = some (.int k a) := by
  have := congrArg (fun l => l[0]?) h
  simpa [List.getElem?_take, List.getElem?_drop] using this
/-- An array of whole numbers of one kind, opened: each of its cells. -/
theorem cells_ints {P : Program} {t e : TypeId} {n : Nat} {k : IntKind} {fuel : Nat} {cs : List Value} {x : DataW H × List MemPlace} (ht : P.underlying t = some (.array n e)) (he : P.underlying e = some (.int k)) (hc : P.cellsOf e = 1)
    (h : DataW.trod enc P W b0 sp true fuel t cs = some x) : ∀ j, j < n → ∃ a, cs[j]? = some (.int k a) ∧ (Lit.int k a).wf = true := by
  obtain ⟨xs, m, _, _, hl, hlen, hf⟩ := DataW.trod_array ht h
  intro j hj
  have hj2 := hf j hj
  rw [List.getElem?_eq_getElem (by omega), hc, Nat.mul_one] at hj2
  obtain ⟨a, ha, _, hw⟩ := DataW.trod_int he hj2
  exact ⟨a, take_one ha, hw⟩


theorem cellsInt0 : Tryd.prog.cellsOf 3 = 1 := by kernel_rfl
theorem cellsArr2 : Tryd.prog.cellsOf 96 = 2 := by kernel_rfl
theorem open_arr2int (hv : Value.okWide Tryd.prog W r b1 96 v) (h : DataW.Trod enc Tryd.prog W b0 sp true 96 v d ps) :
    ∃ x y : Int, v = .agg #[.int .i64 x, .int .i64 y] ∧ (Lit.int .i64 x).wf = true ∧ (Lit.int .i64 y).wf = true := by
  simp only [Value.okWide, Tryd.underlying96] at hv
  obtain ⟨cs, rfl, hsz, _⟩ := hv
  rw [cellsArr2] at hsz
  obtain ⟨fuel, hf⟩ := h
  have hk := cells_ints Tryd.underlying96 Tryd.underlying3 cellsInt0 hf
  obtain ⟨x, hx, wx⟩ := hk 0 (by omega)
  obtain ⟨y, hy, wy⟩ := hk 1 (by omega)
  refine ⟨x, y, ?_, wx, wy⟩
  congr 1
  apply Array.ext_getElem?
  intro i
  simp only [Value.cells, Array.getElem?_toList] at hx hy
  rcases i with _ | _ | i
  · simpa using hx
  · simpa using hy
  · rw [Array.getElem?_eq_none (by omega)]
    simp
theorem cellsS2 : Tryd.prog.cellsOf 40 = 2 := by kernel_rfl
theorem cellsU1 : Tryd.prog.cellsOf 38 = 1 := by kernel_rfl
theorem cellsArr2S : Tryd.prog.cellsOf 43 = 4 := by kernel_rfl
theorem open_arr2set (hv : Value.okWide Tryd.prog W r b1 43 v) (h : DataW.Trod enc Tryd.prog W b0 sp true 43 v d ps) :
    ∃ x y z u : Int, v = .agg #[.int .u64 x, .int .u64 y, .int .u64 z, .int .u64 u] ∧ (Lit.int .u64 x).wf = true ∧ (Lit.int .u64 y).wf = true ∧ (Lit.int .u64 z).wf = true ∧ (Lit.int .u64 u).wf = true := by
  simp only [Value.okWide, Tryd.underlying43] at hv
  obtain ⟨cs, rfl, hsz, _⟩ := hv
  rw [cellsArr2S] at hsz
  obtain ⟨fuel, hf⟩ := h
  obtain ⟨xs, m, _, _, hl, hlen, hx⟩ := DataW.trod_array Tryd.underlying43 hf
  have key : ∀ j, j < 2 → ∃ a b : Int, cs.toList[2 * j]? = some (.int .u64 a) ∧ cs.toList[2 * j + 1]? = some (.int .u64 b) ∧ (Lit.int .u64 a).wf = true ∧ (Lit.int .u64 b).wf = true := by
    intro j hj
    have hj2 := hx j hj
    rw [List.getElem?_eq_getElem (by omega), cellsS2] at hj2
    obtain ⟨y0, y1, n, _, _, h0, h1⟩ := trod_struct2 Tryd.underlying40 hj2
    have h0 : DataW.trod enc Tryd.prog W b0 sp true n 38 (List.take (Tryd.prog.cellsOf 38) (List.drop 0 (List.take 2 (List.drop (j * 2) cs.toList)))) = some y0 := h0
    have h1 : DataW.trod enc Tryd.prog W b0 sp true n 38 (List.take (Tryd.prog.cellsOf 38) (List.drop 1 (List.take 2 (List.drop (j * 2) cs.toList)))) = some y1 := h1
    rw [cellsU1] at h0 h1
    obtain ⟨a, ha, _, wa⟩ := DataW.trod_int Tryd.underlying38 h0
    obtain ⟨b, hb, _, wb⟩ := DataW.trod_int Tryd.underlying38 h1
    have ha := take_one ha
    have hb := take_one hb
    simp only [List.getElem?_take, List.getElem?_drop] at ha hb
    rw [if_pos (by omega), show j * 2 + 0 = 2 * j by omega] at ha
    rw [if_pos (by omega), show j * 2 + 1 = 2 * j + 1 by omega] at hb
    exact ⟨a, b, ha, hb, wa, wb⟩
  obtain ⟨x, y, hx0, hy0, wx, wy⟩ := key 0 (by omega)
  obtain ⟨z, u, hz0, hu0, wz, wu⟩ := key 1 (by omega)
  refine ⟨x, y, z, u, ?_, wx, wy, wz, wu⟩
  congr 1
  apply Array.ext_getElem?
  intro i
  simp only [Array.getElem?_toList] at hx0 hy0 hz0 hu0
  rcases i with _ | _ | _ | _ | i
  · simpa using hx0
  · simpa using hy0
  · simpa using hz0
  · simpa using hu0
  · rw [Array.getElem?_eq_none (by omega)]
    simp
end
end Go.Proofs.YtfemicpfkgecbaaDoor

/-
  Arrays of three numbers and raw positions, handed over by value, opened.
-/
namespace Go.Proofs.YtfemicpfkgecbaaDoor
open Go.ChangeShapes Go.WideShapes Go.ChangeAt Go.RowKit
set_option linter.unusedVariables false
set_option linter.unusedSimpArgs false

section
variable {H : Type} {enc : TypeId × Value → H} {W : World} {b0 b1 : Nat} {sp : Nat → Bool} {r : Reach} {v : Value} {d : DataW H} {ps : List MemPlace}

theorem cellsInt1 : Tryd.prog.cellsOf 3 = 1 := by kernel_rfl
/-- A raw position, opened: its ninety-eight cells. -/
theorem cellsP1 : Tryd.prog.cellsOf 23 = 1 := by kernel_rfl
theorem cellsI81 : Tryd.prog.cellsOf 22 = 1 := by kernel_rfl
theorem cellsB81 : Tryd.prog.cellsOf 24 = 81 := by kernel_rfl
theorem cellsH8 : Tryd.prog.cellsOf 25 = 8 := by kernel_rfl
theorem cellsH16 : Tryd.prog.cellsOf 26 = 16 := by kernel_rfl
theorem cellsPos : Tryd.prog.cellsOf 28 = 98 := by kernel_rfl
theorem open_pos (hv : Value.okWide Tryd.prog W r b1 28 v) (h : DataW.Trod enc Tryd.prog W b0 sp true 28 v d ps) :
    ∃ z : List Int, v = .agg (posC z).toArray ∧ z.length = 98 ∧ I8s z := by
  obtain ⟨cs, rfl, hsz⟩ := okWide_struct Tryd.underlying28 hv
  rw [cellsPos] at hsz
  obtain ⟨fuel, hf⟩ := h
  simp only [Value.cells] at hf
  have hl : cs.toList.length = 98 := by simpa using hsz
  have hcs : cs = cs.toList.toArray := by simp
  generalize cs.toList = l at hf hl hcs
  subst hcs
  obtain ⟨xs, n, _, _, _, hlen, hx⟩ := DataW.trod_struct Tryd.underlying28 hf
  have h0 := hx 0 _ rfl
  have h1 := hx 1 _ rfl
  have h2 := hx 2 _ rfl
  have hlen3 : xs.length = 3 := hlen
  rw [List.getElem?_eq_getElem (by omega)] at h0 h1 h2
  have h0 : DataW.trod enc Tryd.prog W b0 sp true n 24 ((l.drop 0).take (Tryd.prog.cellsOf 24)) = some xs[0] := h0
  have h1 : DataW.trod enc Tryd.prog W b0 sp true n 26 ((l.drop 81).take (Tryd.prog.cellsOf 26)) = some xs[1] := h1
  have h2 : DataW.trod enc Tryd.prog W b0 sp true n 22 ((l.drop 97).take (Tryd.prog.cellsOf 22)) = some xs[2] := h2
  rw [cellsB81] at h0
  rw [cellsH16] at h1
  rw [cellsI81] at h2
  have key : ∀ j, j < 98 → ∃ a : Int, l[j]? = some (.int .i8 a) ∧ (Lit.int .i8 a).wf = true := by
    intro j hj
    by_cases c0 : j < 81
    · obtain ⟨a, ha, hw⟩ := cells_ints Tryd.underlying24 Tryd.underlying23 cellsP1 h0 j c0
      rw [List.getElem?_take, if_pos c0, List.getElem?_drop, Nat.zero_add] at ha
      exact ⟨a, ha, hw⟩
    · by_cases c1 : j < 97
      · obtain ⟨ys, m, _, _, _, hyl, hy⟩ := DataW.trod_array Tryd.underlying26 h1
        have hs : (j - 81) / 8 < 2 := by omega
        have hy2 := hy ((j - 81) / 8) hs
        rw [List.getElem?_eq_getElem (by omega), cellsH8] at hy2
        obtain ⟨a, ha, hw⟩ := cells_ints Tryd.underlying25 Tryd.underlying22 cellsI81 hy2 ((j - 81) % 8) (Nat.mod_lt _ (by omega))
        rw [List.getElem?_take, if_pos (Nat.mod_lt _ (by omega)), List.getElem?_drop, List.getElem?_take, if_pos (by omega), List.getElem?_drop, show 81 + ((j - 81) / 8 * 8 + (j - 81) % 8) = j by omega] at ha
        exact ⟨a, ha, hw⟩
      · obtain rfl : j = 97 := by omega
        obtain ⟨a, ha, _, hw⟩ := DataW.trod_int Tryd.underlying22 h2
        exact ⟨a, take_one ha, hw⟩
  refine ⟨l.map (fun v => match v with | .int _ n => n | _ => 0), ?_, by simpa using hl, ?_⟩
  · congr 2
    apply List.ext_getElem?
    intro j
    by_cases hj : j < 98
    · obtain ⟨a, ha, _⟩ := key j hj
      rw [ha]
      unfold posC
      rw [List.getElem?_map, List.getElem?_map, ha]
      rfl
    · unfold posC
      rw [List.getElem?_eq_none (by omega), List.getElem?_eq_none (by rw [List.length_map, List.length_map]; omega)]
  · intro x hx
    obtain ⟨v, hv, rfl⟩ := List.mem_map.1 hx
    obtain ⟨j, hj, rfl⟩ := List.mem_iff_getElem.1 hv
    obtain ⟨a, ha, hw⟩ := key j (by omega)
    rw [List.getElem?_eq_getElem hj] at ha
    rw [Option.some.inj ha]
    exact bounds_i8 hw
end
end Go.Proofs.YtfemicpfkgecbaaDoor

/-
  Moves handed over by value, opened.
-/
namespace Go.Proofs.YtfemicpfkgecbaaDoor
open Go.ChangeShapes Go.WideShapes Go.ChangeAt Go.RowKit Go.Joins
set_option linter.unusedVariables false
set_option linter.unusedSimpArgs false

section
variable {H : Type} {enc : TypeId × Value → H} {W : World} {b0 b1 : Nat} {sp : Nat → Bool} {r : Reach} {v : Value} {d : DataW H} {ps : List MemPlace}

theorem cellsMv : Tryd.prog.cellsOf 54 = 4 := by kernel_rfl
theorem open_mv (hv : Value.okWide Tryd.prog W r b1 54 v) (h : DataW.Trod enc Tryd.prog W b0 sp true 54 v d ps) :
    ∃ (f t k : Int) (p : Bool), v = .agg #[.int .i64 f, .int .i64 t, .int .i64 k, .bool p] ∧ (Lit.int .i64 f).wf = true ∧ (Lit.int .i64 t).wf = true ∧ (Lit.int .i64 k).wf = true := by
  obtain ⟨v0, v1, v2, v3, y0, y1, y2, y3, n, rfl, -, -, h0, h1, h2, h3⟩ := open_agg4 Tryd.underlying54 (by kernel_rfl) cellsMv hv h
  obtain ⟨f, e0, -, w0⟩ := DataW.trod_int Tryd.underlying3 h0
  obtain ⟨t, e1, -, w1⟩ := DataW.trod_int Tryd.underlying3 h1
  obtain ⟨k, e2, -, w2⟩ := DataW.trod_int Tryd.underlying3 h2
  obtain ⟨p, e3, -⟩ := DataW.trod_bool Tryd.underlying4 h3
  simp only [List.cons.injEq, and_true] at e0 e1 e2 e3
  subst e0 e1 e2 e3
  exact ⟨f, t, k, p, rfl, w0, w1, w2⟩
end
end Go.Proofs.YtfemicpfkgecbaaDoor

/-
  DeedMakes: for every input the law 'DeedMakes' returns true and changes nothing that was there. Condition: the listed tables are as the program's text lays them (the card ties them).
-/
namespace Go.Proofs.YtfemicpfkgecbaaDoor.deedMakes
open Go.ChangeShapes Go.WideShapes Go.ChangeAt Go.RowKit Go.Joins
set_option linter.unusedVariables false

theorem home_of {W : World} (h : laidMetH Tryd.prog [("kakugyo/board.home", Rows.laid_kakugyo_board_home)] W) : Home W := by
  obtain ⟨ps, hv, _⟩ := h
  obtain ⟨u, q2, -⟩ := tabIs_of_vars (k := .i64) (zs := homeZ) gHome gHomeType Tryd.underlying93 Tryd.underlying3 cellsI64 cellsHome hv
  exact fun j hj => u.cell gHome j hj
theorem own : ownKnob Tryd.prog.godebug = none := by kernel_rfl
theorem laidOut : laidOutB Tryd.prog = true := by kernel_rfl
theorem contract (H : Type) (enc : TypeId × Value → H) (W : World) (base : Nat) (args : Array Value) (ds gs : List (DataW H)) (before : List MemPlace)
    (hval : ∀ (j : Nat) t v, Tryd.f4.params[j]? = some t → args[j]? = some v → Value.okWide Tryd.prog W .any base t v)
    (hW : DataW.Whole enc Tryd.prog Tryd.f4.params.toList Rows.deedMakesSpec.vars false W args.toList ds gs before) (hL : laidMetH Tryd.prog Rows.deedMakesRow.laid W) :
    Calls Tryd.prog 4 args W fun e W' => ∃ v, e = .returned v ∧ Rows.deedMakesSpec.post enc Tryd.prog Tryd.f4 false true false false W args v W' := by
  have hW' := hW
  obtain ⟨p, q, hA0, hV, rfl, hfz, hnd⟩ := hW
  have hA : DataW.TrodAll enc Tryd.prog W 0 (fun _ => true) true Tryd.f4.params.toList args.toList ds p := hA0
  rw [Tryd.params4] at hA hval
  obtain ⟨v0, vs0, d0, ds0, p0, q0, hargs, rfl, rfl, h0, r0⟩ := trodAll_cons hA
  obtain ⟨v1, vs1, d1, ds1, p1, q1, rfl, rfl, rfl, h1, r1⟩ := trodAll_cons r0
  obtain ⟨rfl, rfl, rfl⟩ := trodAll_nil r1
  obtain rfl : args = #[v0, v1] := by cases args; simp_all
  obtain ⟨rfl, rfl⟩ := trodVars_none hV
  clear hA0
  simp only [List.append_nil] at hW'
  have hlt : ∀ x ∈ p0 ++ (p1), x.block < W.heap.size := fun x hx => by simpa using hW'.lt x hx
  have sh0 : ∀ W' : World, Below W.heap.size W W' → DataW.Trod enc Tryd.prog W' 0 (fun b => decide (b < W.heap.size)) true 28 v0 d0 p0 := fun W' hg => Below.trod laidOut (by kernel_rfl) (of_decide_eq_true (by kernel_rfl)) h0 hg (fun x hx => hlt x (List.mem_append.2 (.inl hx)))
  have sh1 : ∀ W' : World, Below W.heap.size W W' → DataW.Trod enc Tryd.prog W' 0 (fun b => decide (b < W.heap.size)) true 54 v1 d1 p1 := fun W' hg => Below.trod laidOut (by kernel_rfl) (of_decide_eq_true (by kernel_rfl)) h1 hg (fun x hx => hlt x (List.mem_append.2 (.inr hx)))
  obtain ⟨z0, rfl, hz0, e0⟩ := open_pos (hval 0 28 v0 rfl rfl) h0
  obtain ⟨f1, t1, k1, b1, rfl, wf1, wt1, wk1⟩ := open_mv (hval 1 54 v1 rfl rfl) h1
  refine (walk z0 f1 t1 k1 b1 hz0 e0 wf1 wt1 wk1 W (home_of hL)).mono fun e W' ⟨he, hg⟩ => ?_
  subst he
  exact ⟨_, rfl, _, _, _, [], _, [], hW', (trodAll_cons_mk (shut_bool Tryd.underlying4 _) trodAll_mk0), (trodAll_cons_mk (sh0 W' hg) (trodAll_cons_mk (sh1 W' hg) trodAll_mk0)), rfl, hg.frame _, fun h => nomatch h⟩

theorem laid_met (os : Os) : laidMet Tryd.prog Rows.deedMakesRow.laid ((laidWorld os).forCall (fun _ _ => 0) ⟨#[], #[.agg Tryd.zeroCells28, .agg #[.int .i64 0, .int .i64 0, .int .i64 0, .bool false]], []⟩).memory :=
  laidMet_of_run' 8 (by kernel_rfl) (by kernel_rfl)
theorem reads (os : Os) {H : Type} (enc : TypeId × Value → H) : ∃ places, DataW.whole enc Tryd.prog ((laidWorld os).forCall (fun _ _ => 0) ⟨#[], #[.agg Tryd.zeroCells28, .agg #[.int .i64 0, .int .i64 0, .int .i64 0, .bool false]], []⟩).memory Tryd.f4.params.toList Rows.deedMakesSpec.vars false #[(.agg Tryd.zeroCells28 : Value), (.agg #[.int .i64 0, .int .i64 0, .int .i64 0, .bool false] : Value)].toList 8 = some ([.agg [.agg (List.replicate 81 (.lit (.int .i8 0))), .agg [.agg (List.replicate 8 (.lit (.int .i8 0))), .agg (List.replicate 8 (.lit (.int .i8 0)))], .lit (.int .i8 0)], .agg [.lit (.int .i64 0), .lit (.int .i64 0), .lit (.int .i64 0), .lit (.bool false)]], [], places) :=
  ⟨[], by kernel_rfl⟩

set_option maxRecDepth 100000 in
theorem lifted (os : Os) (started : os.Started) (H : Type) (enc : TypeId × Value → H) (F : Stop.Interp) :
    ReturnsInHanded {} Tryd.checked os 4 .any ((OpenSpec.ofChange Rows.deedMakesSpec).preRow enc Tryd.prog Tryd.f4 Rows.deedMakesRow.domain false Rows.deedMakesRow.laid) (((OpenSpec.ofChange Rows.deedMakesSpec).at F).post enc Tryd.prog Tryd.f4 false true false false) := by
  obtain ⟨places, hx⟩ := reads os enc
  refine returnsInHanded_of_row (C := Tryd.checked) (s := OpenSpec.ofChange Rows.deedMakesSpec) own started (by kernel_rfl) Tryd.func4
    (witness_row_at (enc := enc) (C := Tryd.checked) false (laidWorld os) #[.agg Tryd.zeroCells28, .agg #[.int .i64 0, .int .i64 0, .int .i64 0, .bool false]] rfl (by kernel_rfl) (by kernel_rfl) (by kernel_rfl)
      (OpenSpec.preRow_of_cond 8 hx (by kernel_rfl) (fun k hk => by cases hk) (by kernel_rfl) (laid_met os))) ?_
  intro W base args ds gs before hval hW _ _ _ hL _ _
  exact contract H enc W base args ds gs before hval hW hL

theorem said : Rows.DeedMakesSaid :=
  OpenClaim.holds_of_cond 4 Tryd.f4 rfl rfl rfl rfl rfl rfl rfl ⟨rfl, rfl, rfl, rfl, rfl⟩ rfl rfl rfl rfl rfl (by kernel_rfl) Tryd.func4 (by kernel_rfl)
    (of_decide_eq_true (by kernel_rfl)) (by unfold Func.isWrapper; first | (rw [if_pos (by decide +kernel)]; kernel_rfl) | (rw [if_neg (by decide +kernel)]; exact ⟨rfl, rfl⟩))
    (fun os started H enc _ F => by rw [OpenClaim.pre_eq_preRow]; exact lifted os started H enc F)

theorem plain (f : FuncId) (fn : Func) (hf : Tryd.pinned.checked.prog.funcNamed "kakugyo/kakugyolaw09.DeedMakes" = some f) (hfn : Tryd.pinned.checked.prog.funcs[f]? = some fn) :
    false = Tryd.pinned.checked.prog.looks [] ∧ ∀ (j : Nat) t, fn.params[j]? = some t → Tryd.pinned.checked.prog.wantsStandIn t = false := by
  obtain rfl : f = 4 := Option.some.inj ((show Tryd.prog.funcNamed "kakugyo/kakugyolaw09.DeedMakes" = some 4 by kernel_rfl).symm.trans hf) |>.symm
  obtain rfl : fn = Tryd.f4 := (Option.some.inj (Tryd.func4.symm.trans hfn)).symm
  refine ⟨by kernel_rfl, fun j t ht => ?_⟩
  rw [Tryd.params4] at ht
  have ht2 := Array.mem_of_getElem? ht
  have s0 : Tryd.prog.wantsStandIn 28 = false := by kernel_rfl
  have s1 : Tryd.prog.wantsStandIn 54 = false := by kernel_rfl
  obtain rfl | rfl : t = 28 ∨ t = 54 := by simpa using ht2
  · exact s0
  · exact s1

theorem card : Rows.DeedMakesCardSaid :=
  Claim7.holds_tied_plain_at .later [] _ _ _ _ said (fun _ h => by cases h) (by kernel_rfl) (fun _ h => by cases h) deedMakes_row_tie rfl ⟨rfl, rfl⟩ (by kernel_rfl) rfl plain (by kernel_rfl)
end Go.Proofs.YtfemicpfkgecbaaDoor.deedMakes
