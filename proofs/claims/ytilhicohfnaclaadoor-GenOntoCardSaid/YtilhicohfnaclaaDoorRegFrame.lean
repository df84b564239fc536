/-
  A region that draws its order, by an invariant over what is done: whatever order is drawn, an invariant of (what is done, frame, world) that each operation keeps, as soon as those stand that it must wait for, holds at the end.
-/
import Derived.Orders
import Derived.RegionTactic
namespace Go.Proofs.YtilhicohfnaclaaDoor
open Go

/-- How many of the first n operations are not done. -/
def left (listed : Array Bool) : Nat → Nat
  | 0 => 0
  | n + 1 => left listed n + (if listed.getD n true then 0 else 1)
theorem left_pos (listed : Array Bool) (i : Nat) (hl : listed.getD i true = false) : ∀ n, i < n → 1 ≤ left listed n
  | 0, h => absurd h (Nat.not_lt_zero _)
  | n + 1, h => by
    unfold left
    by_cases e : i = n
    · subst e
      rw [hl]
      simp
    · have := left_pos listed i hl n (by omega)
      omega
theorem getD_done (listed : Array Bool) (i j : Nat) : (listed.setIfInBounds i true).getD j true = (if i = j then true else listed.getD j true) := by
  simp only [Array.getD_eq_getD_getElem?, Array.getElem?_setIfInBounds]
  by_cases e : i = j
  · subst e
    by_cases h : i < listed.size
    · simp [h]
    · simp [h]
  · simp [e]
theorem left_step (listed : Array Bool) (i : Nat) (hl : listed.getD i true = false) : ∀ n, left (listed.setIfInBounds i true) n + (if i < n then 1 else 0) = left listed n
  | 0 => by simp [left]
  | n + 1 => by
    unfold left
    have ih := left_step listed i hl n
    rw [getD_done]
    by_cases e : i = n
    · subst e
      have h1 : ¬ i < i := Nat.lt_irrefl _
      rw [if_neg h1] at ih
      simp [hl]
      omega
    · rw [if_neg e]
      by_cases h : i < n
      · rw [if_pos h] at ih
        have h' : i < n + 1 := by omega
        rw [if_pos h']
        omega
      · rw [if_neg h] at ih
        have h' : ¬ i < n + 1 := by omega
        rw [if_neg h']
        omega

theorem wpAny_inv {P : Program} {md : Region.Mode} {ops : Array Oper} {Q : Exit → Act → World → Prop} (Inv : Array Bool → Act → World → Prop)
    (step : ∀ (listed : Array Bool) (a : Act) (w : World), Inv listed a w → ∀ (i : Nat) (o : Oper), ops[i]? = some o → listed.getD i true = false → (∀ e ∈ o.after, Region.binds md e = true → listed.getD e.on false = true) →
      wpOp P ops Q i (fun a' w' => Inv (listed.setIfInBounds i true) a' w') a w)
    (fin : ∀ (listed : Array Bool) (a : Act) (w : World), Inv listed a w → Region.ready md ops listed = [] → Q .normal a w) :
    ∀ (fuel : Nat) (listed : Array Bool) (a : Act) (w : World), Inv listed a w → left listed ops.size ≤ fuel → wpAny P md ops Q fuel listed a w := by
  have got : ∀ (listed : Array Bool) (i : Nat), i ∈ Region.ready md ops listed → ∃ o, ops[i]? = some o ∧ i < ops.size ∧ listed.getD i true = false ∧ (∀ e ∈ o.after, Region.binds md e = true → listed.getD e.on false = true) := by
    intro listed i hi
    unfold Region.ready at hi
    rw [List.mem_filter, List.mem_range] at hi
    obtain ⟨h1, h2⟩ := hi
    obtain ⟨o, ho⟩ : ∃ o, ops[i]? = some o := ⟨ops[i], by simp [h1]⟩
    rw [ho] at h2
    simp only [Bool.and_eq_true, Bool.not_eq_true', Option.map_some, Option.getD_some, Array.all_eq_true_iff_forall_mem, Bool.or_eq_true] at h2
    refine ⟨o, ho, h1, h2.1, fun e he hb => ?_⟩
    rcases h2.2 e he with h | h
    · rw [hb] at h
      cases h
    · exact h
  intro fuel
  induction fuel with
  | zero =>
    intro listed a w h hf
    have hr : Region.ready md ops listed = [] := by
      apply List.eq_nil_iff_forall_not_mem.2
      intro i hi
      obtain ⟨o, ho, h1, h2, -⟩ := got listed i hi
      have := left_pos listed i h2 _ h1
      omega
    exact ⟨hr, fin listed a w h hr⟩
  | succ fuel ih =>
    intro listed a w h hf
    refine ⟨fin listed a w h, fun i hi => ?_⟩
    obtain ⟨o, ho, h1, h2, h3⟩ := got listed i hi
    refine wpOp_mono (fun a' w' h' => ih _ _ _ h' ?_) (step listed a w h i o ho h2 h3)
    have := left_step listed i h2 ops.size
    rw [if_pos h1] at this
    omega

/-- Where each operation waits for earlier ones alone: when none is ready, all are done. -/
theorem all_done {md : Region.Mode} {ops : Array Oper} {listed : Array Bool} (hd : ∀ (i : Nat) (o : Oper), ops[i]? = some o → ∀ e ∈ o.after, e.on < i) (hs : listed.size = ops.size) (hr : Region.ready md ops listed = []) :
    ∀ i, i < ops.size → listed.getD i false = true := by
  intro i
  induction i using Nat.strongRecOn with
  | _ i ih =>
    intro hi
    have ho : ops[i]? = some ops[i] := by simp [hi]
    cases hl : listed.getD i false with
    | true => rfl
    | false =>
      exfalso
      have hm : i ∈ Region.ready md ops listed := by
        unfold Region.ready
        rw [List.mem_filter, List.mem_range]
        refine ⟨hi, ?_⟩
        rw [ho]
        have h1 : listed.getD i true = false := by
          simp only [Array.getD_eq_getD_getElem?] at hl ⊢
          have : i < listed.size := by omega
          simp [this] at hl ⊢
          exact hl
        simp only [h1, Bool.not_false, Bool.true_and, Option.map_some, Option.getD_some, Array.all_eq_true_iff_forall_mem, Bool.or_eq_true]
        intro e he
        exact Or.inr (ih e.on (hd i _ ho e he) (Nat.lt_trans (hd i _ ho e he) hi))
      rw [hr] at hm
      cases hm

/-- A call of a Go function, in a frame that is a letter. -/
theorem wp_callK {P : Program} {o : Oper} {a : Act} {w : World} {K : Act → World → Prop} {Q : Exit → Act → World → Prop} (f : FuncId) (args : Array Value)
    (hrun : (execOp a.eval o).run P w = .ok (.enter f args) w) (hc : Calls P f args w fun e w' => ∃ v, e = .returned v ∧ K (a.put o.dst v) w') : o.wp P a w K Q := by
  unfold Oper.wp
  rw [hrun]
  simp only [Oper.upon]
  refine hc.mono fun e w' h => ?_
  obtain ⟨v, rfl, h⟩ := h
  exact h
/-- An operation that yields a value, in a frame that is a letter. -/
theorem wp_valueK {P : Program} {o : Oper} {a : Act} {w w' : World} {K : Act → World → Prop} {Q : Exit → Act → World → Prop} (v : Value)
    (hrun : (execOp a.eval o).run P w = .ok (.value v) w') (h : K (a.put o.dst v) w') : o.wp P a w K Q := by
  unfold Oper.wp
  rw [hrun]
  simpa only [Oper.upon] using h
end Go.Proofs.YtilhicohfnaclaaDoor

/-
  A frame as a chain of conditional puts: what is done has its slot filled, the rest stands as at the head.
-/
namespace Go.Proofs.YtilhicohfnaclaaDoor
open Go
set_option linter.unusedSimpArgs false

def cput (c : Bool) (d : Nat) (v : Value) (a : Act) : Act := if c then a.put (some d) v else a
theorem cput_put {c : Bool} {d d' : Nat} {v v' : Value} {a : Act} (h : d ≠ d') : (cput c d v a).put (some d') v' = cput c d v (a.put (some d') v') := by
  cases c
  · rfl
  · simp only [cput, if_true, Act.put]
    congr 1
    apply Array.ext_getElem?
    intro i
    simp only [Array.getElem?_setIfInBounds, Array.size_setIfInBounds]
    by_cases e1 : d = i
    · subst e1
      simp [Ne.symm h]
    · simp [e1]
theorem cput_at {d : Nat} {u v : Value} {a : Act} : (cput false d u a).put (some d) v = cput true d v a := rfl
theorem size_cput {c : Bool} {d : Nat} {v : Value} {a : Act} : (cput c d v a).tmps.size = a.tmps.size := by
  cases c <;> simp [cput, Act.put]
theorem eval_cput_ne {c : Bool} {d k : Nat} {v : Value} {a : Act} (h : d ≠ k) : (cput c d v a).eval (.tmp k) = a.eval (.tmp k) := by
  cases c
  · rfl
  · simp only [cput, if_true, Act.put, Act.eval]
    simp [Array.getD_eq_getD_getElem?, Array.getElem?_setIfInBounds, h]
theorem eval_cput_at {k : Nat} {v : Value} {a : Act} (h : k < a.tmps.size) : (cput true k v a).eval (.tmp k) = v := by
  simp only [cput, if_true, Act.put, Act.eval]
  simp [Array.getD_eq_getD_getElem?, Array.getElem?_setIfInBounds, h]
theorem getF {l : Array Bool} {i j : Nat} (hi : i < l.size) : (l.setIfInBounds i true).getD j false = (if i = j then true else l.getD j false) := by
  simp only [Array.getD_eq_getD_getElem?, Array.getElem?_setIfInBounds]
  by_cases e : i = j
  · subst e
    simp [hi]
  · simp [e]
theorem undone {l : Array Bool} {i : Nat} (h : l.getD i true = false) : l.getD i false = false := by
  simp only [Array.getD_eq_getD_getElem?] at h ⊢
  by_cases hi : i < l.size
  · simp [hi] at h ⊢
    exact h
  · simp [hi] at h
theorem wpAny_inv3 {P : Program} {md : Region.Mode} {ops : Array Oper} {Q : Exit → Act → World → Prop} {a0 : Act} {w0 : World} {fuel : Nat} {l0 : Array Bool} (E : Act → Prop) (hE : E a0) (Inv : Act → Array Bool → Act → World → Prop)
    (step : ∀ a0, E a0 → ∀ (listed : Array Bool) (a : Act) (w : World), Inv a0 listed a w → ∀ (i : Nat) (o : Oper), ops[i]? = some o → listed.getD i true = false → (∀ e ∈ o.after, Region.binds md e = true → listed.getD e.on false = true) →
      wpOp P ops Q i (fun a' w' => Inv a0 (listed.setIfInBounds i true) a' w') a w)
    (fin : ∀ (listed : Array Bool) (a : Act) (w : World), Inv a0 listed a w → Region.ready md ops listed = [] → Q .normal a w)
    (start : Inv a0 l0 a0 w0) (hf : left l0 ops.size ≤ fuel) : wpAny P md ops Q fuel l0 a0 w0 :=
  wpAny_inv (Inv a0) (step a0 hE) fin fuel l0 a0 w0 start hf
def waitsB (ops : Array Oper) : Bool := (List.range ops.size).all fun i =>
  match ops[i]? with
  | some o => o.after.toList.all fun e => decide (e.on < i)
  | none => true
theorem all_doneB {md : Region.Mode} {ops : Array Oper} {listed : Array Bool} (hr : Region.ready md ops listed = []) (h : waitsB ops = true) (hs : listed.size = ops.size) :
    ∀ i, i < ops.size → listed.getD i false = true := by
  refine all_done ?_ hs hr
  intro i o ho e he
  have hi : i < ops.size := by
    rcases Nat.lt_or_ge i ops.size with h' | h'
    · exact h'
    · rw [Array.getElem?_eq_none h'] at ho
      cases ho
  have h1 := List.all_eq_true.1 h i (List.mem_range.2 hi)
  simp only [ho] at h1
  exact of_decide_eq_true (List.all_eq_true.1 h1 e (by simpa using he))
end Go.Proofs.YtilhicohfnaclaaDoor
