/-
  A frame as a chain of conditional puts: what is done has its slot filled, the rest stands as at the head.
-/
import Derived.Test.YtnmekghjkajhcaaDoorRegionInv
namespace Go.Proofs.YtnmekghjkajhcaaDoor
open Go
set_option linter.unusedSimpArgs false

def cput (c : Bool) (d : Nat) (v : Value) (a : Act) : Act := if c then a.put (some d) v else a
theorem cput_put {c : Bool} {d d' : Nat} {v v' : Value} {a : Act} (h : d ≠ d') : (cput c d v a).put (some d') v' = cput c d v (a.put (some d') v') := by
  cases c
  · rfl
  · simp only [cput, if_true, Act.put]
    congr 1
    apply Array.ext_getElem?
    intro i
    simp only [Array.getElem?_setIfInBounds, Array.size_setIfInBounds]
    by_cases e1 : d = i
    · subst e1
      simp [Ne.symm h]
    · simp [e1]
theorem cput_at {d : Nat} {u v : Value} {a : Act} : (cput false d u a).put (some d) v = cput true d v a := rfl
theorem size_cput {c : Bool} {d : Nat} {v : Value} {a : Act} : (cput c d v a).tmps.size = a.tmps.size := by
  cases c <;> simp [cput, Act.put]
theorem eval_cput_ne {c : Bool} {d k : Nat} {v : Value} {a : Act} (h : d ≠ k) : (cput c d v a).eval (.tmp k) = a.eval (.tmp k) := by
  cases c
  · rfl
  · simp only [cput, if_true, Act.put, Act.eval]
    simp [Array.getD_eq_getD_getElem?, Array.getElem?_setIfInBounds, h]
theorem eval_cput_at {k : Nat} {v : Value} {a : Act} (h : k < a.tmps.size) : (cput true k v a).eval (.tmp k) = v := by
  simp only [cput, if_true, Act.put, Act.eval]
  simp [Array.getD_eq_getD_getElem?, Array.getElem?_setIfInBounds, h]
theorem getF {l : Array Bool} {i j : Nat} (hi : i < l.size) : (l.setIfInBounds i true).getD j false = (if i = j then true else l.getD j false) := by
  simp only [Array.getD_eq_getD_getElem?, Array.getElem?_setIfInBounds]
  by_cases e : i = j
  · subst e
    simp [hi]
  · simp [e]
theorem undone {l : Array Bool} {i : Nat} (h : l.getD i true = false) : l.getD i false = false := by
  simp only [Array.getD_eq_getD_getElem?] at h ⊢
  by_cases hi : i < l.size
  · simp [hi] at h ⊢
    exact h
  · simp [hi] at h
theorem wpAny_inv3 {P : Program} {md : Region.Mode} {ops : Array Oper} {Q : Exit → Act → World → Prop} {a0 : Act} {w0 : World} {fuel : Nat} {l0 : Array Bool} (E : Act → Prop) (hE : E a0) (Inv : Act → Array Bool → Act → World → Prop)
    (step : ∀ a0, E a0 → ∀ (listed : Array Bool) (a : Act) (w : World), Inv a0 listed a w → ∀ (i : Nat) (o : Oper), ops[i]? = some o → listed.getD i true = false → (∀ e ∈ o.after, Region.binds md e = true → listed.getD e.on false = true) →
      wpOp P ops Q i (fun a' w' => Inv a0 (listed.setIfInBounds i true) a' w') a w)
    (fin : ∀ (listed : Array Bool) (a : Act) (w : World), Inv a0 listed a w → Region.ready md ops listed = [] → Q .normal a w)
    (start : Inv a0 l0 a0 w0) (hf : left l0 ops.size ≤ fuel) : wpAny P md ops Q fuel l0 a0 w0 :=
  wpAny_inv (Inv a0) (step a0 hE) fin fuel l0 a0 w0 start hf
def waitsB (ops : Array Oper) : Bool := (List.range ops.size).all fun i =>
  match ops[i]? with
  | some o => o.after.toList.all fun e => decide (e.on < i)
  | none => true
theorem all_doneB {md : Region.Mode} {ops : Array Oper} {listed : Array Bool} (hr : Region.ready md ops listed = []) (h : waitsB ops = true) (hs : listed.size = ops.size) :
    ∀ i, i < ops.size → listed.getD i false = true := by
  refine all_done ?_ hs hr
  intro i o ho e he
  have hi : i < ops.size := by
    rcases Nat.lt_or_ge i ops.size with h' | h'
    · exact h'
    · rw [Array.getElem?_eq_none h'] at ho
      cases ho
  have h1 := List.all_eq_true.1 h i (List.mem_range.2 hi)
  simp only [ho] at h1
  exact of_decide_eq_true (List.all_eq_true.1 h1 e (by simpa using he))
end Go.Proofs.YtnmekghjkajhcaaDoor
