/-
  The document's answers for sets of squares: what the reference's Of, Put, List return.
-/
import Derived.Test.YtnmekghjkajhcaaDoorSet6
import Derived.Laws.Tables
import Derived.Laws.Rows
namespace Go.Proofs.YtnmekghjkajhcaaDoor
open Go.RowKit
set_option linter.unusedVariables false

/-- The cells of the document's set: which of the squares below k of n are in it; of the others none. -/
def arrP (n k : Nat) : Array Value := ((List.range 81).map (fun q => Value.bool (decide (q < k) && n.testBit q))).toArray
def zA : Array Value := (List.replicate 81 (Value.bool false)).toArray
theorem arrP_zero (n : Nat) : arrP n 0 = zA := by
  unfold arrP zA
  congr 1
theorem arrP_size (n k : Nat) : (arrP n k).size = 81 := by simp [arrP]
theorem arrP_get (n k q : Nat) (h : q < 81) : (arrP n k)[q]? = some (.bool (decide (q < k) && n.testBit q)) := by
  simp [arrP, h]
theorem arrP_step (n k : Nat) (h : k < 81) : (arrP n k).setIfInBounds k (.bool (n.testBit k)) = arrP n (k + 1) := by
  apply Array.ext_getElem?
  intro i
  rw [Array.getElem?_setIfInBounds]
  by_cases hi : k = i
  · subst hi
    rw [if_pos rfl, if_pos (by rw [arrP_size]; exact h), arrP_get _ _ _ h]
    simp
  · rw [if_neg hi]
    by_cases h81 : i < 81
    · rw [arrP_get _ _ _ h81, arrP_get _ _ _ h81]
      have : decide (i < k) = decide (i < k + 1) := by simp; omega
      rw [this]
    · rw [Array.getElem?_eq_none (by rw [arrP_size]; omega), Array.getElem?_eq_none (by rw [arrP_size]; omega)]
theorem all_bool (f : Nat → Bool) (l : List Nat) : (l.map (fun q => Value.bool (f q))).toArray.all (·.oneCell') = true := by
  rw [List.all_toArray, List.all_map, List.all_eq_true]
  intro x _
  rfl
theorem arrP_one (n k : Nat) : (arrP n k).all (·.oneCell') = true := all_bool _ _
theorem zA_one : zA.all (·.oneCell') = true := by
  rw [← arrP_zero 0]
  exact arrP_one 0 0
theorem bit_lo (n k : Nat) (h : k < 63) : ((loW n / (2 : Int) ^ k).tmod 2 == 1) = n.testBit k := by
  unfold loW
  have e : ((n % 9223372036854775808 : Nat) : Int) / (2 : Int) ^ k = ((n % 9223372036854775808 / 2 ^ k : Nat) : Int) := by
    rw [Int.natCast_ediv, Int.natCast_pow]
    rfl
  have hb : n.testBit k = (n % 9223372036854775808).testBit k := by
    rw [pow63, Nat.testBit_mod_two_pow]
    simp [h]
  rw [e, hb, Nat.testBit_eq_decide_div_mod_eq]
  generalize n % 9223372036854775808 / 2 ^ k = x
  rw [Int.tmod_eq_emod_of_nonneg (by omega), Bool.eq_iff_iff]
  simp only [beq_iff_eq, decide_eq_true_eq]
  omega
theorem bit_hi (n k : Nat) : ((hiW n / (2 : Int) ^ k).tmod 2 == 1) = n.testBit (k + 63) := by
  unfold hiW
  have e : ((n / 9223372036854775808 : Nat) : Int) / (2 : Int) ^ k = ((n / 9223372036854775808 / 2 ^ k : Nat) : Int) := by
    generalize n / 9223372036854775808 = m
    rw [Int.natCast_ediv, Int.natCast_pow]
    rfl
  have hb : n.testBit (k + 63) = (n / 9223372036854775808).testBit k := by
    rw [pow63, Nat.testBit_div_two_pow]
  rw [e, hb, Nat.testBit_eq_decide_div_mod_eq]
  generalize n / 9223372036854775808 / 2 ^ k = x
  rw [Int.tmod_eq_emod_of_nonneg (by omega), Bool.eq_iff_iff]
  simp only [beq_iff_eq, decide_eq_true_eq]
  omega

theorem below_setRow {a w : World} (h : Below a.heap.size a w) {g : Nat} (hg : a.heap.size ≤ g) (cs : Array Value) : Below a.heap.size a (w.setRow g cs) :=
  h.trans ⟨rfl, rfl, rfl, by simp, fun k hk => setRow_other w g k cs (by omega)⟩

end Go.Proofs.YtnmekghjkajhcaaDoor
