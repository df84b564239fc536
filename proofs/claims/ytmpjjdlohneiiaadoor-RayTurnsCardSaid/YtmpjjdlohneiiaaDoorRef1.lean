/-
  The document's answers for sets of squares: what the reference's Of, Put, List return.
-/
import Derived.Test.YtmpjjdlohneiiaaDoorSet6
import Derived.Laws.Tables
import Derived.Laws.Rows
namespace Go.Proofs.YtmpjjdlohneiiaaDoor
open Go.RowKit
set_option linter.unusedVariables false

/-- The cells of the document's set: which of the squares below k of n are in it; of the others none. -/
def arrP (n k : Nat) : Array Value := ((List.range 81).map (fun q => Value.bool (decide (q < k) && n.testBit q))).toArray
def zA : Array Value := (List.replicate 81 (Value.bool false)).toArray
theorem arrP_zero (n : Nat) : arrP n 0 = zA := by
  unfold arrP zA
  congr 1
theorem arrP_size (n k : Nat) : (arrP n k).size = 81 := by simp [arrP]
theorem arrP_get (n k q : Nat) (h : q < 81) : (arrP n k)[q]? = some (.bool (decide (q < k) && n.testBit q)) := by
  simp [arrP, h]
theorem arrP_step (n k : Nat) (h : k < 81) : (arrP n k).setIfInBounds k (.bool (n.testBit k)) = arrP n (k + 1) := by
  apply Array.ext_getElem?
  intro i
  rw [Array.getElem?_setIfInBounds]
  by_cases hi : k = i
  · subst hi
    rw [if_pos rfl, if_pos (by rw [arrP_size]; exact h), arrP_get _ _ _ h]
    simp
  · rw [if_neg hi]
    by_cases h81 : i < 81
    · rw [arrP_get _ _ _ h81, arrP_get _ _ _ h81]
      have : decide (i < k) = decide (i < k + 1) := by simp; omega
      rw [this]
    · rw [Array.getElem?_eq_none (by rw [arrP_size]; omega), Array.getElem?_eq_none (by rw [arrP_size]; omega)]
theorem all_bool (f : Nat → Bool) (l : List Nat) : (l.map (fun q => Value.bool (f q))).toArray.all (·.oneCell') = true := by
  rw [List.all_toArray, List.all_map, List.all_eq_true]
  intro x _
  rfl
theorem arrP_one (n k : Nat) : (arrP n k).all (·.oneCell') = true := all_bool _ _
theorem zA_one : zA.all (·.oneCell') = true := by
  rw [← arrP_zero 0]
  exact arrP_one 0 0
theorem zero_arr (w : World) : (zeroValue 28).run Tryd.prog w = .ok (.agg zA) w := by kernel_rfl
theorem build_arr (w : World) : (Instr.build 28 #[]).run Tryd.prog w = .ok (.agg zA) w := by kernel_rfl
theorem info_arr : (Tryd.prog.info? 28).map (·.size) = some 81 := by kernel_rfl

theorem bit_lo (n k : Nat) (h : k < 63) : ((loW n / (2 : Int) ^ k).tmod 2 == 1) = n.testBit k := by
  unfold loW
  have e : ((n % 9223372036854775808 : Nat) : Int) / (2 : Int) ^ k = ((n % 9223372036854775808 / 2 ^ k : Nat) : Int) := by
    rw [Int.natCast_ediv, Int.natCast_pow]
    rfl
  have hb : n.testBit k = (n % 9223372036854775808).testBit k := by
    rw [pow63, Nat.testBit_mod_two_pow]
    simp [h]
  rw [e, hb, Nat.testBit_eq_decide_div_mod_eq]
  generalize n % 9223372036854775808 / 2 ^ k = x
  rw [Int.tmod_eq_emod_of_nonneg (by omega), Bool.eq_iff_iff]
  simp only [beq_iff_eq, decide_eq_true_eq]
  omega
theorem bit_hi (n k : Nat) : ((hiW n / (2 : Int) ^ k).tmod 2 == 1) = n.testBit (k + 63) := by
  unfold hiW
  have e : ((n / 9223372036854775808 : Nat) : Int) / (2 : Int) ^ k = ((n / 9223372036854775808 / 2 ^ k : Nat) : Int) := by
    generalize n / 9223372036854775808 = m
    rw [Int.natCast_ediv, Int.natCast_pow]
    rfl
  have hb : n.testBit (k + 63) = (n / 9223372036854775808).testBit k := by
    rw [pow63, Nat.testBit_div_two_pow]
  rw [e, hb, Nat.testBit_eq_decide_div_mod_eq]
  generalize n / 9223372036854775808 / 2 ^ k = x
  rw [Int.tmod_eq_emod_of_nonneg (by omega), Bool.eq_iff_iff]
  simp only [beq_iff_eq, decide_eq_true_eq]
  omega

theorem below_setRow {a w : World} (h : Below a.heap.size a w) {g : Nat} (hg : a.heap.size ≤ g) (cs : Array Value) : Below a.heap.size a (w.setRow g cs) :=
  h.trans ⟨rfl, rfl, rfl, by simp, fun k hk => setRow_other w g k cs (by omega)⟩

theorem refOf_any (n : Nat) (hn : Sq n) (w : World) :
    Calls Tryd.prog 35 #[.int .u64 (loW n), .int .u64 (hiW n)] w fun e w' => e = .returned (.agg (arrP n 81)) ∧ Below w.heap.size w w' := by
  have hz := zero_arr
  have hbd := build_arr
  go_enter Tryd.func35, Tryd.ntmps35
  go_wp2_with (refine wpList_store_row rfl 28 _ _ rfl (w.heap.size + 1) zA rfl rfl 28 zA (heap_alloc2_new w _ _) info_arr rfl zA_one ?_)
  clear hz hbd
  go_loopw [6] (fun i wr => ∃ k : Nat, k ≤ 81 ∧ i = .int .i64 k ∧ Below w.heap.size w wr ∧ wr.heap[w.heap.size]? = some (.cells zA 28) ∧ wr.heap[w.heap.size + 1]? = some (.cells (arrP n k) 28)) (fun i _ => 81 - (intOf i).toNat)
  case atStart =>
    refine ⟨0, by omega, rfl, ?_, ?_, ?_⟩
    · exact below_setRow (ball (ball (bref w) _) _) (Nat.le_succ _) _
    · rw [setRow_other _ _ _ _ (by omega)]
      exact heap_alloc2_old w _ _
    · rw [setRow_heap _ _ _ _ _ _ (heap_alloc2_new w _ _), arrP_zero]
  case round =>
    obtain ⟨k, hk, rfl, hB, hR, hV⟩ := hrel
    have HB := Lib.hid hB
    have HR := Lib.hid hR
    have HV := Lib.hid hV
    by_cases hlt : k < 81
    · have cc : wr.cell? ⟨w.heap.size + 1, k, none⟩ = some (.bool (decide (k < k) && n.testBit k)) := by
        rw [cell_of_row _ _ _ _ _ _ hV, arrP_get _ _ _ hlt]
      have fz : wr.frozen? ⟨w.heap.size + 1, k, none⟩ = false := frozen_of_row _ _ _ _ _ hV
      clear hB hR hV
      by_cases h63 : k < 63
      · have hbit := bit_lo n k h63
        go_wp2
        go_roundw
        case rel =>
          refine ⟨k + 1, by omega, by go_num, HB.out.setCell (by simp) _, ?_, ?_⟩
          · rw [heap_setCell_other _ _ _ _ (by simp)]
            exact HR.out
          · rw [heap_setCell_same _ _ _ _ _ _ HV.out, arrP_step _ _ hlt]
        case measure => simp [intOf]; omega
      · obtain ⟨d, rfl⟩ : ∃ d, k = d + 63 := ⟨k - 63, by omega⟩
        have hbit := bit_hi n d
        clear h63
        have h64 : ¬ (d : Int) + 63 < 63 := by omega
        have h65 : (d : Int) + 63 < 81 := by omega
        go_wp2
        go_roundw
        case rel =>
          refine ⟨d + 63 + 1, by omega, by go_num, HB.out.setCell (by simp) _, ?_, ?_⟩
          · rw [heap_setCell_other _ _ _ _ (by simp)]
            exact HR.out
          · rw [heap_setCell_same _ _ _ _ _ _ HV.out, arrP_step _ _ hlt]
        case measure => simp [intOf]; omega
    · obtain rfl : k = 81 := by omega
      clear hB hR hV
      go_wp2_with (first | (refine wpList_load_row rfl 28 _ rfl (w.heap.size + 1) rfl 28 _ _ _ HV.out Tryd.underlying28 rfl (by rw [arrP_size]; exact info_arr) ?_) | (refine wpList_store_row rfl 28 _ _ rfl w.heap.size (arrP n 81) rfl rfl 28 zA HR.out info_arr rfl (arrP_one _ _) ?_))
      exact bodyPost_ret (results_cell_row Tryd.results35 _ _ w.heap.size 28 (arrP n 81) _ _ rfl (setRow_heap _ _ _ _ _ _ HR.out) Tryd.underlying28 rfl (by rw [arrP_size]; exact info_arr)) rfl
        ⟨rfl, below_setRow HB.out (Nat.le_refl _) _⟩
end Go.Proofs.YtmpjjdlohneiiaaDoor
