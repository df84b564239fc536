/-
  The reference's Put: a square put to a set, or taken from it.
-/
import Derived.Test.YtiecopkihlaidaaDoorLists2
namespace Go.Proofs.YtiecopkihlaidaaDoor
open Go.RowKit
set_option linter.unusedVariables false

def putN (n : Nat) (q : Int) (b : Bool) : Nat := if b then n ||| oneN q else minusN n (oneN q)
theorem putN_test (n : Nat) (q : Int) (b : Bool) (i : Nat) (hi : i < 81) : (putN n q b).testBit i = if q = (i : Int) then b else n.testBit i := by
  unfold putN
  cases b
  · simp only [Bool.false_eq_true, if_false, test_minus, one_test]
    by_cases h : q = (i : Int)
    · simp [h, hi]
    · simp [h]
  · simp only [if_true, Nat.testBit_or, one_test]
    by_cases h : q = (i : Int)
    · simp [h, hi]
    · simp [h]
theorem arrP_congr (n m : Nat) (h : ∀ i, i < 81 → n.testBit i = m.testBit i) : arrP n 81 = arrP m 81 := by
  unfold arrP
  congr 1
  apply List.map_congr_left
  intro i hi
  rw [h i (by simpa using hi)]
theorem arrP_put (n k : Nat) (b : Bool) (h : k < 81) : (arrP n 81).setIfInBounds k (.bool b) = arrP (putN n k b) 81 := by
  apply Array.ext_getElem?
  intro i
  rw [Array.getElem?_setIfInBounds]
  by_cases hi : i < 81
  · rw [arrP_get _ _ _ hi, arrP_get _ _ _ hi, putN_test _ _ _ _ hi, arrP_size]
    by_cases e : k = i
    · subst e
      simp [h]
    · have : ¬ (k : Int) = (i : Int) := by omega
      simp [e, this]
  · have e1 : (arrP n 81)[i]? = none := by rw [Array.getElem?_eq_none_iff, arrP_size]; omega
    have e2 : (arrP (putN n k b) 81)[i]? = none := by rw [Array.getElem?_eq_none_iff, arrP_size]; omega
    rw [e1, e2]
    have : k ≠ i := by omega
    simp [this]
theorem putN_out (n : Nat) (q : Int) (b : Bool) (h : ¬ (0 ≤ q ∧ q < 81)) : arrP (putN n q b) 81 = arrP n 81 := by
  apply arrP_congr
  intro i hi
  rw [putN_test _ _ _ _ hi, if_neg (by omega)]

theorem put_any (n : Nat) (q : Int) (b : Bool) (w : World) :
    Calls Tryd.prog 11 #[.agg (arrP n 81), .int .i64 q, .bool b] w fun e w' => e = .returned (.agg (arrP (putN n q b) 81)) ∧ Below w.heap.size w w' := by
  have hz := zero_arr
  by_cases hq : 0 ≤ q ∧ q < 81
  · obtain ⟨k, rfl⟩ : ∃ k : Nat, q = k := ⟨q.toNat, by omega⟩
    have hk : k < 81 := by omega
    have h0 : (0 : Int) ≤ (k : Int) := by omega
    have h8 : (k : Int) < 81 := by omega
    have hp := arrP_put n k b hk
    have hsz := arrP_size n 81
    have hg := arrP_get n 81 k hk
    have ho := arrP_one n 81
    have ho2 := arrP_one (putN n k b) 81
    have hsz2 := arrP_size (putN n k b) 81
    have HP := Lib.hid (And.intro hp (And.intro hsz (And.intro ho (And.intro ho2 hsz2))))
    clear hp hsz ho ho2 hsz2 hq
    generalize arrP n 81 = A at *
    generalize arrP (putN n k b) 81 = B at *
    have hrow := heap_alloc2_old w (.cells A 29) (.cells zA 29)
    have hrow2 := heap_alloc2_new w (.cells A 29) (.cells zA 29)
    have cc := (cell_of_row _ _ k _ _ _ hrow).trans hg
    have fz := frozen_of_row _ _ k _ _ hrow
    have HR := Lib.hid hrow
    have HR2 := Lib.hid hrow2
    have HW := Lib.hid (ball (ball (bref w) (.cells A 29)) (.cells zA 29))
    have hi : (Tryd.prog.info? 29).map (·.size) = some B.size := by rw [HP.out.2.2.2.2]; exact info_arr
    have hzs : zA.size = B.size := by rw [HP.out.2.2.2.2]; rfl
    have HI := Lib.hid hi
    have HZS := Lib.hid hzs
    clear hg hrow hrow2 hi hzs
    go_enter Tryd.func11, Tryd.ntmps11
    go_upto_region 1 with fail
    clear hz
    generalize (w.alloc (.cells A 29)).alloc (.cells zA 29) = W at HR HR2 HW cc fz ⊢
    have hB : (W.setCell ⟨w.heap.size, k, none⟩ (.bool b)).heap[w.heap.size]? = some (.cells B 29) := by
      rw [heap_setCell_same _ _ _ _ _ _ HR.out, HP.out.1]
    have hZ : (W.setCell ⟨w.heap.size, k, none⟩ (.bool b)).heap[w.heap.size + 1]? = some (.cells zA 29) := by
      rw [heap_setCell_other _ _ _ _ (by simp)]
      exact HR2.out
    have HB := Lib.hid hB
    have HZ := Lib.hid hZ
    clear hB hZ
    go_wp2_with (first
      | (refine wpList_load_row rfl 29 _ rfl w.heap.size rfl 29 _ _ _ HB.out Tryd.underlying29 rfl HI.out ?_)
      | (refine wpList_store_row rfl 29 _ _ rfl (w.heap.size + 1) B rfl rfl 29 zA HZ.out HI.out HZS.out HP.out.2.2.2.1 ?_))
    exact bodyPost_ret (results_cell_row Tryd.results11 _ _ (w.heap.size + 1) 29 B _ _ rfl (setRow_heap _ _ _ _ _ _ HZ.out) Tryd.underlying29 rfl HI.out) rfl
      ⟨rfl, below_setRow (HW.out.setCell (Nat.le_refl _) _) (Nat.le_succ _) _⟩
  · have hsz := arrP_size n 81
    have ho := arrP_one n 81
    rw [putN_out n q b hq]
    generalize arrP n 81 = A at *
    have hrow := heap_alloc2_old w (.cells A 29) (.cells zA 29)
    have hrow2 := heap_alloc2_new w (.cells A 29) (.cells zA 29)
    have hi : (Tryd.prog.info? 29).map (·.size) = some A.size := by rw [hsz]; exact info_arr
    have hzs : zA.size = A.size := by rw [hsz]; rfl
    have HB := Lib.hid hrow
    have HZ := Lib.hid hrow2
    have HI := Lib.hid hi
    have HZS := Lib.hid hzs
    have HO := Lib.hid ho
    clear hrow hrow2 hi hzs ho hsz
    by_cases h0 : 0 ≤ q
    · have h8 : ¬ q < 81 := by omega
      clear hq
      go_enter Tryd.func11, Tryd.ntmps11
      go_wp2_with (first
        | (refine wpList_load_row rfl 29 _ rfl w.heap.size rfl 29 _ _ _ HB.out Tryd.underlying29 rfl HI.out ?_)
        | (refine wpList_store_row rfl 29 _ _ rfl (w.heap.size + 1) A rfl rfl 29 zA HZ.out HI.out HZS.out HO.out ?_))
      exact bodyPost_ret (results_cell_row Tryd.results11 _ _ (w.heap.size + 1) 29 A _ _ rfl (setRow_heap _ _ _ _ _ _ HZ.out) Tryd.underlying29 rfl HI.out) rfl
        ⟨rfl, below_setRow (ball (ball (bref w) _) _) (Nat.le_succ _) _⟩
    · clear hq
      go_enter Tryd.func11, Tryd.ntmps11
      go_wp2_with (first
        | (refine wpList_load_row rfl 29 _ rfl w.heap.size rfl 29 _ _ _ HB.out Tryd.underlying29 rfl HI.out ?_)
        | (refine wpList_store_row rfl 29 _ _ rfl (w.heap.size + 1) A rfl rfl 29 zA HZ.out HI.out HZS.out HO.out ?_))
      exact bodyPost_ret (results_cell_row Tryd.results11 _ _ (w.heap.size + 1) 29 A _ _ rfl (setRow_heap _ _ _ _ _ _ HZ.out) Tryd.underlying29 rfl HI.out) rfl
        ⟨rfl, below_setRow (ball (ball (bref w) _) _) (Nat.le_succ _) _⟩
end Go.Proofs.YtiecopkihlaidaaDoor
