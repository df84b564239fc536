/-
  The squares of a set as a list, rising: plain facts on numbers; no program is named here.
-/
import Derived.Test.YtilhicohfnaclaaDoorSetAll
import Derived.Laws.Tables
import Derived.Laws.Rows
import Derived.OpenShut
import Derived.Deep.RegionHeld3
import Derived.Deep.DeepCutAuto
import Derived.OwnWalk
import Derived.WalkSmall
import Derived.Maps.AppendAt
namespace Go.Proofs.YtilhicohfnaclaaDoor

/-- The set bits of x below k, rising. -/
def bitsL (x k : Nat) : List Nat := (List.range k).filter (fun i => x.testBit i)
theorem bitsL_len (x k : Nat) : (bitsL x k).length = pop k x := (pop_list x k).symm
theorem bitsL_zero (k : Nat) : bitsL 0 k = [] := by
  unfold bitsL
  rw [List.filter_eq_nil_iff]
  intro a _
  simp
theorem bitsL_le (x k : Nat) : (bitsL x k).length ≤ k := by
  rw [bitsL_len]
  exact pop_le k x

theorem low_bits (k m i : Nat) (h : i < k) : (2 ^ k * (2 * m + 1)).testBit i = false := by
  rw [Nat.mul_comm, Nat.testBit_mul_two_pow]
  simp; omega
theorem at_bit (k m : Nat) : (2 ^ k * (2 * m + 1)).testBit k = true := by
  rw [Nat.mul_comm, Nat.testBit_mul_two_pow]
  simp [Nat.testBit_zero]
/-- Clearing the lowest set bit. -/
theorem clear_low (k m i : Nat) : ((2 ^ k * (2 * m + 1)) &&& (2 ^ k * (2 * m + 1) - 1)).testBit i = ((2 ^ k * (2 * m + 1)).testBit i && decide (i ≠ k)) := by
  have e : (2 ^ k * (2 * m + 1)) - 1 = 2 ^ (k + 1) * m + (2 ^ k - 1) := by
    have h1 := Nat.two_pow_pos k
    rw [Nat.pow_succ, Nat.mul_add, Nat.mul_one, Nat.mul_assoc]
    omega
  rw [Nat.testBit_and]
  by_cases hk : i < k
  · rw [low_bits k m i hk]; rfl
  · by_cases he : i = k
    · subst he
      have : (2 ^ i * (2 * m + 1) - 1).testBit i = false := by
        rw [e, Nat.testBit_two_pow_mul_add _ (Nat.lt_of_lt_of_le (Nat.sub_lt (Nat.two_pow_pos _) (by omega)) (Nat.pow_le_pow_right (by omega) (by omega)))]
        rw [if_pos (by omega), Nat.testBit_two_pow_sub_one]
        simp
      rw [this]
      simp
    · have hi : k + 1 ≤ i := by omega
      obtain ⟨d, rfl⟩ : ∃ d, i = d + (k + 1) := ⟨i - (k + 1), by omega⟩
      have h1 : (2 ^ k * (2 * m + 1) - 1).testBit (d + (k + 1)) = m.testBit d := by
        rw [e, Nat.testBit_two_pow_mul_add _ (Nat.lt_of_lt_of_le (Nat.sub_lt (Nat.two_pow_pos _) (by omega)) (Nat.pow_le_pow_right (by omega) (by omega)))]
        rw [if_neg (by omega), Nat.add_sub_cancel]
      have h2 : (2 ^ k * (2 * m + 1)).testBit (d + (k + 1)) = m.testBit d := by
        rw [Nat.mul_comm, Nat.testBit_mul_two_pow]
        have e1 : d + (k + 1) - k = d + 1 := by omega
        rw [e1, Nat.testBit_succ]
        have e2 : (2 * m + 1) / 2 = m := by omega
        rw [e2]
        simp; omega
      rw [h1, h2]
      have : decide (d + (k + 1) ≠ k) = true := by simp; omega
      rw [this]
      cases m.testBit d <;> rfl

/-- The list begins with the lowest set bit; what is left is the list of what is left. -/
theorem bitsL_step (x n : Nat) (hx : x < 2 ^ n) (h0 : x ≠ 0) : bitsL x n = Lib.ctz n x :: bitsL (x &&& (x - 1)) n ∧ Lib.ctz n x < n ∧ x &&& (x - 1) < x := by
  obtain ⟨m, hm, hk⟩ := Lib.ctzFrom_spec n x (by omega) hx
  have hc : Lib.ctz n x = Lib.ctzFrom n x := if_neg h0
  rw [hc]
  generalize Lib.ctzFrom n x = k at hm hk
  refine ⟨?_, hk, ?_⟩
  · have hs : List.range n = List.range' 0 k ++ k :: List.range' (k + 1) (n - k - 1) := by
      rw [List.range_eq_range']
      have : n = k + (1 + (n - k - 1)) := by omega
      conv => lhs; rw [this, ← List.range'_append_1, ← List.range'_append_1]
      simp [List.range'_succ]
    unfold bitsL
    rw [hs, List.filter_append, List.filter_append, List.filter_cons, List.filter_cons]
    have f1 : (List.range' 0 k).filter (fun i => x.testBit i) = [] := by
      rw [List.filter_eq_nil_iff]
      intro i hi
      have : i < k := by simp [List.mem_range'_1] at hi; omega
      rw [hm, low_bits k m i this]
      simp
    have f2 : (List.range' 0 k).filter (fun i => (x &&& (x - 1)).testBit i) = [] := by
      rw [List.filter_eq_nil_iff]
      intro i hi
      have : i < k := by simp [List.mem_range'_1] at hi; omega
      rw [hm, clear_low, low_bits k m i this]
      simp
    have t1 : x.testBit k = true := by rw [hm]; exact at_bit k m
    have t2 : (x &&& (x - 1)).testBit k = false := by rw [hm, clear_low]; simp
    rw [f1, f2, t1, t2]
    simp only [List.nil_append, if_true, Bool.false_eq_true, if_false, List.cons.injEq, true_and]
    apply List.filter_congr
    intro i hi
    have : k < i := by simp [List.mem_range'_1] at hi; omega
    rw [hm, clear_low]
    have : decide (i ≠ k) = true := by simp; omega
    rw [this, Bool.and_true]
  · have : x &&& (x - 1) ≤ x - 1 := Nat.and_le_right
    omega
end Go.Proofs.YtilhicohfnaclaaDoor

/-
  The document's answers for sets of squares: what the reference's Of, Put, List return.
-/
namespace Go.Proofs.YtilhicohfnaclaaDoor
open Go.RowKit
set_option linter.unusedVariables false

/-- The cells of the document's set: which of the squares below k of n are in it; of the others none. -/
def arrP (n k : Nat) : Array Value := ((List.range 81).map (fun q => Value.bool (decide (q < k) && n.testBit q))).toArray
def zA : Array Value := (List.replicate 81 (Value.bool false)).toArray
theorem arrP_zero (n : Nat) : arrP n 0 = zA := by
  unfold arrP zA
  congr 1
theorem arrP_size (n k : Nat) : (arrP n k).size = 81 := by simp [arrP]
theorem arrP_get (n k q : Nat) (h : q < 81) : (arrP n k)[q]? = some (.bool (decide (q < k) && n.testBit q)) := by
  simp [arrP, h]
theorem arrP_step (n k : Nat) (h : k < 81) : (arrP n k).setIfInBounds k (.bool (n.testBit k)) = arrP n (k + 1) := by
  apply Array.ext_getElem?
  intro i
  rw [Array.getElem?_setIfInBounds]
  by_cases hi : k = i
  · subst hi
    rw [if_pos rfl, if_pos (by rw [arrP_size]; exact h), arrP_get _ _ _ h]
    simp
  · rw [if_neg hi]
    by_cases h81 : i < 81
    · rw [arrP_get _ _ _ h81, arrP_get _ _ _ h81]
      have : decide (i < k) = decide (i < k + 1) := by simp; omega
      rw [this]
    · rw [Array.getElem?_eq_none (by rw [arrP_size]; omega), Array.getElem?_eq_none (by rw [arrP_size]; omega)]
theorem all_bool (f : Nat → Bool) (l : List Nat) : (l.map (fun q => Value.bool (f q))).toArray.all (·.oneCell') = true := by
  rw [List.all_toArray, List.all_map, List.all_eq_true]
  intro x _
  rfl
theorem arrP_one (n k : Nat) : (arrP n k).all (·.oneCell') = true := all_bool _ _
theorem zA_one : zA.all (·.oneCell') = true := by
  rw [← arrP_zero 0]
  exact arrP_one 0 0
theorem zero_arr (w : World) : (zeroValue 43).run Tryd.prog w = .ok (.agg zA) w := by kernel_rfl
theorem build_arr (w : World) : (Instr.build 43 #[]).run Tryd.prog w = .ok (.agg zA) w := by kernel_rfl
theorem info_arr : (Tryd.prog.info? 43).map (·.size) = some 81 := by kernel_rfl

theorem bit_lo (n k : Nat) (h : k < 63) : ((loW n / (2 : Int) ^ k).tmod 2 == 1) = n.testBit k := by
  unfold loW
  have e : ((n % 9223372036854775808 : Nat) : Int) / (2 : Int) ^ k = ((n % 9223372036854775808 / 2 ^ k : Nat) : Int) := by
    rw [Int.natCast_ediv, Int.natCast_pow]
    rfl
  have hb : n.testBit k = (n % 9223372036854775808).testBit k := by
    rw [pow63, Nat.testBit_mod_two_pow]
    simp [h]
  rw [e, hb, Nat.testBit_eq_decide_div_mod_eq]
  generalize n % 9223372036854775808 / 2 ^ k = x
  rw [Int.tmod_eq_emod_of_nonneg (by omega), Bool.eq_iff_iff]
  simp only [beq_iff_eq, decide_eq_true_eq]
  omega
theorem bit_hi (n k : Nat) : ((hiW n / (2 : Int) ^ k).tmod 2 == 1) = n.testBit (k + 63) := by
  unfold hiW
  have e : ((n / 9223372036854775808 : Nat) : Int) / (2 : Int) ^ k = ((n / 9223372036854775808 / 2 ^ k : Nat) : Int) := by
    generalize n / 9223372036854775808 = m
    rw [Int.natCast_ediv, Int.natCast_pow]
    rfl
  have hb : n.testBit (k + 63) = (n / 9223372036854775808).testBit k := by
    rw [pow63, Nat.testBit_div_two_pow]
  rw [e, hb, Nat.testBit_eq_decide_div_mod_eq]
  generalize n / 9223372036854775808 / 2 ^ k = x
  rw [Int.tmod_eq_emod_of_nonneg (by omega), Bool.eq_iff_iff]
  simp only [beq_iff_eq, decide_eq_true_eq]
  omega

theorem below_setRow {a w : World} (h : Below a.heap.size a w) {g : Nat} (hg : a.heap.size ≤ g) (cs : Array Value) : Below a.heap.size a (w.setRow g cs) :=
  h.trans ⟨rfl, rfl, rfl, by simp, fun k hk => setRow_other w g k cs (by omega)⟩

theorem refOf_any (n : Nat) (hn : Sq n) (w : World) :
    Calls Tryd.prog 23 #[.int .u64 (loW n), .int .u64 (hiW n)] w fun e w' => e = .returned (.agg (arrP n 81)) ∧ Below w.heap.size w w' := by
  have hz := zero_arr
  have hbd := build_arr
  go_enter Tryd.func23, Tryd.ntmps23
  go_wp2_with (refine wpList_store_row rfl 43 _ _ rfl (w.heap.size + 1) zA rfl rfl 43 zA (heap_alloc2_new w _ _) info_arr rfl zA_one ?_)
  clear hz hbd
  go_loopw [6] (fun i wr => ∃ k : Nat, k ≤ 81 ∧ i = .int .i64 k ∧ Below w.heap.size w wr ∧ wr.heap[w.heap.size]? = some (.cells zA 43) ∧ wr.heap[w.heap.size + 1]? = some (.cells (arrP n k) 43)) (fun i _ => 81 - (intOf i).toNat)
  case atStart =>
    refine ⟨0, by omega, rfl, ?_, ?_, ?_⟩
    · exact below_setRow (ball (ball (bref w) _) _) (Nat.le_succ _) _
    · rw [setRow_other _ _ _ _ (by omega)]
      exact heap_alloc2_old w _ _
    · rw [setRow_heap _ _ _ _ _ _ (heap_alloc2_new w _ _), arrP_zero]
  case round =>
    obtain ⟨k, hk, rfl, hB, hR, hV⟩ := hrel
    have HB := Lib.hid hB
    have HR := Lib.hid hR
    have HV := Lib.hid hV
    by_cases hlt : k < 81
    · have cc : wr.cell? ⟨w.heap.size + 1, k, none⟩ = some (.bool (decide (k < k) && n.testBit k)) := by
        rw [cell_of_row _ _ _ _ _ _ hV, arrP_get _ _ _ hlt]
      have fz : wr.frozen? ⟨w.heap.size + 1, k, none⟩ = false := frozen_of_row _ _ _ _ _ hV
      clear hB hR hV
      by_cases h63 : k < 63
      · have hbit := bit_lo n k h63
        go_wp2
        go_roundw
        case rel =>
          refine ⟨k + 1, by omega, by go_num, HB.out.setCell (by simp) _, ?_, ?_⟩
          · rw [heap_setCell_other _ _ _ _ (by simp)]
            exact HR.out
          · rw [heap_setCell_same _ _ _ _ _ _ HV.out, arrP_step _ _ hlt]
        case measure => simp [intOf]; omega
      · obtain ⟨d, rfl⟩ : ∃ d, k = d + 63 := ⟨k - 63, by omega⟩
        have hbit := bit_hi n d
        clear h63
        have h64 : ¬ (d : Int) + 63 < 63 := by omega
        have h65 : (d : Int) + 63 < 81 := by omega
        go_wp2
        go_roundw
        case rel =>
          refine ⟨d + 63 + 1, by omega, by go_num, HB.out.setCell (by simp) _, ?_, ?_⟩
          · rw [heap_setCell_other _ _ _ _ (by simp)]
            exact HR.out
          · rw [heap_setCell_same _ _ _ _ _ _ HV.out, arrP_step _ _ hlt]
        case measure => simp [intOf]; omega
    · obtain rfl : k = 81 := by omega
      clear hB hR hV
      go_wp2_with (first | (refine wpList_load_row rfl 43 _ rfl (w.heap.size + 1) rfl 43 _ _ _ HV.out Tryd.underlying43 rfl (by rw [arrP_size]; exact info_arr) ?_) | (refine wpList_store_row rfl 43 _ _ rfl w.heap.size (arrP n 81) rfl rfl 43 zA HR.out info_arr rfl (arrP_one _ _) ?_))
      exact bodyPost_ret (results_cell_row Tryd.results23 _ _ w.heap.size 43 (arrP n 81) _ _ rfl (setRow_heap _ _ _ _ _ _ HR.out) Tryd.underlying43 rfl (by rw [arrP_size]; exact info_arr)) rfl
        ⟨rfl, below_setRow HB.out (Nat.le_refl _) _⟩
end Go.Proofs.YtilhicohfnaclaaDoor

/-
  The head 'holds' of the set statements is true; the statements' plain and real.
-/
namespace Go.Proofs.YtilhicohfnaclaaDoor
open Go.RowKit
set_option linter.unusedVariables false

def headN : Nat := 1180591620717411303432
theorem head_of : ofN [3, 70, 99] = headN := by decide +kernel

end Go.Proofs.YtilhicohfnaclaaDoor

/-
  The statements' real: of two raw words the set of squares that they hold; counts of sets.
-/
namespace Go.Proofs.YtilhicohfnaclaaDoor
open Go.RowKit
set_option linter.unusedVariables false

def realN (a b : Int) : Nat := a.toNat % 9223372036854775808 + 9223372036854775808 * (b.toNat % 262144)
theorem realN_sq (a b : Int) : Sq (realN a b) := by
  unfold Sq realN
  omega
theorem real_lo (a b : Int) (h0 : 0 ≤ a) (h1 : a ≤ 18446744073709551615) : bits .andNot .u64 a 9223372036854775808 = loW (realN a b) := by
  obtain ⟨x, rfl⟩ : ∃ x : Nat, a = x := ⟨a.toNat, by omega⟩
  have e : bits .andNot .u64 (x : Int) ((9223372036854775808 : Nat) : Int) = _ := u64_andNot_nat x 9223372036854775808 (by omega) (by omega)
  have e2 : bits .andNot .u64 (x : Int) 9223372036854775808 = bits .andNot .u64 (x : Int) ((9223372036854775808 : Nat) : Int) := rfl
  rw [e2, e]
  unfold loW realN
  rw [Int.toNat_natCast, Nat.add_mul_mod_self_left, Nat.mod_mod]
  congr 1
  rw [sub_bits _ _ (by omega) (by decide)]
  apply Nat.eq_of_testBit_eq
  intro i
  rw [Nat.testBit_xor, Nat.testBit_and, pow63, Nat.testBit_two_pow, Nat.testBit_mod_two_pow]
  by_cases hi : i = 63
  · subst hi
    simp
  · by_cases h2 : i < 63
    · have h3 : ¬ 63 = i := by omega
      simp [h2, h3]
    · have : x.testBit i = false := Nat.testBit_lt_two_pow (Nat.lt_of_lt_of_le (show x < 2 ^ 64 by omega) (Nat.pow_le_pow_right (by omega) (by omega)))
      rw [this]
      simp
theorem real_hi (a b : Int) (h0 : 0 ≤ b) (h1 : b ≤ 18446744073709551615) : bits .and .u64 b 262143 = hiW (realN a b) := by
  obtain ⟨x, rfl⟩ : ∃ x : Nat, b = x := ⟨b.toNat, by omega⟩
  have e : bits .and .u64 (x : Int) ((262143 : Nat) : Int) = _ := u64_and_nat x 262143 (by omega) (by omega)
  have e2 : bits .and .u64 (x : Int) 262143 = bits .and .u64 (x : Int) ((262143 : Nat) : Int) := rfl
  rw [e2, e]
  unfold hiW realN
  rw [Int.toNat_natCast]
  have e3 : (a.toNat % 9223372036854775808 + 9223372036854775808 * (x % 262144)) / 9223372036854775808 = x % 262144 := by omega
  rw [e3, show (262143 : Nat) = 2 ^ 18 - 1 from by decide, Nat.and_two_pow_sub_one_eq_mod]

theorem test_minus (n m i : Nat) : (minusN n m).testBit i = (n.testBit i && !m.testBit i) := by
  unfold minusN
  rw [Nat.testBit_xor, Nat.testBit_and]
  cases n.testBit i <;> cases m.testBit i <;> rfl
theorem test_full (i : Nat) : full.testBit i = decide (i < 81) := by
  have e : full = 2 ^ 81 - 1 := by decide +kernel
  rw [e, Nat.testBit_two_pow_sub_one]
theorem test_sq {n : Nat} (h : Sq n) (i : Nat) (hi : 81 ≤ i) : n.testBit i = false := by
  apply Nat.testBit_lt_two_pow
  unfold Sq at h
  rw [pow81] at h
  exact Nat.lt_of_lt_of_le h (Nat.pow_le_pow_right (by omega) hi)
theorem pop_two (n m : Nat) : ∀ k, pop k n + pop k m = pop k (n ||| m) + pop k (n &&& m)
  | 0 => rfl
  | k + 1 => by
    have ih := pop_two n m k
    rw [pop_succ, pop_succ, pop_succ, pop_succ, Nat.testBit_or, Nat.testBit_and]
    cases n.testBit k <;> cases m.testBit k <;> simp <;> omega
theorem pop_not (n : Nat) : ∀ k, k ≤ 81 → pop k n + pop k (minusN full n) = k
  | 0, _ => rfl
  | k + 1, h => by
    have ih := pop_not n k (by omega)
    rw [pop_succ, pop_succ, test_minus, test_full]
    have : decide (k < 81) = true := by simp; omega
    rw [this]
    cases n.testBit k <;> simp <;> omega
theorem pop_minus (n m : Nat) : ∀ k, pop k (minusN n m) + pop k (n &&& m) = pop k n
  | 0 => rfl
  | k + 1 => by
    have ih := pop_minus n m k
    rw [pop_succ, pop_succ, pop_succ, test_minus, Nat.testBit_and]
    cases n.testBit k <;> cases m.testBit k <;> simp <;> omega
theorem minus_not (n m : Nat) (hn : Sq n) : minusN n m = n &&& minusN full m := by
  apply Nat.eq_of_testBit_eq
  intro i
  rw [test_minus, Nat.testBit_and, test_minus, test_full]
  by_cases hi : i < 81
  · simp [hi]
  · rw [test_sq hn i (by omega)]
    rfl

theorem held_fst {wc W : World} {s : Nat} {x0 y0 x1 y1 : Value}
    (h : Below wc.heap.size wc W ∧ s < W.heap.size ∧ s + 1 < W.heap.size ∧ W.cell? ⟨s, 0, none⟩ = some x0 ∧ W.cell? ⟨s, 1, none⟩ = some y0 ∧ W.cell? ⟨s + 1, 0, none⟩ = some x1 ∧ W.cell? ⟨s + 1, 1, none⟩ = some y1) : Below wc.heap.size wc W := h.1
/-- Two sets' variables, held while a statement makes memory. -/
theorem held_step {wc W w' : World} {s : Nat} {x0 y0 x1 y1 : Value}
    (h : Below wc.heap.size wc W ∧ s < W.heap.size ∧ s + 1 < W.heap.size ∧ W.cell? ⟨s, 0, none⟩ = some x0 ∧ W.cell? ⟨s, 1, none⟩ = some y0 ∧ W.cell? ⟨s + 1, 0, none⟩ = some x1 ∧ W.cell? ⟨s + 1, 1, none⟩ = some y1)
    (hb : Below W.heap.size W w') :
    Below wc.heap.size wc w' ∧ s < w'.heap.size ∧ s + 1 < w'.heap.size ∧ w'.cell? ⟨s, 0, none⟩ = some x0 ∧ w'.cell? ⟨s, 1, none⟩ = some y0 ∧ w'.cell? ⟨s + 1, 0, none⟩ = some x1 ∧ w'.cell? ⟨s + 1, 1, none⟩ = some y1 := by
  obtain ⟨h0, h1, h2, h3, h4, h5, h6⟩ := h
  have hs := hb.size
  exact ⟨bthen h0 hb, by omega, by omega, (hb.cell (p := ⟨s, 0, none⟩) h1).trans h3, (hb.cell (p := ⟨s, 1, none⟩) h1).trans h4, (hb.cell (p := ⟨s + 1, 0, none⟩) h2).trans h5, (hb.cell (p := ⟨s + 1, 1, none⟩) h2).trans h6⟩
end Go.Proofs.YtilhicohfnaclaaDoor

/-
  The list of a set's squares: its parts of the two words, its first and last, and the set of it: plain facts on numbers.
-/
namespace Go.Proofs.YtilhicohfnaclaaDoor

def sqI (n : Nat) : List Int := (bitsL n 81).map (fun (i : Nat) => (i : Int))
theorem sqI_len (n : Nat) : (sqI n).length = pop 81 n := by rw [sqI, List.length_map, bitsL_len]
theorem sqI_le (n : Nat) : (sqI n).length ≤ 81 := by rw [sqI_len]; exact pop_le 81 n

theorem bitsL_split (n : Nat) (h : Sq n) : bitsL (n % 9223372036854775808) 64 ++ (bitsL (n / 9223372036854775808) 64).map (fun i => i + 63) = bitsL n 81 := by
  unfold bitsL
  have e1 : (List.range 64).filter (fun i => (n % 9223372036854775808).testBit i) = (List.range 63).filter (fun i => n.testBit i) := by
    rw [List.range_succ, List.filter_append]
    have t : (n % 9223372036854775808).testBit 63 = false := by rw [pow63, Nat.testBit_mod_two_pow]; simp
    simp only [List.filter_cons, t, List.filter_nil, Bool.false_eq_true, if_false, List.append_nil]
    apply List.filter_congr
    intro i hi
    have : i < 63 := by simpa using hi
    rw [pow63, Nat.testBit_mod_two_pow]
    simp [this]
  have e2 : (List.range 64).filter (fun i => (n / 9223372036854775808).testBit i) = (List.range 18).filter (fun i => (n / 9223372036854775808).testBit i) := by
    have : (64 : Nat) = 18 + 46 := rfl
    rw [this, List.range_add, List.filter_append]
    have f : ((List.range 46).map (fun x => 18 + x)).filter (fun i => (n / 9223372036854775808).testBit i) = [] := by
      rw [List.filter_eq_nil_iff]
      intro i hi
      obtain ⟨d, _, rfl⟩ := List.mem_map.1 hi
      have : (n / 9223372036854775808).testBit (18 + d) = false := Nat.testBit_lt_two_pow (Nat.lt_of_lt_of_le h.hi (by rw [show (262144 : Nat) = 2 ^ 18 by decide]; exact Nat.pow_le_pow_right (by omega) (by omega)))
      rw [this]
      simp
    rw [f, List.append_nil]
  rw [e1, e2, show (81 : Nat) = 63 + 18 from rfl, List.range_add, List.filter_append]
  congr 1
  rw [List.filter_map]
  have c : ((fun i => n.testBit i) ∘ fun x => 63 + x) = (fun i => (n / 9223372036854775808).testBit i) := by
    funext i
    simp only [Function.comp_apply]
    rw [pow63, Nat.testBit_div_two_pow, Nat.add_comm]
  rw [c]
  apply List.map_congr_left
  intro i _
  omega

theorem one_test (q : Int) (i : Nat) : (oneN q).testBit i = decide (q = (i : Int) ∧ i < 81) := by
  unfold oneN
  by_cases h : 0 ≤ q ∧ q < 81
  · rw [if_pos h, Nat.testBit_two_pow]
    by_cases e : q.toNat = i
    · have : q = (i : Int) ∧ i < 81 := by omega
      simp [this]
    · have : ¬ (q = (i : Int) ∧ i < 81) := by omega
      simp [e, this]
  · rw [if_neg h]
    have : ¬ (q = (i : Int) ∧ i < 81) := by omega
    simp [this]
theorem foldl_test (i : Nat) : ∀ (l : List Int) (s : Nat), (l.foldl (fun n q => n ||| oneN q) s).testBit i = (s.testBit i || decide (((i : Int) ∈ l) ∧ i < 81))
  | [], s => by simp
  | q :: l, s => by
    rw [List.foldl_cons, foldl_test i l, Nat.testBit_or, one_test, Bool.eq_iff_iff]
    simp only [Bool.or_eq_true, decide_eq_true_eq, List.mem_cons]
    constructor
    · rintro ((h | ⟨h1, h2⟩) | ⟨h1, h2⟩)
      · exact Or.inl h
      · exact Or.inr ⟨Or.inl h1.symm, h2⟩
      · exact Or.inr ⟨Or.inr h1, h2⟩
    · rintro (h | ⟨h1 | h1, h2⟩)
      · exact Or.inl (Or.inl h)
      · exact Or.inl (Or.inr ⟨h1.symm, h2⟩)
      · exact Or.inr ⟨h1, h2⟩
theorem ofN_test (l : List Int) (i : Nat) : (ofN l).testBit i = decide (((i : Int) ∈ l) ∧ i < 81) := by
  unfold ofN
  rw [foldl_test]
  simp
theorem mem_sqI (n i : Nat) : ((i : Int) ∈ sqI n) ↔ (i < 81 ∧ n.testBit i = true) := by
  unfold sqI bitsL
  simp only [List.mem_map, List.mem_filter, List.mem_range]
  constructor
  · rintro ⟨j, ⟨h1, h2⟩, h3⟩
    obtain rfl : j = i := by omega
    exact ⟨h1, h2⟩
  · rintro ⟨h1, h2⟩
    exact ⟨i, ⟨h1, h2⟩, rfl⟩
theorem ofN_sqI (n : Nat) (h : Sq n) : ofN (sqI n) = n := by
  apply Nat.eq_of_testBit_eq
  intro i
  rw [ofN_test, Bool.eq_iff_iff]
  simp only [decide_eq_true_eq, mem_sqI]
  constructor
  · rintro ⟨⟨_, h2⟩, _⟩
    exact h2
  · intro ht
    have hi : i < 81 := by
      apply Classical.byContradiction
      intro hc
      rw [test_sq h i (by omega)] at ht
      exact absurd ht (by simp)
    exact ⟨⟨hi, ht⟩, hi⟩

theorem sqI_nil (n : Nat) (h : Sq n) : sqI n = [] ↔ n = 0 := by
  constructor
  · intro e
    have := ofN_sqI n h
    rw [e] at this
    exact this.symm
  · rintro rfl
    unfold sqI
    rw [bitsL_zero]
    rfl

theorem first_sq (n : Nat) (h : Sq n) (h0 : n ≠ 0) : (sqI n).head? = some (firstF n) := by
  unfold sqI firstF
  rw [← bitsL_split n h]
  have hh := h.hi
  have hl := lo_lt n
  by_cases c : n % 9223372036854775808 = 0
  · have d : n / 9223372036854775808 ≠ 0 := by omega
    rw [c, bitsL_zero, List.nil_append, (bitsL_step (n / 9223372036854775808) 64 (by omega) d).1]
    rw [if_neg (by simp), if_pos d]
    simp
    omega
  · rw [(bitsL_step (n % 9223372036854775808) 64 (by omega) c).1, if_pos c]
    simp

theorem top_bit : ∀ (f x : Nat), f ≤ 64 → x < 2 ^ f → x ≠ 0 → 1 ≤ Lib.bitLen x ∧ x.testBit (Lib.bitLen x - 1) = true ∧ ∀ i, Lib.bitLen x ≤ i → x.testBit i = false
  | 0, x, _, hx, h0 => by simp at hx; omega
  | f + 1, x, hf, hx, h0 => by
    have hx64 : x < 2 ^ 64 := Nat.lt_of_lt_of_le hx (Nat.pow_le_pow_right (by omega) hf)
    have e := Lib.bitLen_half x h0 hx64
    by_cases c : x / 2 = 0
    · have hx1 : x = 1 := by omega
      subst hx1
      have : Lib.bitLen 1 = 1 := by decide
      rw [this]
      refine ⟨by omega, rfl, fun i hi => ?_⟩
      exact Nat.testBit_lt_two_pow (Nat.lt_of_lt_of_le (by omega) (Nat.pow_le_pow_right (show 0 < 2 by omega) hi))
    · have ih := top_bit f (x / 2) (by omega) (by rw [Nat.pow_succ] at hx; omega) c
      obtain ⟨i1, i2, i3⟩ := ih
      rw [e]
      refine ⟨by omega, ?_, fun i hi => ?_⟩
      · have : 1 + Lib.bitLen (x / 2) - 1 = (Lib.bitLen (x / 2) - 1) + 1 := by omega
        rw [this, Nat.testBit_succ]
        exact i2
      · obtain ⟨d, rfl⟩ : ∃ d, i = d + 1 := ⟨i - 1, by omega⟩
        rw [Nat.testBit_succ]
        exact i3 d (by omega)

theorem last_top (n : Nat) (h : Sq n) (h0 : n ≠ 0) : ∃ p : Nat, lastF n = p ∧ p < 81 ∧ n.testBit p = true ∧ ∀ i, p < i → n.testBit i = false := by
  unfold lastF
  have hh := h.hi
  have hl := lo_lt n
  by_cases d : n / 9223372036854775808 = 0
  · have c : n % 9223372036854775808 ≠ 0 := by omega
    have hn : n % 9223372036854775808 = n := by omega
    rw [if_neg (by simpa using d), hn]
    obtain ⟨t1, t2, t3⟩ := top_bit 64 n (by omega) (by omega) h0
    have t4 := bitLen_le64 n
    exact ⟨Lib.bitLen n - 1, by omega, by omega, t2, fun i hi => t3 i (by omega)⟩
  · rw [if_pos d]
    obtain ⟨t1, t2, t3⟩ := top_bit 18 (n / 9223372036854775808) (by omega) (by omega) d
    have t5 : Lib.bitLen (n / 9223372036854775808) ≤ 18 := by
      apply Classical.byContradiction
      intro hc
      have := Nat.testBit_lt_two_pow (x := n / 9223372036854775808) (i := Lib.bitLen (n / 9223372036854775808) - 1) (Nat.lt_of_lt_of_le hh (by rw [show (262144 : Nat) = 2 ^ 18 by decide]; exact Nat.pow_le_pow_right (by omega) (by omega)))
      rw [this] at t2
      exact absurd t2 (by simp)
    have hb : ∀ j, n.testBit (j + 63) = (n / 9223372036854775808).testBit j := by
      intro j
      rw [pow63, Nat.testBit_div_two_pow]
    refine ⟨Lib.bitLen (n / 9223372036854775808) - 1 + 63, by omega, by omega, ?_, fun i hi => ?_⟩
    · rw [hb]; exact t2
    · obtain ⟨j, rfl⟩ : ∃ j, i = j + 63 := ⟨i - 63, by omega⟩
      rw [hb]
      exact t3 j (by omega)
theorem last_sq (n : Nat) (h : Sq n) (h0 : n ≠ 0) : ∃ l, sqI n = l ++ [lastF n] := by
  obtain ⟨p, hp, hp81, ht, ha⟩ := last_top n h h0
  rw [hp]
  have hs : List.range 81 = List.range p ++ p :: (List.range (81 - p - 1)).map (fun x => p + 1 + x) := by
    have e : (81 : Nat) = p + 1 + (81 - p - 1) := by omega
    conv => lhs; rw [e, List.range_add, List.range_succ]
    simp
  refine ⟨((List.range p).filter (fun i => n.testBit i)).map (fun (i : Nat) => (i : Int)), ?_⟩
  unfold sqI bitsL
  rw [hs, List.filter_append, List.filter_cons, ht]
  have f : ((List.range (81 - p - 1)).map (fun x => p + 1 + x)).filter (fun i => n.testBit i) = [] := by
    rw [List.filter_eq_nil_iff]
    intro i hi
    obtain ⟨d, _, rfl⟩ := List.mem_map.1 hi
    rw [ha _ (by omega)]
    simp
  rw [f]
  simp
end Go.Proofs.YtilhicohfnaclaaDoor

/-
  Lists of squares: what the set package's Squares, the reference's List, and the statements' plain and same return.
-/
namespace Go.Proofs.YtilhicohfnaclaaDoor
open Go.RowKit
set_option linter.unusedVariables false

theorem infoInt : (Tryd.prog.info? 3).map (fun i => (i.zero, i.size, i.bytes)) = some (some (.int .i64 0), 1, 8) := by kernel_rfl

/-- A list of numbers in the call's own memory from block B on. -/
def Own (w : World) (B : Nat) (v : Value) (l : List Int) : Prop := w.ownsRow B 3 1 v l.length (l.map (Value.int .i64))

theorem lo_and (x : Nat) (h : x < 18446744073709551616) (h0 : x ≠ 0) : bits .and .u64 (x : Int) (IntKind.u64.wrap ((x : Int) - 1)) = ((x &&& (x - 1) : Nat) : Int) := by
  have e : (x : Int) - 1 = ((x - 1 : Nat) : Int) := by omega
  rw [e, wrap_nat _ (by omega), u64_and_nat _ _ h (by omega)]

theorem appendBits_any (x f B : Nat) (hx : x < 18446744073709551616) (hf : f ≤ 63) (v : Value) (l : List Int) (hl : l.length ≤ 100) (w : World) (hB : B ≤ w.heap.size) (ho : Own w B v l) (hT : Tab w) (hB1 : 1 < B) :
    Calls Tryd.prog 79 #[v, .int .u64 x, .int .i64 f] w fun e w' => ∃ v', e = .returned v' ∧ Own w' B v' (l ++ (bitsL x 64).map (fun i => ((i + f : Nat) : Int))) ∧ Below B w w' := by
  go_enter Tryd.func79, Tryd.ntmps79
  go_wp2
  obtain ⟨i0, hi, hz0, hz1, hz2⟩ := info_parts infoInt
  have HX := Lib.hid hx
  have HT := Lib.hid hT
  have HO := Lib.hid ho
  clear hx hT ho
  go_loopw [0, 1] (fun v i wr => ∃ (y : Nat) (m : List Int), i = .int .u64 y ∧ Hid (y < 18446744073709551616) ∧ m.length + (bitsL y 64).length ≤ 64 ∧ Hid (m ++ (bitsL y 64).map (fun i => ((i + f : Nat) : Int)) = (bitsL x 64).map (fun i => ((i + f : Nat) : Int))) ∧ Hid (Own wr B v (l ++ m)) ∧ Hid (Below B w wr) ∧ B ≤ wr.heap.size) (fun _ i _ => (intOf i).toNat)
  case atStart => exact ⟨x, [], rfl, HX.out, by simpa using bitsL_le x 64, by simp [Hid], by simpa [Hid] using HO.out, Below.refl _ _, hB⟩
  case round =>
    obtain ⟨y, m, rfl, hy, hlen, hm, hO, hW, hs⟩ := hrel
    clear HX HO
    by_cases hy0 : y = 0
    · subst hy0
      rw [bitsL_zero, List.map_nil, List.append_nil] at hm
      clear hi hz0 hz1 hz2 hlen
      go_wp2
      go_ret
      refine ⟨_, rfl, ?_, hW.out⟩
      rw [← hm.out]
      exact hO.out
    · have hst := bitsL_step y 64 (by have := hy.out; omega) hy0
      obtain ⟨e1, e2, e3⟩ := hst
      have hTr : Tab wr := by
        intro j hj
        rw [← HT.out j hj]
        exact hW.out.cell (p := ⟨1, j, none⟩) (by show 1 < B; omega)
      have Z := Lib.hid (tz_any y hy.out hy0 wr hTr)
      have hcl := lo_and y hy.out hy0
      have d1 : ((y : Int) == 0) = false := by simpa using hy0
      have d2 : ((y : Int) != 0) = true := by simpa using hy0
      have E1 := Lib.hid e1
      have hy2 : Hid (y &&& (y - 1) < 18446744073709551616) := by have := hy.out; unfold Hid; omega
      generalize hk : Lib.ctz 64 y = k at Z E1 e2
      generalize hz : y &&& (y - 1) = z at hcl E1 e3 hy2
      have E3 := Lib.hid e3
      have hml : m.length ≤ 64 := by omega
      rw [E1.out] at hlen hm
      simp only [List.length_cons] at hlen
      clear hk hz e1 e3 hy hTr hy0
      go_wp2_with (first
        | (go_at_call 112; refine Z.out.mono ?_; rintro e w2 ⟨rfl, rfl⟩)
        | (at_builtin; refine wpList_append_own _ rfl _ _ 40 rfl B 3 i0 (.int .i64 0) 1 8 Tryd.underlying40 hi hz0 hz1 hz2 rfl (by decide) _ _ _ rfl (hO.out.alloc _) ⟨wr.heap.size, 0, none⟩ 1 1 [.int .i64 ((f : Int) + (k : Int))] rfl rfl ?c1 ?c2 ?c3 ?c4 ?c5 ?_))
      case c1 => exact (cell_one_new _ _ _)
      case c2 => simp [Value.oneCell']
      case c3 => simp [maxLen]; omega
      case c4 => simp; omega
      case c5 => simp; omega
      intro v' w2 hown hgrow _
      have hB2 : Below B w w2 := (hW.out.alloc hs _).grown hgrow (by simp; omega) (fun b hb => (hO.out.lt b hb).1)
      have ho2 : Own w2 B v' (l ++ (m ++ [(f : Int) + (k : Int)])) := by
        unfold Own
        have e : (l ++ (m ++ [(f : Int) + (k : Int)])).length = l.length + m.length + 1 := by simp; omega
        rw [e, List.map_append, List.map_append]
        exact hown
      have hs2 : B ≤ w2.heap.size := by have := hgrow.size; simp at this; omega
      have hm2 : Hid ((m ++ [(f : Int) + (k : Int)]) ++ (bitsL z 64).map (fun i => ((i + f : Nat) : Int)) = (bitsL x 64).map (fun i => ((i + f : Nat) : Int))) := by
        unfold Hid
        have e : ((k + f : Nat) : Int) = (f : Int) + (k : Int) := by omega
        rw [← hm.out, List.map_cons, List.append_assoc, e]
        rfl
      have HO2 := Lib.hid ho2
      have HB2 := Lib.hid hB2
      clear ho2 hB2 hown hgrow hO hW hm
      go_wp2
      go_roundw
      case rel => exact ⟨z, m ++ [(f : Int) + (k : Int)], rfl, hy2, by simp; omega, hm2, HO2.out, HB2.out, hs2⟩
      case measure =>
        have := E3.out
        simp [intOf]
        omega
end Go.Proofs.YtilhicohfnaclaaDoor

/-
  Lists of squares: the set package's Squares, the reference's List, and the statements' same.
-/
namespace Go.Proofs.YtilhicohfnaclaaDoor
set_option maxRecDepth 100000
open Go.RowKit
set_option linter.unusedVariables false

theorem Own.parts {w : World} {B : Nat} {v : Value} {l : List Int} (h : Own w B v l) :
    (v = .slice none 0 0 ∧ l = []) ∨ ∃ g cap, v = .slice (some ⟨g, 0, none⟩) l.length cap ∧ B ≤ g ∧ g < w.heap.size ∧ ∀ (j : Nat) (hj : j < l.length), w.cell? ⟨g, 0 + j, none⟩ = some (.int .i64 l[j]) := by
  rcases h.2 with ⟨h1, h2⟩ | ⟨g, cap, cur, hv, hb, hg, -⟩
  · exact .inl ⟨h1, List.length_eq_zero_iff.1 h2⟩
  · have ho : v.ownBlock = some g := by rw [hv]; rfl
    refine .inr ⟨g, cap, hv, hb, (h.lt g ho).2, fun j hj => ?_⟩
    have := h.cells ho j (.int .i64 l[j]) (by simp [hj])
    rw [Nat.zero_add]
    have e : (⟨g, 0, none⟩ : Addr).add j = ⟨g, j, none⟩ := by unfold Addr.add; split <;> simp_all
    rw [e] at this
    exact this
theorem Own.mono {w : World} {B C : Nat} {v : Value} {l : List Int} (h : Own w B v l) (hc : C ≤ B) : Own w C v l :=
  ⟨h.1, h.2.imp id (fun ⟨g, cap, cur, hv, hb, r⟩ => ⟨g, cap, cur, hv, Nat.le_trans hc hb, r⟩)⟩
theorem Own.grow {w w' : World} {B : Nat} {v : Value} {l : List Int} (h : Own w B v l) (hb : Below w.heap.size w w') : Own w' B v l := by
  refine ⟨h.1, ?_⟩
  rcases h.2 with h1 | ⟨g, cap, cur, hv, hB, hg, r⟩
  · exact .inl h1
  · have hlt : g < w.heap.size := (Array.getElem?_eq_some_iff.1 hg).1
    exact .inr ⟨g, cap, cur, hv, hB, (hb.block g hlt).trans hg, r⟩

theorem squares_any (n : Nat) (hn : Sq n) (w : World) (hT : Tab w) (hw : 1 < w.heap.size) :
    Calls Tryd.prog 42 #[.agg #[.int .u64 (loW n), .int .u64 (hiW n)]] w fun e w' => ∃ v, e = .returned v ∧ Own w' w.heap.size v (sqI n) ∧ Below w.heap.size w w' := by
  obtain ⟨i0, hi, hz0, hz1, hz2⟩ := info_parts infoInt
  have C := Lib.hid (fun W => count_any n hn W)
  have hp := pop_le 81 n
  have hsp := bitsL_split n hn
  have A0 := Lib.hid (fun B v (W : World) h1 h2 h3 h4 => appendBits_any (n % 9223372036854775808) 0 B (by omega) (by omega) v [] (by simp) W h1 h2 h3 h4)
  have A1 := Lib.hid (fun B v (W : World) h1 h2 h3 h4 => appendBits_any (n / 9223372036854775808) 63 B (by have := hn.hi; omega) (by omega) v ([] ++ (bitsL (n % 9223372036854775808) 64).map (fun i => ((i + 0 : Nat) : Int))) (by simp; have := bitsL_le (n % 9223372036854775808) 64; omega) W h1 h2 h3 h4)
  have hs : sqI n = ([] ++ (bitsL (n % 9223372036854775808) 64).map (fun i => ((i + 0 : Nat) : Int))) ++ (bitsL (n / 9223372036854775808) 64).map (fun i => ((i + 63 : Nat) : Int)) := by
    unfold sqI
    rw [← hsp, List.map_append, List.map_map]
    rfl
  have HS := Lib.hid hs
  have HT := Lib.hid hT
  clear hs hT hsp
  have ex : ((n % 9223372036854775808 : Nat) : Int) = loW n := rfl
  have ey : ((n / 9223372036854775808 : Nat) : Int) = hiW n := rfl
  rw [ex] at A0
  rw [ey] at A1
  generalize ([] ++ (bitsL (n % 9223372036854775808) 64).map (fun i => ((i + 0 : Nat) : Int))) = l1 at A0 A1 HS
  generalize l1 ++ (bitsL (n / 9223372036854775808) 64).map (fun i => ((i + 63 : Nat) : Int)) = l2 at A1 HS
  clear ex ey hn
  generalize loW n = x at A0 C ⊢
  generalize hiW n = y at A1 C ⊢
  generalize sqI n = L at HS ⊢
  generalize pop 81 n = p at C hp
  go_enter Tryd.func42, Tryd.ntmps42
  have b2 : i0.bytes * p ≤ 281474976710656 := by rw [hz2]; omega
  have b3 : p ≤ maxLen := by simp [maxLen]; omega
  go_wp2_with (go_at_call 37; refine (C.out _).mono ?_; rintro e w1 ⟨rfl, hb1⟩; have V1 : Var w1 w.heap.size x y := (Var.grow ⟨by simp, by go_simp, by go_simp, by go_simp, by go_simp⟩ hb1))
  obtain ⟨w2, hrun, ho2, hg2⟩ := run_make_own (P := Tryd.prog) w1 w1.heap.size 40 3 i0 (.int .i64 0) 1 Tryd.underlying40 hi hz0 hz1 .i64 .i64 p b2 b3 (Nat.le_refl _)
  have hb2 : Below w1.heap.size w1 w2 := (bref w1).grown hg2 (Nat.le_refl _) (fun k h => nomatch h)
  have hA1 : Below w.heap.size w w1 := bthen (ball (bref w) _) hb1
  have V2 : Var w2 w.heap.size x y := V1.grow hb2
  have s1 := V1.lt
  have s2 := hb2.size
  have T2 : Hid (Tab w2) := HT.out.grow (bthen hA1 hb2)
  have D0 := Lib.hid (A0.out w1.heap.size _ w2 s2 ho2 T2.out (by omega))
  have HB2 := Lib.hid (bthen hA1 hb2)
  rw [hrun]
  have q0 := V2.lo
  have q1 := V2.hi
  clear hb1 hb2 hA1 V1 V2 ho2 hg2 hz0 hz1 hz2 hi b2 b3 hrun A0 C
  go_wp2_with (first
    | (go_at_call_of 79 (Value.int .u64 x); refine D0.out.mono ?_; rintro e w3 ⟨v3, rfl, ho3, hb3⟩; have q3 := (hb3.cell (p := ⟨w.heap.size, 1, none⟩) s1).trans q1; have s3 : w1.heap.size ≤ w3.heap.size := (by have := hb3.size; omega); have B3 : Below w.heap.size w w3 := (HB2.out.trans (hb3.mono (Nat.le_of_lt s1))); have T3 := HT.out.grow B3)
    | (go_at_call_of 79 (Value.int .u64 y); refine (A1.out w1.heap.size v3 w3 s3 ho3 T3 (by omega)).mono ?_; rintro e w4 ⟨v4, rfl, ho4, hb4⟩))
  go_ret
  refine ⟨v4, rfl, ?_, B3.trans (hb4.mono (Nat.le_of_lt s1))⟩
  rw [HS.out]
  exact ho4.mono (Nat.le_of_lt s1)

def upL (n k : Nat) : List Int := ((List.range k).filter (fun i => n.testBit i)).map (fun (i : Nat) => (i : Int))
theorem upL_len (n k : Nat) : (upL n k).length ≤ k := by
  unfold upL
  rw [List.length_map]
  exact Nat.le_trans (List.length_filter_le _ _) (by simp)
theorem upL_step (n k : Nat) : upL n (k + 1) = if n.testBit k then upL n k ++ [(k : Int)] else upL n k := by
  unfold upL
  rw [List.range_succ, List.filter_append, List.map_append]
  by_cases h : n.testBit k = true
  · simp [h]
  · simp [h]
theorem upL_all (n : Nat) : upL n 81 = sqI n := rfl

end Go.Proofs.YtilhicohfnaclaaDoor
