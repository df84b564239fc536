/-
  The sums of squares that the law BoardHolds tells: what is taken, what a side has, whether a piece stands.
-/
import Derived.Test.YtbopbekehccdmaaDoorBHold0
namespace Go.Proofs.YtbopbekehccdmaaDoor.boardHolds
open Go.RowKit
set_option linter.unusedVariables false
set_option linter.unusedSimpArgs false
set_option maxRecDepth 100000

def nzB (y : Int) : Bool := !decide (y = 0)
theorem where_lt (z : List Int) (f : Int → Bool) : ∀ k, whereN z f k < 2 ^ k
  | 0 => by simp [whereN]
  | k + 1 => by
    unfold whereN
    refine Nat.or_lt_two_pow (Nat.lt_of_lt_of_le (where_lt z f k) (Nat.pow_le_pow_right (by omega) (by omega))) ?_
    split
    · exact Nat.pow_lt_pow_right (by omega) (by omega)
    · exact Nat.two_pow_pos _
theorem where_sqk (z : List Int) (f : Int → Bool) (k : Nat) (hk : k ≤ 81) : Sq (whereN z f k) := by
  have := where_lt z f k
  unfold Sq
  exact Nat.lt_of_lt_of_le this (Nat.le_trans (Nat.pow_le_pow_right (by omega) hk) (by decide))
theorem where_one (z : List Int) (f : Int → Bool) (k : Nat) (hk : k < 81) (h : f (at8 z k) = true) : whereN z f (k + 1) = whereN z f k ||| oneN k := by
  rw [whereN, if_pos h]
  unfold oneN
  rw [if_pos (by omega), Int.toNat_natCast]
theorem where_zero (z : List Int) (f : Int → Bool) (k : Nat) (h : f (at8 z k) = false) : whereN z f (k + 1) = whereN z f k := by
  rw [whereN, if_neg (by rw [h]; decide), Nat.or_zero]
theorem taken_where (zz : List Int) (hc : Clean zz) : whereN zz nzB 81 = takenN zz := by
  apply Nat.eq_of_testBit_eq
  intro i
  unfold takenN sideN
  rw [Nat.testBit_or, where_test, where_test, where_test]
  by_cases hi : i < 81
  · have hk := kind_side (at8 zz i)
    have hcl := hc i hi
    rw [decide_eq_true hi]
    unfold nzB sideB
    rcases hk with ⟨h1, h2⟩ | ⟨h1, h2, h3, h4⟩ | ⟨h1, h2, h3, h4⟩
    · rw [hcl h1]; decide
    · rw [h4, decide_eq_false (show ¬ at8 zz i = 0 by omega)]; decide
    · rw [h4, decide_eq_false (show ¬ at8 zz i = 0 by omega)]; decide
  · rw [decide_eq_false hi]; rfl
/-- The squares of a side's pieces of the kinds below k. -/
def allN (zz : List Int) (s : Int) : Nat → Nat
  | 0 => 0
  | k + 1 => allN zz s k ||| (if k = 0 then 0 else pieceN zz (ofF s k))
theorem allN_sq (zz : List Int) (s : Int) : ∀ k, Sq (allN zz s k)
  | 0 => by unfold allN Sq; decide
  | k + 1 => by
    unfold allN
    refine (allN_sq zz s k).or ?_
    split
    · unfold Sq; decide
    · exact pieceN_sq _ _
theorem allN_step (zz : List Int) (s : Int) (k : Nat) (hk : 1 ≤ k) : allN zz s (k + 1) = allN zz s k ||| pieceN zz (ofF s k) := by
  rw [allN, if_neg (by omega)]
theorem allN_test (zz : List Int) (s : Int) (i : Nat) (hi : i < 81) : ∀ k, (allN zz s k).testBit i = (List.range k).any fun j => !decide (j = 0) && pieceB (ofF s j) (at8 zz i)
  | 0 => by simp [allN]
  | k + 1 => by
    rw [allN, Nat.testBit_or, allN_test zz s i hi k, List.range_succ, List.any_append]
    congr 1
    by_cases h : k = 0
    · rw [if_pos h, h]; simp
    · rw [if_neg h]
      unfold pieceN
      rw [where_test, decide_eq_true hi]
      simp [h]
theorem all_side : ∀ n : Nat, n < 256 → ∀ s : Nat, s < 2 → ((List.range 16).any fun j => !decide (j = 0) && pieceB (ofF s j) ((n : Int) - 128)) = sideB s ((n : Int) - 128) := by decide +kernel
theorem allN_all (zz : List Int) (h8 : I8s zz) (s : Nat) (hs : s < 2) : allN zz s 16 = sideN zz s := by
  apply Nat.eq_of_testBit_eq
  intro i
  by_cases hi : i < 81
  · rw [allN_test zz s i hi]
    unfold sideN
    rw [where_test, decide_eq_true hi, Bool.true_and]
    have h := h8.at i
    have := all_side (at8 zz i + 128).toNat (by omega) s hs
    rwa [show (((at8 zz i + 128).toNat : Nat) : Int) - 128 = at8 zz i by omega] at this
  · rw [Nat.testBit_lt_two_pow (Nat.lt_of_lt_of_le (allN_sq zz s 16) (Nat.le_trans (by decide : _ ≤ 2 ^ 81) (Nat.pow_le_pow_right (by omega) (by omega)))), Nat.testBit_lt_two_pow (Nat.lt_of_lt_of_le (sideN_sq zz s) (Nat.le_trans (by decide : _ ≤ 2 ^ 81) (Nat.pow_le_pow_right (by omega) (by omega))))]
def hasC (n s k : Nat) : Bool := decide (k = 0) || ((decide (kindF ((n : Int) - 128) = 0) && !decide ((n : Int) - 128 = 0)) || (pieceB (ofF s k) ((n : Int) - 128) == (!decide ((n : Int) - 128 = 0) && decide ((n : Int) - 128 = 16 * s + k))))
theorem has_fin : ∀ n : Nat, n < 256 → ∀ s : Nat, s < 2 → ∀ k : Nat, k < 16 → hasC n s k = true := by decide +kernel
theorem has_bit (zz : List Int) (h8 : I8s zz) (hc : Clean zz) (s k j : Nat) (hs : s < 2) (hk : k < 16) (hk1 : 1 ≤ k) (hj : j < 81) : (!decide (pieceN zz (ofF s k) &&& oneN j = 0)) = (!decide (at8 zz j = 0) && decide (at8 zz j = 16 * s + k)) := by
  have h1 : (pieceN zz (ofF s k)).testBit j = pieceB (ofF s k) (at8 zz j) := by
    unfold pieceN
    rw [where_test, decide_eq_true hj, Bool.true_and]
  have h2 : (!decide (pieceN zz (ofF s k) &&& oneN j = 0)) = (pieceN zz (ofF s k)).testBit j := by
    have e : oneN j = 2 ^ j := by
      unfold oneN
      rw [if_pos (by omega), Int.toNat_natCast]
    rw [e]
    generalize pieceN zz (ofF s k) = P
    cases hb : P.testBit j
    · have h0 : P &&& 2 ^ j = 0 := by
        apply Nat.eq_of_testBit_eq
        intro i
        rw [Nat.testBit_and, Nat.testBit_two_pow, Nat.zero_testBit]
        by_cases c : j = i
        · subst c; rw [hb]; rfl
        · rw [decide_eq_false c, Bool.and_false]
      rw [decide_eq_true h0]; rfl
    · have h0 : ¬ P &&& 2 ^ j = 0 := by
        intro h0
        have := congrArg (fun n => n.testBit j) h0
        simp [Nat.testBit_and, Nat.testBit_two_pow, hb] at this
      rw [decide_eq_false h0]; rfl
  rw [h2, h1]
  have h := h8.at j
  have := has_fin (at8 zz j + 128).toNat (by omega) s hs k hk
  unfold hasC at this
  rw [show (((at8 zz j + 128).toNat : Nat) : Int) - 128 = at8 zz j by omega, decide_eq_false (show ¬ k = 0 by omega), Bool.false_or, Bool.or_eq_true] at this
  rcases this with h | h
  · rw [Bool.and_eq_true, decide_eq_true_iff] at h
    have := hc j hj h.1
    simp [this] at h
  · exact eq_of_beq h
theorem hands_rangeB {W : World} {b : Nat} {zz : List Int} (h : Brd W b zz) (hl : zz.length = 98) : W.rangeAt b 81 (posC (hz zz)) := fun j v hj => by
  have hj16 : j < 16 := by
    have := (List.getElem?_eq_some_iff.1 hj).1
    rwa [posC_len, hz_len zz hl] at this
  rw [posC_get (hz zz) j (by rw [hz_len zz hl]; exact hj16), hz_at zz j hj16] at hj
  rw [← hj]
  exact BrdAt.cell h hl (81 + j) (by omega)
theorem kept_hands {z zz : List Int} (h : Kept z zz) (hz' : z.length = 98) : hz zz = hz z := ext16 _ _ (hz_len zz h.len) (hz_len z hz') fun i hi => by
  rw [hz_at _ i hi, hz_at _ i hi, h.rest (81 + i) (by omega) (by omega)]
theorem var_new (W : World) : Var (W.alloc (.cells #[.int .u64 0, .int .u64 0] 40)) W.heap.size 0 0 := ⟨by simp, by go_simp, by go_simp, by go_simp, by go_simp⟩
end Go.Proofs.YtbopbekehccdmaaDoor.boardHolds
