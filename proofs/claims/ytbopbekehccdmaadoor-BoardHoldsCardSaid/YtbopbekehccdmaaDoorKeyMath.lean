/-
  Keys of positions, as plain functions on numbers (no program is named here).
-/
import Derived.Test.YtbopbekehccdmaaDoorFns
import Derived.Laws.BitsAllLaws
namespace Go.Proofs.YtbopbekehccdmaaDoor
set_option linter.unusedVariables false
set_option linter.unusedSimpArgs false

def mulM (x c : Nat) : Nat := x * c % 18446744073709551616
def shX (k x : Nat) : Nat := x ^^^ (x / 2 ^ k)
def mixN (n : Nat) : Nat := shX 31 (mulM (shX 27 (mulM (shX 30 (mulM n 11400714819323198485)) 13787848793156543929)) 10723151780598845931)
/-- A number of digits, as the program reckons it. -/
def numI (l : List Int) : Int := l.foldl (fun n d => IntKind.u64.wrap (IntKind.u64.wrap (n * 128) + IntKind.u64.wrap d)) 0

theorem mulM_lt (x c : Nat) : mulM x c < 18446744073709551616 := Nat.mod_lt _ (by decide)
theorem pow64 : (18446744073709551616 : Nat) = 2 ^ 64 := by decide
theorem shX_lt (k x : Nat) (h : x < 18446744073709551616) : shX k x < 18446744073709551616 := by
  unfold shX
  rw [pow64] at *
  exact Nat.xor_lt_two_pow h (Nat.lt_of_le_of_lt (Nat.div_le_self _ _) h)
theorem mixN_lt (n : Nat) : mixN n < 18446744073709551616 := shX_lt _ _ (mulM_lt _ _)
theorem mulM_back (x c d : Nat) (h : x < 18446744073709551616) (hc : c * d % 18446744073709551616 = 1) : mulM (mulM x c) d = x := by
  unfold mulM
  rw [Nat.mod_mul_mod, Nat.mul_assoc, Nat.mul_mod, hc, Nat.mul_one, Nat.mod_mod, Nat.mod_eq_of_lt h]
theorem mulM_inj (c d : Nat) (hc : c * d % 18446744073709551616 = 1) {x y : Nat} (hx : x < 18446744073709551616) (hy : y < 18446744073709551616) (h : mulM x c = mulM y c) : x = y := by
  rw [← mulM_back x c d hx hc, ← mulM_back y c d hy hc, h]
theorem shX_test (k x i : Nat) : (shX k x).testBit i = (x.testBit i ^^ x.testBit (i + k)) := by
  unfold shX
  rw [Nat.testBit_xor, Nat.testBit_div_two_pow, Nat.add_comm]
theorem shX_inj (k : Nat) (hk : 0 < k) {x y : Nat} (hx : x < 18446744073709551616) (hy : y < 18446744073709551616) (h : shX k x = shX k y) : x = y := by
  rw [pow64] at hx hy
  have key : ∀ m i : Nat, 64 ≤ i + m → x.testBit i = y.testBit i := by
    intro m
    induction m with
    | zero =>
      intro i hi
      rw [Nat.testBit_lt_two_pow (Nat.lt_of_lt_of_le hx (Nat.pow_le_pow_right (by omega) (by omega))), Nat.testBit_lt_two_pow (Nat.lt_of_lt_of_le hy (Nat.pow_le_pow_right (by omega) (by omega)))]
    | succ m ih =>
      intro i hi
      have e := congrArg (fun z => z.testBit i) h
      simp only [shX_test] at e
      rw [ih (i + k) (by omega)] at e
      revert e
      cases x.testBit i <;> cases y.testBit i <;> cases y.testBit (i + k) <;> decide
  exact Nat.eq_of_testBit_eq fun i => key 64 i (by omega)
theorem mixN_inj {x y : Nat} (hx : x < 18446744073709551616) (hy : y < 18446744073709551616) (h : mixN x = mixN y) : x = y := by
  unfold mixN at h
  have h := shX_inj 31 (by decide) (mulM_lt _ _) (mulM_lt _ _) h
  have h := mulM_inj 10723151780598845931 3573116690164977347 (by decide) (shX_lt _ _ (mulM_lt _ _)) (shX_lt _ _ (mulM_lt _ _)) h
  have h := shX_inj 27 (by decide) (mulM_lt _ _) (mulM_lt _ _) h
  have h := mulM_inj 13787848793156543929 10871156337175269513 (by decide) (shX_lt _ _ (mulM_lt _ _)) (shX_lt _ _ (mulM_lt _ _)) h
  have h := shX_inj 30 (by decide) (mulM_lt _ _) (mulM_lt _ _) h
  exact mulM_inj 11400714819323198485 17428512612931826493 (by decide) hx hy h
theorem mixN_zero : mixN 0 = 0 := by decide +kernel
theorem numI_3 (q x : Nat) (hq : q < 128) (hx : x < 128) : numI [1, (q : Int), (x : Int)] = ((16384 + 128 * q + x : Nat) : Int) := by
  simp only [numI, List.foldl, IntKind.wrap_u64]
  omega
theorem numI_4 (s k n : Nat) (hs : s < 128) (hk : k < 128) (hn : n < 128) : numI [2, (s : Int), (k : Int), (n : Int)] = ((4194304 + 16384 * s + 128 * k + n : Nat) : Int) := by
  simp only [numI, List.foldl, IntKind.wrap_u64]
  omega
theorem numI_1 : numI [3] = ((3 : Nat) : Int) := by decide +kernel
/-- What a piece on a square counts, what a hand does, and the turn. -/
def pieceK (q x : Int) : Nat := if 0 ≤ q ∧ q < 81 ∧ kindF x ≠ 0 then mixN (16384 + 128 * q.toNat + x.toNat) else 0
def handK (s k n : Int) : Nat := if (s = 0 ∨ s = 1) ∧ (1 ≤ k ∧ k ≤ 7) ∧ (1 ≤ n ∧ n ≤ 18) then mixN (4194304 + 16384 * s.toNat + 128 * k.toNat + n.toNat) else 0
def sideK : Nat := mixN 3
theorem pieceK_lt (q x : Int) : pieceK q x < 18446744073709551616 := by
  unfold pieceK
  split
  · exact mixN_lt _
  · decide
theorem handK_lt (s k n : Int) : handK s k n < 18446744073709551616 := by
  unfold handK
  split
  · exact mixN_lt _
  · decide
theorem sideK_lt : sideK < 18446744073709551616 := mixN_lt _
end Go.Proofs.YtbopbekehccdmaaDoor
