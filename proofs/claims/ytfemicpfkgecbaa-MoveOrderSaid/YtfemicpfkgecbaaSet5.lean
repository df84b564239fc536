/-
  The set package's Count, First, Last, Has, Without, Not, Square.
-/
import Derived.Test.YtfemicpfkgecbaaSet4
namespace Go.Proofs.Ytfemicpfkgecbaa
open Go.RowKit
set_option linter.unusedVariables false

theorem bdrewN {B : Nat} {a w : World} (h : Below B a w) (n : Nat) : Below B a (w.drewN n) := ⟨h.os, h.tape, h.output, h.size, h.block⟩
theorem pop_zero : ∀ k, pop k 0 = 0
  | 0 => rfl
  | k + 1 => by simp [pop, pop_zero k]
theorem pop_words (n : Nat) (h : Sq n) : pop 64 (n % 9223372036854775808) + pop 64 (n / 9223372036854775808) = pop 81 n := by
  have e1 : pop 64 (n % 9223372036854775808) = pop 63 n := by
    rw [show (64 : Nat) = 63 + 1 from rfl, pop_split 63 1, pow63, ← pop_mod, Nat.div_eq_of_lt (Nat.mod_lt _ (by decide)), pop_zero, Nat.add_zero]
  have e2 : pop 64 (n / 9223372036854775808) = pop 18 (n / 9223372036854775808) := by
    rw [show (64 : Nat) = 18 + 46 from rfl, pop_split 18 46]
    have : n / 9223372036854775808 / 2 ^ 18 = 0 := Nat.div_eq_of_lt h.hi
    rw [this, pop_zero, Nat.add_zero]
  rw [e1, e2, show (81 : Nat) = 63 + 18 from rfl, pop_split 63 18, ← pow63]

def firstF (n : Nat) : Int := if n % 9223372036854775808 ≠ 0 then (Lib.ctz 64 (n % 9223372036854775808) : Int) else if n / 9223372036854775808 ≠ 0 then 63 + (Lib.ctz 64 (n / 9223372036854775808) : Int) else -1
def lastF (n : Nat) : Int := if n / 9223372036854775808 ≠ 0 then 63 + (Lib.bitLen (n / 9223372036854775808) : Int) - 1 else (Lib.bitLen (n % 9223372036854775808) : Int) - 1

theorem ctz_lt (x : Nat) (h0 : x ≠ 0) (hx : x < 18446744073709551616) : Lib.ctz 64 x < 64 := (Lib.lowest_bit 64 x h0 hx).2

theorem bitLen_le64 (x : Nat) : Lib.bitLen x ≤ 64 := by
  have : ∀ f x, Lib.bitLenAux f x ≤ f := by
    intro f
    induction f with
    | zero => intro x; simp [Lib.bitLenAux]
    | succ f ih =>
      intro x
      unfold Lib.bitLenAux
      have := ih (x / 2)
      split <;> omega
  exact this 64 x

theorem file_any (q : Int) (w : World) (h0 : 0 ≤ q) (h1 : q ≤ 80) :
    Calls Try.prog 26 #[.int .i64 q] w fun e w' => e = .returned (.int .i64 (q / 9)) ∧ w = w' := by
  go_enter Try.func26, Try.ntmps26
  go_wp2
  go_ret
  exact ⟨rfl, rfl⟩
theorem rank_any (q : Int) (w : World) (h0 : 0 ≤ q) (h1 : q ≤ 80) :
    Calls Try.prog 27 #[.int .i64 q] w fun e w' => e = .returned (.int .i64 (q % 9)) ∧ w = w' := by
  go_enter Try.func27, Try.ntmps27
  go_wp2
  go_ret
  exact ⟨rfl, rfl⟩
def squareF (f r : Int) : Int := if 0 ≤ f ∧ f ≤ 8 ∧ 0 ≤ r ∧ r ≤ 8 then f * 9 + r else -1
theorem square_any (f r : Int) (w : World) :
    Calls Try.prog 45 #[.int .i64 f, .int .i64 r] w fun e w' => e = .returned (.int .i64 (squareF f r)) ∧ w = w' := by
  unfold squareF
  by_cases a : f < 0
  · rw [if_neg (by omega)]
    go_enter Try.func45, Try.ntmps45
    go_wp2
    go_ret
    exact ⟨rfl, rfl⟩
  · by_cases b : 9 ≤ f
    · rw [if_neg (by omega)]
      go_enter Try.func45, Try.ntmps45
      go_wp2
      go_ret
      exact ⟨rfl, rfl⟩
    · by_cases c : r < 0
      · rw [if_neg (by omega)]
        go_enter Try.func45, Try.ntmps45
        go_wp2
        go_ret
        exact ⟨rfl, rfl⟩
      · by_cases d : 9 ≤ r
        · rw [if_neg (by omega)]
          go_enter Try.func45, Try.ntmps45
          go_wp2
          go_ret
          exact ⟨rfl, rfl⟩
        · rw [if_pos (by omega)]
          go_enter Try.func45, Try.ntmps45
          go_wp2
          go_ret
          exact ⟨rfl, rfl⟩
end Go.Proofs.Ytfemicpfkgecbaa
