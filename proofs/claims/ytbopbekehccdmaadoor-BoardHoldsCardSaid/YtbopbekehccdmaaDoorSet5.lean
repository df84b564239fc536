/-
  The set package's Count, First, Last, Has, Without, Not, Square.
-/
import Derived.Test.YtbopbekehccdmaaDoorSet4
namespace Go.Proofs.YtbopbekehccdmaaDoor
open Go.RowKit
set_option linter.unusedVariables false

theorem bdrewN {B : Nat} {a w : World} (h : Below B a w) (n : Nat) : Below B a (w.drewN n) := ⟨h.os, h.tape, h.output, h.size, h.block⟩
theorem pop_zero : ∀ k, pop k 0 = 0
  | 0 => rfl
  | k + 1 => by simp [pop, pop_zero k]
theorem pop_words (n : Nat) (h : Sq n) : pop 64 (n % 9223372036854775808) + pop 64 (n / 9223372036854775808) = pop 81 n := by
  have e1 : pop 64 (n % 9223372036854775808) = pop 63 n := by
    rw [show (64 : Nat) = 63 + 1 from rfl, pop_split 63 1, pow63, ← pop_mod, Nat.div_eq_of_lt (Nat.mod_lt _ (by decide)), pop_zero, Nat.add_zero]
  have e2 : pop 64 (n / 9223372036854775808) = pop 18 (n / 9223372036854775808) := by
    rw [show (64 : Nat) = 18 + 46 from rfl, pop_split 18 46]
    have : n / 9223372036854775808 / 2 ^ 18 = 0 := Nat.div_eq_of_lt h.hi
    rw [this, pop_zero, Nat.add_zero]
  rw [e1, e2, show (81 : Nat) = 63 + 18 from rfl, pop_split 63 18, ← pow63]

theorem count_any (n : Nat) (hn : Sq n) (w : World) :
    Calls Tryd.prog 61 #[.agg #[.int .u64 (loW n), .int .u64 (hiW n)]] w fun e w' => e = .returned (.int .i64 (pop 81 n)) ∧ Below w.heap.size w w' := by
  have A := (fun W => ones_any (n % 9223372036854775808) (by omega) W)
  have B := (fun W => ones_any (n / 9223372036854775808) (by have := hn.hi; omega) W)
  have b1 := pop_le 64 (n % 9223372036854775808)
  have b2 := pop_le 64 (n / 9223372036854775808)
  rw [← pop_words n hn]
  generalize pop 64 (n % 9223372036854775808) = x at A b1 ⊢
  generalize pop 64 (n / 9223372036854775808) = y at B b2 ⊢
  change (∀ W, Calls Tryd.prog 95 #[.int .u64 (loW n)] W _) at A
  change (∀ W, Calls Tryd.prog 95 #[.int .u64 (hiW n)] W _) at B
  generalize loW n = l at A ⊢
  generalize hiW n = h at B ⊢
  have HA := Lib.hid A
  have HB := Lib.hid B
  clear A B
  clear hn
  go_enter Tryd.func61, Tryd.ntmps61
  go_wp2
  go_quiet ((first | (go_at_call_of 95 (Value.int .u64 l); exact Calls.quiet_of_same ((HA.out _).mono fun _ _ h => ⟨h.1, h.2.symm⟩)) | (go_at_call_of 95 (Value.int .u64 h); exact Calls.quiet_of_same ((HB.out _).mono fun _ _ h => ⟨h.1, h.2.symm⟩))))
  go_wp2
  go_ret
  exact ⟨by rw [Int.natCast_add]; rfl, bdrewN (ball (bref _) _) _⟩

theorem Tab.grow {w w' : World} (h : Tab w) (hb : Below w.heap.size w w') : Tab w' := by
  intro j hj
  have h1 := h j hj
  have hlt := block_lt_of_cell h1
  rw [← h1]
  exact hb.cell (p := ⟨1, j, none⟩) hlt

def firstF (n : Nat) : Int := if n % 9223372036854775808 ≠ 0 then (Lib.ctz 64 (n % 9223372036854775808) : Int) else if n / 9223372036854775808 ≠ 0 then 63 + (Lib.ctz 64 (n / 9223372036854775808) : Int) else -1
def lastF (n : Nat) : Int := if n / 9223372036854775808 ≠ 0 then 63 + (Lib.bitLen (n / 9223372036854775808) : Int) - 1 else (Lib.bitLen (n % 9223372036854775808) : Int) - 1

theorem ctz_lt (x : Nat) (h0 : x ≠ 0) (hx : x < 18446744073709551616) : Lib.ctz 64 x < 64 := (Lib.lowest_bit 64 x h0 hx).2

theorem first_any (n : Nat) (hn : Sq n) (w : World) (hT : Tab w) :
    Calls Tryd.prog 24 #[.agg #[.int .u64 (loW n), .int .u64 (hiW n)]] w fun e w' => e = .returned (.int .i64 (firstF n)) ∧ Below w.heap.size w w' := by
  have hh := hn.hi
  have hl := lo_lt n
  unfold firstF loW hiW
  generalize n % 9223372036854775808 = l at hl ⊢
  generalize n / 9223372036854775808 = h at hh ⊢
  by_cases c : l = 0
  · subst c
    rw [if_neg (by simp)]
    by_cases d : h = 0
    · subst d
      rw [if_neg (by simp)]
      clear hh hl hT hn
      go_enter Tryd.func24, Tryd.ntmps24
      go_wp2
      go_ret
      exact ⟨rfl, ball (bref _) _⟩
    · rw [if_pos d]
      have H := Lib.hid (fun (W : World) (t : Tab W) => tz_any h (by omega) d W t)
      have b := ctz_lt h d (by omega)
      have HT := Lib.hid hT
      have d1 : ((h : Int) == 0) = false := by simpa using d
      have d2 : ((h : Int) != 0) = true := by simpa using d
      generalize Lib.ctz 64 h = k at H b ⊢
      clear hh hl hT hn d
      go_enter Tryd.func24, Tryd.ntmps24
      go_wp2_with (go_at_call 72; refine (H.out _ (HT.out.grow (ball (bref _) _))).mono ?_; rintro e w' ⟨rfl, rfl⟩)
      go_ret
      exact ⟨rfl, ball (bref _) _⟩
  · rw [if_pos c]
    have H := Lib.hid (fun (W : World) (t : Tab W) => tz_any l (by omega) c W t)
    have HT := Lib.hid hT
    have d1 : ((l : Int) == 0) = false := by simpa using c
    have d2 : ((l : Int) != 0) = true := by simpa using c
    generalize Lib.ctz 64 l = k at H ⊢
    clear hh hl hT hn c
    go_enter Tryd.func24, Tryd.ntmps24
    go_wp2_with (go_at_call 72; refine (H.out _ (HT.out.grow (ball (bref _) _))).mono ?_; rintro e w' ⟨rfl, rfl⟩)
    go_ret
    exact ⟨rfl, ball (bref _) _⟩

theorem bitLen_le64 (x : Nat) : Lib.bitLen x ≤ 64 := by
  have : ∀ f x, Lib.bitLenAux f x ≤ f := by
    intro f
    induction f with
    | zero => intro x; simp [Lib.bitLenAux]
    | succ f ih =>
      intro x
      unfold Lib.bitLenAux
      have := ih (x / 2)
      split <;> omega
  exact this 64 x

theorem file_any (q : Int) (w : World) (h0 : 0 ≤ q) (h1 : q ≤ 80) :
    Calls Tryd.prog 132 #[.int .i64 q] w fun e w' => e = .returned (.int .i64 (q / 9)) ∧ w = w' := by
  go_enter Tryd.func132, Tryd.ntmps132
  go_wp2
  go_ret
  exact ⟨rfl, rfl⟩
theorem rank_any (q : Int) (w : World) (h0 : 0 ≤ q) (h1 : q ≤ 80) :
    Calls Tryd.prog 133 #[.int .i64 q] w fun e w' => e = .returned (.int .i64 (q % 9)) ∧ w = w' := by
  go_enter Tryd.func133, Tryd.ntmps133
  go_wp2
  go_ret
  exact ⟨rfl, rfl⟩
def squareF (f r : Int) : Int := if 0 ≤ f ∧ f ≤ 8 ∧ 0 ≤ r ∧ r ≤ 8 then f * 9 + r else -1
theorem square_any (f r : Int) (w : World) :
    Calls Tryd.prog 98 #[.int .i64 f, .int .i64 r] w fun e w' => e = .returned (.int .i64 (squareF f r)) ∧ w = w' := by
  unfold squareF
  by_cases a : f < 0
  · rw [if_neg (by omega)]
    go_enter Tryd.func98, Tryd.ntmps98
    go_wp2
    go_ret
    exact ⟨rfl, rfl⟩
  · by_cases b : 9 ≤ f
    · rw [if_neg (by omega)]
      go_enter Tryd.func98, Tryd.ntmps98
      go_wp2
      go_ret
      exact ⟨rfl, rfl⟩
    · by_cases c : r < 0
      · rw [if_neg (by omega)]
        go_enter Tryd.func98, Tryd.ntmps98
        go_wp2
        go_ret
        exact ⟨rfl, rfl⟩
      · by_cases d : 9 ≤ r
        · rw [if_neg (by omega)]
          go_enter Tryd.func98, Tryd.ntmps98
          go_wp2
          go_ret
          exact ⟨rfl, rfl⟩
        · rw [if_pos (by omega)]
          go_enter Tryd.func98, Tryd.ntmps98
          go_wp2
          go_ret
          exact ⟨rfl, rfl⟩
end Go.Proofs.YtbopbekehccdmaaDoor
