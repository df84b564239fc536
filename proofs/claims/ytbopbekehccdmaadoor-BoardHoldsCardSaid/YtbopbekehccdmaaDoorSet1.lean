/-
  The set package's calls on words: what And, Or, Minus, All, Not, single, With, Without, Empty, Has return, sets being told as one number.
-/
import Derived.Test.YtbopbekehccdmaaDoorBits
import Derived.Test.YtbopbekehccdmaaDoorBase
import Derived.Test.YtbopbekehccdmaaDoorRows
import Derived.Laws.StructEq
import Derived.Deep.RegionWith
namespace Go.Proofs.YtbopbekehccdmaaDoor
open Go.RowKit
set_option linter.unusedVariables false

theorem and_any (n m : Nat) (hn : Sq n) (hm : Sq m) (w : World) :
    Calls Tryd.prog 62 #[.agg #[.int .u64 (loW n), .int .u64 (hiW n)], .agg #[.int .u64 (loW m), .int .u64 (hiW m)]] w fun e w' => e = .returned (.agg #[.int .u64 (loW (n &&& m)), .int .u64 (hiW (n &&& m))]) ∧ Below w.heap.size w w' := by
  have e1 := and_lo n m
  have e2 := and_hi n m hn hm
  clear hn hm
  generalize loW (n &&& m) = x at e1 ⊢
  generalize hiW (n &&& m) = y at e2 ⊢
  go_enter Tryd.func62, Tryd.ntmps62
  go_wp2
  exact bodyPost_ret (v := .agg #[.int .u64 x, .int .u64 y]) (by simp [results, Tryd.results62, go_sem]) rfl ⟨rfl, ball (ball (ball (bref _) _) _) _⟩

theorem or_any (n m : Nat) (hn : Sq n) (hm : Sq m) (w : World) :
    Calls Tryd.prog 25 #[.agg #[.int .u64 (loW n), .int .u64 (hiW n)], .agg #[.int .u64 (loW m), .int .u64 (hiW m)]] w fun e w' => e = .returned (.agg #[.int .u64 (loW (n ||| m)), .int .u64 (hiW (n ||| m))]) ∧ Below w.heap.size w w' := by
  have e1 := or_lo n m
  have e2 := or_hi n m hn hm
  clear hn hm
  generalize loW (n ||| m) = x at e1 ⊢
  generalize hiW (n ||| m) = y at e2 ⊢
  go_enter Tryd.func25, Tryd.ntmps25
  go_wp2
  exact bodyPost_ret (v := .agg #[.int .u64 x, .int .u64 y]) (by simp [results, Tryd.results25, go_sem]) rfl ⟨rfl, ball (ball (ball (bref _) _) _) _⟩

theorem minus_any (n m : Nat) (hn : Sq n) (hm : Sq m) (w : World) :
    Calls Tryd.prog 60 #[.agg #[.int .u64 (loW n), .int .u64 (hiW n)], .agg #[.int .u64 (loW m), .int .u64 (hiW m)]] w fun e w' => e = .returned (.agg #[.int .u64 (loW (minusN n m)), .int .u64 (hiW (minusN n m))]) ∧ Below w.heap.size w w' := by
  have e1 := minus_lo n m
  have e2 := minus_hi n m hn hm
  clear hn hm
  generalize loW (minusN n m) = x at e1 ⊢
  generalize hiW (minusN n m) = y at e2 ⊢
  go_enter Tryd.func60, Tryd.ntmps60
  go_wp2
  exact bodyPost_ret (v := .agg #[.int .u64 x, .int .u64 y]) (by simp [results, Tryd.results60, go_sem]) rfl ⟨rfl, ball (ball (ball (bref _) _) _) _⟩

theorem all_any (w : World) :
    Calls Tryd.prog 127 #[] w fun e w' => e = .returned (.agg #[.int .u64 (loW full), .int .u64 (hiW full)]) ∧ Below w.heap.size w w' := by
  rw [lo_full, hi_full]
  go_enter Tryd.func127, Tryd.ntmps127
  go_wp2
  exact bodyPost_ret (v := .agg #[.int .u64 9223372036854775807, .int .u64 262143]) (by simp [results, Tryd.results127, go_sem]) rfl ⟨rfl, ball (bref _) _⟩

theorem empty_any (n : Nat) (w : World) :
    Calls Tryd.prog 46 #[.agg #[.int .u64 (loW n), .int .u64 (hiW n)]] w fun e w' => e = .returned (.bool (decide (n = 0))) ∧ Below w.heap.size w w' := by
  by_cases h : n = 0
  · subst h
    rw [lo_zero, hi_zero]
    go_enter Tryd.func46, Tryd.ntmps46
    go_wp2
    go_ret
    exact ⟨rfl, ball (bref _) _⟩
  · have hd : decide (n = 0) = false := by simpa using h
    have hw := words_ne h
    rw [lo_zero, hi_zero] at hw
    rw [hd]
    clear hd h
    generalize loW n = x at hw ⊢
    generalize hiW n = y at hw ⊢
    by_cases hx : x = 0
    · subst hx
      have hy : (y == 0) = false := by simpa using hw
      clear hw
      go_enter Tryd.func46, Tryd.ntmps46
      go_wp2
      go_ret
      exact ⟨rfl, ball (bref _) _⟩
    · have hx' : (x == 0) = false := by simpa using hx
      clear hw hx
      go_enter Tryd.func46, Tryd.ntmps46
      go_wp2
      go_ret
      exact ⟨rfl, ball (bref _) _⟩

/-- The set of one square, or none. -/
def oneN (q : Int) : Nat := if 0 ≤ q ∧ q < 81 then 2 ^ q.toNat else 0
theorem oneN_sq (q : Int) : Sq (oneN q) := by
  unfold oneN
  split
  · exact Sq.pow (by omega)
  · exact Sq.zero
theorem wrap_pow (q : Nat) (h : q < 63) : IntKind.u64.wrap ((2 : Int) ^ q) = (2 : Int) ^ q := by
  have h1 : (2 : Nat) ^ q < 2 ^ 63 := Nat.pow_lt_pow_right (by omega) h
  have h2 : ((2 : Int) ^ q) = ((2 ^ q : Nat) : Int) := by rw [Int.natCast_pow]; rfl
  rw [h2, IntKind.wrap_u64]
  generalize (2 : Nat) ^ q = x at h1
  omega

theorem single_any (q : Int) (w : World) :
    Calls Tryd.prog 70 #[.int .i64 q] w fun e w' => e = .returned (.agg #[.int .u64 (loW (oneN q)), .int .u64 (hiW (oneN q))]) ∧ Below w.heap.size w w' := by
  by_cases h : q < 0 ∨ 81 ≤ q
  · rw [show oneN q = 0 from if_neg (by omega), lo_zero, hi_zero]
    rcases h with h | h
    all_goals
      go_enter Tryd.func70, Tryd.ntmps70
      go_wp2
      exact bodyPost_ret (v := .agg #[.int .u64 0, .int .u64 0]) (by simp [results, Tryd.results70, go_sem]) rfl ⟨rfl, ball (bref _) _⟩
  · rw [show oneN q = 2 ^ q.toNat from if_pos (by omega)]
    by_cases h63 : q < 63
    · obtain ⟨k, rfl⟩ : ∃ k : Nat, q = k := ⟨q.toNat, by omega⟩
      have hk : k < 63 := by omega
      rw [Int.toNat_natCast, (lo_pow_lo k hk).1, (lo_pow_lo k hk).2]
      have hwr := wrap_pow k hk
      have d0 : ¬ (k : Int) < 0 := by omega
      have d1 : ¬ 81 ≤ (k : Int) := by omega
      clear h
      go_enter Tryd.func70, Tryd.ntmps70
      go_wp2
      exact bodyPost_ret (v := .agg #[.int .u64 (2 ^ k), .int .u64 0]) (by simp [results, Tryd.results70, go_sem]) rfl ⟨rfl, ball (bref _) _⟩
    · obtain ⟨k, rfl⟩ : ∃ k : Nat, q = (k : Int) + 63 := ⟨(q - 63).toNat, by omega⟩
      have hk : k < 63 := by omega
      have ht : ((k : Int) + 63).toNat = k + 63 := by omega
      rw [ht, (lo_pow_hi (k + 63) (by omega)).1, (lo_pow_hi (k + 63) (by omega)).2, Nat.add_sub_cancel]
      have hwr := wrap_pow k hk
      have d0 : ¬ (k : Int) + 63 < 0 := by omega
      have d1 : ¬ 81 ≤ (k : Int) + 63 := by omega
      clear h ht
      go_enter Tryd.func70, Tryd.ntmps70
      go_wp2
      trace_state
      exact bodyPost_ret (v := .agg #[.int .u64 0, .int .u64 (2 ^ k)]) (by simp [results, Tryd.results70, go_sem]) rfl ⟨rfl, ball (bref _) _⟩
end Go.Proofs.YtbopbekehccdmaaDoor
