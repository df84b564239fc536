/-
  The reference for names of moves: find, square, Square, Check, Text return what the plain functions say.
-/
import Derived.Test.YtfemicpfkgecbaaMv1
import Derived.LoopTactic
import Derived.Laws.IdiomStrings
namespace Go.Proofs.Ytfemicpfkgecbaa
open Go.RowKit
set_option linter.unusedVariables false
set_option linter.unusedSimpArgs false

/-- The place of a byte in a list, from the k-th on; -1: it isn't there. -/
def findFrom : List UInt8 → Int → Nat → Int
  | [], _, _ => -1
  | c :: cs, x, k => if (c.toNat : Int) = x then k else findFrom cs x (k + 1)
def findF (s : ByteArray) (x : Int) : Int := findFrom s.data.toList x 0
theorem drop_cons (s : ByteArray) (k : Nat) (h : k < s.size) : s.data.toList.drop k = s[k] :: s.data.toList.drop (k + 1) := by
  rw [List.drop_eq_getElem_cons (by rw [Array.length_toList]; exact h)]
  rfl
theorem find_any (s : ByteArray) (x : Int) (w : World) (hs : s.size ≤ 100) :
    Calls Try.prog 24 #[.string s, .int .u8 x] w fun e w' => e = .returned (.int .i64 (findF s x)) ∧ w = w' := by
  generalize hv : findF s x = v
  unfold findF at hv
  have Hv := Lib.hid hv
  clear hv
  go_enter Try.func24, Try.ntmps24
  go_wp2
  go_loop [5] (fun i => ∃ k : Nat, k ≤ s.size ∧ i = .int .i64 k ∧ findFrom (s.data.toList.drop k) x k = v) (fun i => s.size - (intOf i).toNat)
  case atStart => exact ⟨0, Nat.zero_le _, rfl, Hv.out⟩
  case round =>
    clear Hv
    obtain ⟨k, hk, rfl, hf⟩ := hrel
    by_cases hlt : k < s.size
    · rw [drop_cons s k hlt] at hf
      unfold findFrom at hf
      by_cases hx : (s[k].toNat : Int) = x
      · rw [if_pos hx] at hf
        have b : ((s[k].toNat : Int) == x) = true := by simpa using hx
        have Hf := Lib.hid hf
        clear hf hx
        go_wp2
        go_ret
        exact ⟨by rw [← Hf.out]; rfl, rfl⟩
      · rw [if_neg hx] at hf
        have b : ((s[k].toNat : Int) == x) = false := by simpa using hx
        have Hf := Lib.hid hf
        clear hf hx
        go_wp2
        go_round
        case rel => exact ⟨k + 1, by omega, by go_num, Hf.out⟩
        case measure => simp [intOf]; omega
    · have : s.data.toList.drop k = [] := List.drop_eq_nil_iff.2 (by rw [Array.length_toList]; exact Nat.le_of_not_lt hlt)
      rw [this] at hf
      unfold findFrom at hf
      have Hf := Lib.hid hf
      clear hf this
      go_wp2
      go_ret
      exact ⟨by rw [← Hf.out]; rfl, rfl⟩
end Go.Proofs.Ytfemicpfkgecbaa
