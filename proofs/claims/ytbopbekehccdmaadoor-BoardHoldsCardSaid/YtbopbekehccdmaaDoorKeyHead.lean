/-
  The head of the key laws.
-/
import Derived.Test.YtbopbekehccdmaaDoorKey2
namespace Go.Proofs.YtbopbekehccdmaaDoor
open Go.RowKit
set_option linter.unusedVariables false
set_option linter.unusedSimpArgs false

def noneZ : List Int := List.replicate 98 0
def whiteZ : List Int := List.replicate 97 0 ++ [1]
theorem mixN_pos (n : Nat) (h0 : n ≠ 0) (h : n < 18446744073709551616) : mixN n ≠ 0 := fun e => h0 (mixN_inj h (by decide) (e.trans mixN_zero.symm))
theorem pieceK_pos (q x : Int) : pieceK q x = 0 ↔ ¬ (0 ≤ q ∧ q < 81 ∧ kindF x ≠ 0) := by
  constructor
  · intro h hc
    have hr := kind_range x hc.2.2
    rw [pieceK_yes q x ⟨hc.1, hc.2.1⟩ hc.2.2] at h
    exact mixN_pos _ (by omega) (by omega) h
  · exact pieceK_no q x
theorem handK_pos (s k n : Int) : handK s k n = 0 ↔ ¬ ((s = 0 ∨ s = 1) ∧ (1 ≤ k ∧ k ≤ 7) ∧ (1 ≤ n ∧ n ≤ 18)) := by
  constructor
  · intro h hc
    rw [handK_yes s k n hc] at h
    exact mixN_pos _ (by omega) (by omega) h
  · exact handK_no s k n
theorem ofK_none : ofK noneZ = 0 := by decide +kernel
theorem ofK_white : ofK whiteZ = sideK := by decide +kernel
theorem sideK_pos : sideK ≠ 0 := by decide +kernel
theorem none_8 : I8s noneZ := by
  intro x hx
  have : x = 0 := List.eq_of_mem_replicate hx
  omega
theorem white_8 : I8s whiteZ := by
  intro x hx
  rcases List.mem_append.1 hx with h | h
  · have : x = 0 := List.eq_of_mem_replicate h
    omega
  · have : x = 1 := by simpa using h
    omega
theorem posC_none : Tryd.zeroCells28 = (posC noneZ).toArray := by kernel_rfl
theorem posC_white : Tryd.zeroCells28.setIfInBounds 97 (.int .i8 1) = (posC whiteZ).toArray := by kernel_rfl
end Go.Proofs.YtbopbekehccdmaaDoor
