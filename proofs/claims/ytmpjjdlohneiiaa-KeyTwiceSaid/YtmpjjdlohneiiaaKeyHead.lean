/-
  The head of the key laws.
-/
import Derived.Test.YtmpjjdlohneiiaaKey2
namespace Go.Proofs.Ytmpjjdlohneiiaa
open Go.RowKit
set_option linter.unusedVariables false
set_option linter.unusedSimpArgs false

def noneZ : List Int := List.replicate 98 0
def whiteZ : List Int := List.replicate 97 0 ++ [1]
theorem mixN_pos (n : Nat) (h0 : n ≠ 0) (h : n < 18446744073709551616) : mixN n ≠ 0 := fun e => h0 (mixN_inj h (by decide) (e.trans mixN_zero.symm))
theorem pieceK_pos (q x : Int) : pieceK q x = 0 ↔ ¬ (0 ≤ q ∧ q < 81 ∧ kindF x ≠ 0) := by
  constructor
  · intro h hc
    have hr := kind_range x hc.2.2
    rw [pieceK_yes q x ⟨hc.1, hc.2.1⟩ hc.2.2] at h
    exact mixN_pos _ (by omega) (by omega) h
  · exact pieceK_no q x
theorem handK_pos (s k n : Int) : handK s k n = 0 ↔ ¬ ((s = 0 ∨ s = 1) ∧ (1 ≤ k ∧ k ≤ 7) ∧ (1 ≤ n ∧ n ≤ 18)) := by
  constructor
  · intro h hc
    rw [handK_yes s k n hc] at h
    exact mixN_pos _ (by omega) (by omega) h
  · exact handK_no s k n
theorem ofK_none : ofK noneZ = 0 := by decide +kernel
theorem ofK_white : ofK whiteZ = sideK := by decide +kernel
theorem sideK_pos : sideK ≠ 0 := by decide +kernel
theorem none_8 : I8s noneZ := by
  intro x hx
  have : x = 0 := List.eq_of_mem_replicate hx
  omega
theorem white_8 : I8s whiteZ := by
  intro x hx
  rcases List.mem_append.1 hx with h | h
  · have : x = 0 := List.eq_of_mem_replicate h
    omega
  · have : x = 1 := by simpa using h
    omega
theorem posC_none : Try.zeroCells47 = (posC noneZ).toArray := by kernel_rfl
theorem posC_white : Try.zeroCells47.setIfInBounds 97 (.int .i8 1) = (posC whiteZ).toArray := by kernel_rfl
theorem counts_true (w : World) :
    Calls Try.prog 23 #[] w fun e w' => e = .returned (.bool true) ∧ Below w.heap.size w w' := by
  have P := Lib.hid (fun W => pieceK_any 3 1 (by decide) (by decide) W)
  have S := Lib.hid (fun W => sideK_any W)
  have A := Lib.hid (fun W => keyOf_any noneZ (by decide) none_8 W)
  have B := Lib.hid (fun W => keyOf_any whiteZ (by decide) white_8 W)
  rw [ofK_none, ← posC_none] at A
  rw [ofK_white, ← posC_white] at B
  have h1 : (((pieceK 3 1 : Nat) : Int) != 0) = true := by decide +kernel
  have h2 : (((sideK : Nat) : Int) != 0) = true := by decide +kernel
  generalize ((pieceK 3 1 : Nat) : Int) = x at P h1
  generalize ((sideK : Nat) : Int) = y at S B h2
  go_enter Try.func23, Try.ntmps23
  go_wp2_with (first
    | (go_at_call 24; refine (P.out _).mono ?_; rintro e w1 ⟨rfl, hb1⟩)
    | (go_at_call 26; refine (S.out _).mono ?_; rintro e w2 ⟨rfl, hb2⟩))
  refine (A.out _).mono ?_
  rintro e w3 ⟨rfl, hb3⟩
  have HB := Lib.hid (bthen (bthen hb1 hb2) hb3)
  clear hb1 hb2 hb3 A
  go_wp2_with fail
  refine (B.out _).mono ?_
  rintro e w4 ⟨rfl, hb4⟩
  have HB2 := Lib.hid (bthen HB.out hb4)
  clear hb4 B
  go_wp2_with (go_at_call 26; refine (S.out _).mono ?_; rintro e w5 ⟨rfl, hb5⟩)
  go_ret
  exact ⟨rfl, bthen HB2.out hb5⟩
end Go.Proofs.Ytmpjjdlohneiiaa
