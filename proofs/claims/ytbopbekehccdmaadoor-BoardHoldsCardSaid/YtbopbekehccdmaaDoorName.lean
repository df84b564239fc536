/-
  The name of a piece: what Name returns for every number, and that the statements' head 'names' is true.
-/
import Derived.Test.YtbopbekehccdmaaDoorNames
namespace Go.Proofs.YtbopbekehccdmaaDoor
open Go.RowKit

def letterF (p : Int) : ByteArray := Utf8.encode (atFrom (lettersL (sideF p)) (rawF (kindF p)))
def nameF (p : Int) : ByteArray := if kindF p = 0 then ⟨#[]⟩ else if rawF (kindF p) = kindF p then letterF p else ⟨#[43]⟩ ++ letterF p

theorem encode_le (n : Int) : (Utf8.encode n).size ≤ 4 := by
  unfold Utf8.encode
  generalize (if Utf8.valid n = true then n.toNat else Utf8.runeError) = c
  dsimp only
  by_cases h1 : c < 128
  · rw [if_pos h1]; show 1 ≤ 4; omega
  · rw [if_neg h1]
    by_cases h2 : c < 2048
    · rw [if_pos h2]; show 2 ≤ 4; omega
    · rw [if_neg h2]
      by_cases h3 : c < 65536
      · rw [if_pos h3]; show 3 ≤ 4; omega
      · rw [if_neg h3]; show 4 ≤ 4; omega

theorem kindF_le (p : Int) : 0 ≤ kindF p ∧ kindF p ≤ 15 := by
  unfold kindF
  have := rawF_cases (cutF p)
  split <;> omega

theorem kindF_raw (p : Int) (hk : kindF p ≠ 0) : 1 ≤ rawF (kindF p) ∧ rawF (kindF p) ≤ 8 := by
  have a := rawF_cases (kindF p)
  have b := rawF_cases (cutF p)
  unfold kindF at *
  split at hk <;> split at a <;> simp_all <;> omega

theorem nameF_1 : nameF 1 = ⟨#[80]⟩ := by decide +kernel
theorem nameF_17 : nameF 17 = ⟨#[112]⟩ := by decide +kernel

end Go.Proofs.YtbopbekehccdmaaDoor
