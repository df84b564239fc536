/-
  The names and the signs of pieces: what letters, Name, Sign, FromSign, Parse return, for every argument, and that the statements' head 'names' is true.
-/
import Derived.Test.YtbopbekehccdmaaDoorText
namespace Go.Proofs.YtbopbekehccdmaaDoor
open Go.RowKit

def blackS : ByteArray := ⟨#[80, 76, 78, 83, 71, 66, 82, 75]⟩
def whiteS : ByteArray := ⟨#[112, 108, 110, 115, 103, 98, 114, 107]⟩
def signS : ByteArray := ⟨#[230, 173, 169, 233, 166, 153, 230, 161, 130, 233, 138, 128, 233, 135, 145, 232, 167, 146, 233, 163, 155, 231, 142, 137, 227, 129, 168, 230, 157, 143, 229, 156, 173, 229, 133, 168, 32, 233, 166, 172, 233, 190, 141]⟩
def blackL : List Int := [80, 76, 78, 83, 71, 66, 82, 75]
def whiteL : List Int := [112, 108, 110, 115, 103, 98, 114, 107]
def signL : List Int := [27497, 39321, 26690, 37504, 37329, 35282, 39131, 29577, 12392, 26447, 22317, 20840, 32, 39340, 40845]
def lettersS (s : Int) : ByteArray := if s = 1 then whiteS else blackS
def lettersL (s : Int) : List Int := if s = 1 then whiteL else blackL

def runesB (s : ByteArray) : List Int → Nat → Bool
  | [], pos => !decide (pos < s.size)
  | r :: rs, pos => decide (pos < s.size) && (((Utf8.decode s pos).1 : Int) == r) && runesB s rs (pos + (Utf8.decode s pos).2)
theorem runesAt_of (s : ByteArray) : ∀ (rs : List Int) (pos : Nat), runesB s rs pos = true → RunesAt s rs pos
  | [], pos, h => by simpa [runesB, RunesAt] using h
  | r :: rs, pos, h => by
    simp only [runesB, Bool.and_eq_true, decide_eq_true_eq, beq_iff_eq] at h
    exact ⟨h.1.1, h.1.2, runesAt_of s rs _ h.2⟩
theorem black_runes : RunesAt blackS blackL 0 := runesAt_of _ _ _ (by decide +kernel)
theorem white_runes : RunesAt whiteS whiteL 0 := runesAt_of _ _ _ (by decide +kernel)
theorem sign_runes : RunesAt signS signL 0 := runesAt_of _ _ _ (by decide +kernel)
theorem letters_runes (s : Int) : RunesAt (lettersS s) (lettersL s) 0 := by
  unfold lettersS lettersL
  split
  · exact white_runes
  · exact black_runes
theorem letters_len (s : Int) : (lettersL s).length ≤ 100 := by
  unfold lettersL
  split <;> decide

def signF (k : Int) : Int := if rawF k = 0 then 0 else atFrom signL k
def fromSignF (x : Int) : Int := if x = 29579 then 8 else if x = 31452 then 15 else if rawF (placeFrom signL x 0) = 0 then 0 else placeFrom signL x 0

theorem placeFrom_le : ∀ (rs : List Int) (x n : Int), 0 ≤ n → 0 ≤ placeFrom rs x n ∧ placeFrom rs x n ≤ n + rs.length
  | [], _, n, h => by simp [placeFrom]; exact h
  | r :: rs, x, n, h => by
    unfold placeFrom
    have := placeFrom_le rs x (n + 1) (by omega)
    simp only [List.length_cons]
    split <;> omega

/-- The kind of a letter of a side, promoted or not. -/
def letterK (s x : Int) (pr : Bool) : Int := if pr = true then upF (placeFrom (lettersL s) x 0) else placeFrom (lettersL s) x 0
def parseF (x : Int) (pr : Bool) : Int := if letterK 0 x pr = 0 then (if letterK 1 x pr = 0 then 0 else ofF 1 (letterK 1 x pr)) else ofF 0 (letterK 0 x pr)
theorem letterK_le (s x : Int) (pr : Bool) : 0 ≤ letterK s x pr ∧ letterK s x pr ≤ 15 := by
  have h := placeFrom_le (lettersL s) x 0 (by omega)
  have hl : (lettersL s).length = 8 := by unfold lettersL; split <;> rfl
  rw [hl] at h
  unfold letterK upF
  split
  · split <;> omega
  · omega

end Go.Proofs.YtbopbekehccdmaaDoor
