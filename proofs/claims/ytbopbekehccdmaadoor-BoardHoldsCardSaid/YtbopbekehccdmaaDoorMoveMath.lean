/-
  Plain functions and facts on moves and their names.
-/
import Derived.Test.YtbopbekehccdmaaDoorName
import Derived.Test.YtbopbekehccdmaaDoorSet5
namespace Go.Proofs.YtbopbekehccdmaaDoor
open Go.RowKit
set_option linter.unusedVariables false

/-- The error's number of a move. -/
def checkM (f t d : Int) (p : Bool) : Int :=
  if 0 ≤ t ∧ t < 81 then (if d = 0 then (if 0 ≤ f ∧ f < 81 then (if f = t then 70 else 0) else 1) else if 1 ≤ d ∧ d ≤ 7 ∧ f = 0 ∧ p = false then 0 else 70) else 1
theorem checkM_zero (f t d : Int) (p : Bool) : checkM f t d p = 0 ↔ (0 ≤ t ∧ t < 81) ∧ ((d = 0 ∧ 0 ≤ f ∧ f < 81 ∧ f ≠ t) ∨ (1 ≤ d ∧ d ≤ 7 ∧ f = 0 ∧ p = false)) := by
  unfold checkM
  by_cases ht : 0 ≤ t ∧ t < 81
  · rw [if_pos ht]
    by_cases hd : d = 0
    · rw [if_pos hd]
      by_cases hf : 0 ≤ f ∧ f < 81
      · rw [if_pos hf]
        by_cases he : f = t
        · rw [if_pos he]; constructor
          · intro h; omega
          · rintro ⟨_, h | h⟩ <;> omega
        · rw [if_neg he]; exact ⟨fun _ => ⟨ht, Or.inl ⟨hd, hf.1, hf.2, he⟩⟩, fun _ => rfl⟩
      · rw [if_neg hf]; constructor
        · intro h; omega
        · rintro ⟨_, h | h⟩ <;> omega
    · rw [if_neg hd]
      by_cases hg : 1 ≤ d ∧ d ≤ 7 ∧ f = 0 ∧ p = false
      · rw [if_pos hg]; exact ⟨fun _ => ⟨ht, Or.inr hg⟩, fun _ => rfl⟩
      · rw [if_neg hg]; constructor
        · intro h; omega
        · rintro ⟨_, h | h⟩
          · omega
          · exact absurd h hg
  · rw [if_neg ht]; constructor
    · intro h; omega
    · rintro ⟨h, _⟩; exact absurd h ht
theorem checkM_cases (f t d : Int) (p : Bool) : checkM f t d p = 0 ∨ checkM f t d p = 1 ∨ checkM f t d p = 70 := by
  unfold checkM
  split
  · split
    · split
      · split <;> simp
      · simp
    · split <;> simp
  · simp

def letB (d : Int) : UInt8 := if d = 1 then 80 else if d = 2 then 76 else if d = 3 then 78 else if d = 4 then 83 else if d = 5 then 71 else if d = 6 then 66 else 82
def sqL (q : Int) : List UInt8 := [UInt8.ofNat (49 + (q / 9).toNat), UInt8.ofNat (97 + (q % 9).toNat)]
def sqS (q : Int) : ByteArray := if 0 ≤ q ∧ q < 81 then ⟨(sqL q).toArray⟩ else ⟨#[]⟩
def textL (f t d : Int) (p : Bool) : List UInt8 := if d = 0 then sqL f ++ (sqL t ++ if p = true then [43] else []) else letB d :: 42 :: sqL t
def textS (f t d : Int) (p : Bool) : ByteArray := if checkM f t d p = 0 then ⟨(textL f t d p).toArray⟩ else ⟨#[]⟩

theorem encode_ascii (n : Int) (h0 : 0 ≤ n) (h1 : n < 128) : Utf8.encode n = ⟨#[UInt8.ofNat n.toNat]⟩ := by
  unfold Utf8.encode
  have hv : Utf8.valid n = true := by
    unfold Utf8.valid
    simp; omega
  rw [if_pos hv]
  dsimp only
  rw [if_pos (by omega)]
theorem sq_encode (q : Int) (h0 : 0 ≤ q) (h1 : q < 81) : Utf8.encode (49 + q / 9) ++ Utf8.encode (97 + q % 9) = sqS q := by
  rw [encode_ascii _ (by omega) (by omega), encode_ascii _ (by omega) (by omega)]
  unfold sqS
  rw [if_pos ⟨h0, h1⟩]
  unfold sqL
  rw [show (49 + q / 9).toNat = 49 + (q / 9).toNat by omega, show (97 + q % 9).toNat = 97 + (q % 9).toNat by omega]
  rfl
theorem name_letter : ∀ d : Nat, d < 8 → 1 ≤ d → nameF (ofF 0 d) = ⟨#[letB d]⟩ := by decide +kernel
theorem sqS_size (q : Int) : (sqS q).size ≤ 2 := by
  unfold sqS
  split
  · exact Nat.le_refl _
  · exact Nat.zero_le _
theorem text_drop (f t d : Int) (p : Bool) (h : checkM f t d p = 0) (hd : d ≠ 0) : nameF (ofF 0 d) ++ ⟨#[42]⟩ ++ sqS t = textS f t d p := by
  have hc := (checkM_zero f t d p).1 h
  obtain ⟨n, rfl⟩ : ∃ n : Nat, d = n := ⟨d.toNat, by omega⟩
  rw [name_letter n (by omega) (by omega)]
  unfold textS sqS
  rw [if_pos h, if_pos hc.1]
  unfold textL
  rw [if_neg hd]
  rfl
theorem text_up (f t d : Int) (p : Bool) (h : checkM f t d p = 0) (hd : d = 0) (hp : p = true) : sqS f ++ sqS t ++ ⟨#[43]⟩ = textS f t d p := by
  have hc := (checkM_zero f t d p).1 h
  unfold textS sqS
  rw [if_pos h, if_pos hc.1, if_pos (by omega)]
  unfold textL
  rw [if_pos hd, if_pos hp]
  rfl
theorem text_go (f t d : Int) (p : Bool) (h : checkM f t d p = 0) (hd : d = 0) (hp : p = false) : sqS f ++ sqS t = textS f t d p := by
  have hc := (checkM_zero f t d p).1 h
  unfold textS sqS
  rw [if_pos h, if_pos hc.1, if_pos (by omega)]
  unfold textL
  rw [if_pos hd, if_neg (by simp [hp])]
  rfl
theorem textS_size (f t d : Int) (p : Bool) : (textS f t d p).size ≤ 5 := by
  unfold textS
  split
  · unfold textL
    split
    · split
      · exact Nat.le_refl _
      · show 4 ≤ 5; omega
    · show 4 ≤ 5; omega
  · exact Nat.zero_le _

/-- The square of two signs; -1: none. -/
def sqOf (a b : Int) : Int := squareF (a - 49) (b - 97)
theorem sqOf_sq (q : Int) (h0 : 0 ≤ q) (h1 : q < 81) : sqOf (49 + q / 9) (97 + q % 9) = q := by
  unfold sqOf squareF
  rw [if_pos (by omega)]
  omega
theorem sqOf_bd (a b : Int) : -1 ≤ sqOf a b ∧ sqOf a b ≤ 80 := by
  unfold sqOf squareF
  split <;> omega
end Go.Proofs.YtbopbekehccdmaaDoor
