/-
  Plain functions and facts on pieces (no program is named here): the kinds, the sides and their numbers.
-/
import Derived.WalkKit
namespace Go.Proofs.YtilhicohfnaclaaDoor

def upF (k : Int) : Int := if k = 1 ∨ k = 2 ∨ k = 3 ∨ k = 4 ∨ k = 6 ∨ k = 7 then k + 8 else 0
def rawF (k : Int) : Int := if 1 ≤ k ∧ k ≤ 8 then k else if upF (k - 8) = 0 then 0 else k - 8
def totalF (k : Int) : Int := if k = 1 then 18 else if k = 2 ∨ k = 3 ∨ k = 4 ∨ k = 5 then 4 else if k = 6 ∨ k = 7 ∨ k = 8 then 2 else 0
def cutF (p : Int) : Int := if 16 ≤ p then p - 16 else p
def kindF (p : Int) : Int := if rawF (cutF p) = 0 then 0 else cutF p
def sideF (p : Int) : Int := if rawF (cutF p) = 0 then -1 else if 16 ≤ p then 1 else 0
def ofF (s k : Int) : Int := if rawF k = 0 then 0 else if s = 0 then k else if s = 1 then 16 + k else 0

theorem upF_zero (k : Int) (h : ¬ (k = 1 ∨ k = 2 ∨ k = 3 ∨ k = 4 ∨ k = 6 ∨ k = 7)) : upF k = 0 := if_neg h
theorem rawF_cases (k : Int) : (rawF k = 0 ∧ (k < 1 ∨ k = 13 ∨ 15 < k)) ∨ (rawF k = k ∧ 1 ≤ k ∧ k ≤ 8) ∨ (rawF k = k - 8 ∧ 9 ≤ k ∧ k ≤ 15 ∧ k ≠ 13) := by
  unfold rawF upF
  by_cases h : 1 ≤ k ∧ k ≤ 8
  · rw [if_pos h]; omega
  · rw [if_neg h]
    by_cases h2 : k - 8 = 1 ∨ k - 8 = 2 ∨ k - 8 = 3 ∨ k - 8 = 4 ∨ k - 8 = 6 ∨ k - 8 = 7
    · rw [if_pos h2, if_neg (by omega)]; omega
    · rw [if_neg h2, if_pos rfl]; omega
end Go.Proofs.YtilhicohfnaclaaDoor
