/-
  How two squares lie from each other, the squares between, and the way there; plain facts on numbers (no program is named here).
-/
import Derived.Test.YtnmekghjkajhcaaDoorRayMath
namespace Go.Proofs.YtnmekghjkajhcaaDoor
open Go.RowKit
set_option linter.unusedVariables false
set_option linter.unusedSimpArgs false

def lineF (a b : Int) : Int :=
  if a < 0 ∨ 80 < a ∨ b < 0 ∨ 80 < b ∨ a = b then 0
  else if b / 9 - a / 9 = 0 ∨ b % 9 - a % 9 = 0 then 1
  else if b / 9 - a / 9 = b % 9 - a % 9 ∨ b / 9 - a / 9 = -(b % 9 - a % 9) then 2 else 0
def sgnF (n : Int) : Int := if n < 0 then -1 else if 0 < n then 1 else 0
def dirF (a b : Int) : Int × Int := (sgnF (b / 9 - a / 9), sgnF (b % 9 - a % 9))
/-- How many steps there are from a square to another one. -/
def distF (a b : Int) : Nat := max (b / 9 - a / 9).natAbs (b % 9 - a % 9).natAbs
def awayF (a b : Int) : Int := 9 * sgnF (b / 9 - a / 9) + sgnF (b % 9 - a % 9)
def betweenP (a b : Int) (k : Nat) : List Int := (List.range k).map (fun (j : Nat) => a + (j + 1) * awayF a b)
def betweenL (a b : Int) : List Int := if lineF a b = 0 then [] else betweenP a b (distF a b - 1)
def eightL : List (Int × Int) := [(0, -1), (-1, 0), (1, 0), (0, 1), (-1, -1), (1, -1), (-1, 1), (1, 1)]
/-- The squares of a way to the edge. -/
def pathL (d : Int × Int) : Nat → Int → List Int
  | 0, _ => []
  | f + 1, t => if t < 0 then [] else t :: pathL d f (fromF d t)
def okPath (q : Int) (d : Int × Int) : List Int → List Int → Bool
  | _, [] => true
  | pre, t :: l => decide (lineF q t ≠ 0) && decide (dirF q t = d) && decide (betweenL q t = pre) && okPath q d (pre ++ [t]) l
theorem path_ok : ∀ q : Nat, q < 81 → ∀ d ∈ eightL, okPath (q : Int) d [] (pathL d 9 (fromF d q)) = true := by decide +kernel
theorem path_in : ∀ q : Nat, q < 81 → ∀ t : Nat, t < 81 → lineF (q : Int) t = 0 ∨ ((t : Int) ∈ pathL (dirF q t) 9 (fromF (dirF q t) q) ∧ dirF q t ∈ eightL ∧ decide (lineF q t = 1) = decide (dirF q t ∈ [((0 : Int), (-1 : Int)), (-1, 0), (1, 0), (0, 1)]) ∧ decide (lineF q t = 2) = decide (dirF q t ∈ [((-1 : Int), (-1 : Int)), (1, -1), (-1, 1), (1, 1)])) := by decide +kernel
def towardF (a b : Int) : Int × Int :=
  if b / 9 - a / 9 ≠ 0 ∧ b % 9 - a % 9 ≠ 0 ∧ b / 9 - a / 9 ≠ b % 9 - a % 9 ∧ b / 9 - a / 9 ≠ -(b % 9 - a % 9) then (0, 0) else dirF a b
theorem between_ok : ∀ a : Nat, a < 81 → ∀ b : Nat, b < 81 → minusN (wayN a (towardF a b) (oneN b)) (oneN b) = ofN (betweenL a b) ∧ ofN (betweenL b a) = ofN (betweenL a b) ∧ (betweenL a b = [] ∨ pop 81 (ofN (betweenL a b)) = (betweenL a b).length) := by decide +kernel

end Go.Proofs.YtnmekghjkajhcaaDoor
