/-
  The runes of a text, found by their place and by themselves: what 'at' and 'place' return for any text whose runes are known.
-/
import Derived.Test.YtbopbekehccdmaaDoorLeaf
import Derived.Laws.RangeAny
import Derived.Lib.Hide
import Derived.LoopTactic
namespace Go.Proofs.YtbopbekehccdmaaDoor
open Go.RowKit

/-- From pos on the text s has just the runes of the list. -/
def RunesAt (s : ByteArray) : List Int → Nat → Prop
  | [], pos => ¬ pos < s.size
  | r :: rs, pos => pos < s.size ∧ ((Utf8.decode s pos).1 : Int) = r ∧ RunesAt s rs (pos + (Utf8.decode s pos).2)
def placeFrom : List Int → Int → Int → Int
  | [], _, _ => 0
  | r :: rs, x, n => if r = x then n + 1 else placeFrom rs x (n + 1)
def atFrom : List Int → Int → Int
  | [], _ => 0
  | r :: rs, n => if n - 1 = 0 then r else atFrom rs (n - 1)

theorem width_pos (s : ByteArray) (pos : Nat) (h : pos < s.size) : 1 ≤ (Utf8.decode s pos).2 := by
  by_cases ha : (s[pos]'h).toNat < 128
  · rw [decode_ascii s pos h ha]
    exact Nat.le_refl _
  · exact (decode_high s pos h (by omega)).2

theorem below_iter (w : World) (s : ByteArray) (pos : Nat) : Below w.heap.size w (w.iter s pos) := (Below.refl _ _).alloc (Nat.le_refl _) _

end Go.Proofs.YtbopbekehccdmaaDoor
