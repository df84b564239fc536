/-
  Raw positions in memory, and their keys when a square, a hand or the side is another one.
-/
import Derived.Test.YtbopbekehccdmaaDoorKeyHead
namespace Go.Proofs.YtbopbekehccdmaaDoor
open Go.RowKit
set_option linter.unusedVariables false
set_option linter.unusedSimpArgs false

/-! Plain facts -/
theorem xor_move (a b c : Nat) : a ^^^ b ^^^ c = a ^^^ c ^^^ b := by rw [Nat.xor_assoc, Nat.xor_comm b c, ← Nat.xor_assoc]
theorem xor_lc (a b c : Nat) : a ^^^ (b ^^^ c) = b ^^^ (a ^^^ c) := by rw [← Nat.xor_assoc, Nat.xor_comm a b, Nat.xor_assoc]
theorem xor_same (a b : Nat) : a ^^^ b ^^^ b = a := by rw [Nat.xor_assoc, Nat.xor_self, Nat.xor_zero]
theorem bF_set (z : List Int) (q : Nat) (v : Int) (hq : q < z.length) : ∀ k, bF (z.set q v) k = if q < k then bF z k ^^^ pieceK q (at8 z q) ^^^ pieceK q v else bF z k
  | 0 => by rw [if_neg (by omega)]; rfl
  | k + 1 => by
    rw [show bF (z.set q v) (k + 1) = bF (z.set q v) k ^^^ pieceK k (at8 (z.set q v) k) from rfl, bF_set z q v hq k, at8_set z q v k hq, show bF z (k + 1) = bF z k ^^^ pieceK k (at8 z k) from rfl]
    by_cases h : q < k
    · rw [if_pos h, if_neg (show ¬ k = q by omega), if_pos (show q < k + 1 by omega), xor_move _ (pieceK q v), xor_move _ (pieceK q (at8 z q))]
    · rw [if_neg h]
      by_cases e : k = q
      · subst e
        rw [if_pos rfl, if_pos (show k < k + 1 by omega), xor_same]
      · rw [if_neg e, if_neg (show ¬ q < k + 1 by omega)]
theorem hF_setB (z : List Int) (q : Nat) (v : Int) (hq : q < 81) (hz : z.length = 98) : ∀ k, hF (z.set q v) k = hF z k ^^^ pieceK q (at8 z q) ^^^ pieceK q v
  | 0 => by
    show bF (z.set q v) 81 = bF z 81 ^^^ _ ^^^ _
    rw [bF_set z q v (by omega), if_pos hq]
  | k + 1 => by
    rw [show hF (z.set q v) (k + 1) = hF (z.set q v) k ^^^ handK ((k / 8 : Nat) : Int) ((k % 8 : Nat) : Int) (at8 (z.set q v) (81 + k)) from rfl, hF_setB z q v hq hz k, at8_set z q v _ (by omega), if_neg (by omega), show hF z (k + 1) = hF z k ^^^ handK ((k / 8 : Nat) : Int) ((k % 8 : Nat) : Int) (at8 z (81 + k)) from rfl, xor_move _ (pieceK q v), xor_move _ (pieceK q (at8 z q))]
theorem hF_setH (z : List Int) (m : Nat) (v : Int) (hm : m < 16) (hz : z.length = 98) : ∀ k, hF (z.set (81 + m) v) k = if m < k then hF z k ^^^ handK ((m / 8 : Nat) : Int) ((m % 8 : Nat) : Int) (at8 z (81 + m)) ^^^ handK ((m / 8 : Nat) : Int) ((m % 8 : Nat) : Int) v else hF z k
  | 0 => by
    rw [if_neg (by omega)]
    show bF (z.set (81 + m) v) 81 = bF z 81
    rw [bF_set z _ v (by omega), if_neg (by omega)]
  | k + 1 => by
    rw [show hF (z.set (81 + m) v) (k + 1) = hF (z.set (81 + m) v) k ^^^ handK ((k / 8 : Nat) : Int) ((k % 8 : Nat) : Int) (at8 (z.set (81 + m) v) (81 + k)) from rfl, hF_setH z m v hm hz k, at8_set z _ v _ (by omega), show hF z (k + 1) = hF z k ^^^ handK ((k / 8 : Nat) : Int) ((k % 8 : Nat) : Int) (at8 z (81 + k)) from rfl]
    by_cases h : m < k
    · rw [if_pos h, if_neg (show ¬ 81 + k = 81 + m by omega), if_pos (show m < k + 1 by omega), xor_move _ (handK ((m / 8 : Nat) : Int) ((m % 8 : Nat) : Int) v), xor_move _ (handK ((m / 8 : Nat) : Int) ((m % 8 : Nat) : Int) (at8 z (81 + m)))]
    · rw [if_neg h]
      by_cases e : k = m
      · subst e
        rw [if_pos rfl, if_pos (show k < k + 1 by omega), xor_same]
      · rw [if_neg (show ¬ 81 + k = 81 + m by omega), if_neg (show ¬ m < k + 1 by omega)]
theorem hF_set97 (z : List Int) (v : Int) (hz : z.length = 98) : ∀ k, k ≤ 16 → hF (z.set 97 v) k = hF z k
  | 0, _ => by
    show bF (z.set 97 v) 81 = bF z 81
    rw [bF_set z _ v (by omega), if_neg (by omega)]
  | k + 1, hk => by
    rw [show hF (z.set 97 v) (k + 1) = hF (z.set 97 v) k ^^^ handK ((k / 8 : Nat) : Int) ((k % 8 : Nat) : Int) (at8 (z.set 97 v) (81 + k)) from rfl, hF_set97 z v hz k (by omega), at8_set z _ v _ (by omega), if_neg (by omega)]
    rfl
/-- WITH ONE PIECE ON ANOTHER SQUARE. -/
theorem ofK_setB (z : List Int) (q : Nat) (v : Int) (hq : q < 81) (hz : z.length = 98) : ofK (z.set q v) = ofK z ^^^ pieceK q (at8 z q) ^^^ pieceK q v := by
  unfold ofK
  rw [at8_set z q v 97 (by omega), if_neg (show ¬ 97 = q by omega), hF_setB z q v hq hz]
  by_cases h : at8 z 97 = 1
  · rw [if_pos h, if_pos h]
    simp only [Nat.xor_assoc, Nat.xor_comm, xor_lc]
  · rw [if_neg h, if_neg h]
/-- WITH ANOTHER COUNT IN HAND. -/
theorem ofK_setH (z : List Int) (s k : Nat) (v : Int) (hs : s < 2) (hk : k < 8) (hz : z.length = 98) : ofK (z.set (81 + s * 8 + k) v) = ofK z ^^^ handK s k (at8 z (81 + s * 8 + k)) ^^^ handK s k v := by
  have e : 81 + s * 8 + k = 81 + (8 * s + k) := by omega
  rw [e]
  unfold ofK
  rw [at8_set z _ v 97 (by omega), if_neg (show ¬ 97 = 81 + (8 * s + k) by omega), hF_setH z (8 * s + k) v (by omega) hz, if_pos (show 8 * s + k < 16 by omega), show (8 * s + k) / 8 = s by omega, show (8 * s + k) % 8 = k by omega]
  by_cases h : at8 z 97 = 1
  · rw [if_pos h, if_pos h]
    simp only [Nat.xor_assoc, Nat.xor_comm, xor_lc]
  · rw [if_neg h, if_neg h]
/-- WHEN IT IS THE OTHER SIDE's TURN. -/
theorem ofK_turn (z : List Int) (v : Int) (hz : z.length = 98) (h : (at8 z 97 = 0 ∧ v = 1) ∨ (at8 z 97 = 1 ∧ v = 0)) : ofK (z.set 97 v) = ofK z ^^^ sideK := by
  unfold ofK
  rw [at8_set z _ v 97 (by omega), if_pos rfl, hF_set97 z v hz 16 (Nat.le_refl _)]
  rcases h with ⟨h, rfl⟩ | ⟨h, rfl⟩
  · rw [if_pos rfl, if_neg (by omega)]
  · rw [if_neg (by omega), if_pos h, xor_same]

end Go.Proofs.YtbopbekehccdmaaDoor
