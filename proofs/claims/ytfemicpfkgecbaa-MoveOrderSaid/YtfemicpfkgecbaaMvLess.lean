/-
  The reference's Less of moves; what the order is.
-/
import Derived.Test.YtfemicpfkgecbaaMvOrd
namespace Go.Proofs.Ytfemicpfkgecbaa
open Go.RowKit
set_option linter.unusedVariables false
set_option linter.unusedSimpArgs false

theorem mv_eq (f t d : Int) (p : Bool) (f' t' d' : Int) (p' : Bool) (W : World) :
    (Op.equalIn 10000 23 (.agg #[.int .i64 f, .int .i64 t, .int .i64 d, .bool p]) (.agg #[.int .i64 f', .int .i64 t', .int .i64 d', .bool p'])).run Try.prog W = .ok (f == f' && (t == t' && (d == d' && p == p'))) W := by
  generalize h1 : (f == f') = x
  generalize h2 : (t == t') = y
  generalize h3 : (d == d') = z
  generalize h4 : (p == p') = u
  cases x <;> cases y <;> cases z <;> cases u <;> go_simp
def lessM (f t d : Int) (p : Bool) (f' t' d' : Int) (p' : Bool) : Bool :=
  if d = d' then (if f = f' then (if t = t' then (!p && p') else decide (t < t')) else decide (f < f')) else decide (d < d')
theorem ord_spec (f t d : Int) (p : Bool) (f' t' d' : Int) (p' : Bool) :
    (ordM f t d p f' t' d' p' = -1 ∧ (d < d' ∨ (d = d' ∧ (f < f' ∨ (f = f' ∧ (t < t' ∨ (t = t' ∧ rankP p < rankP p'))))))) ∨
    (ordM f t d p f' t' d' p' = 0 ∧ d = d' ∧ f = f' ∧ t = t' ∧ rankP p = rankP p') ∨
    (ordM f t d p f' t' d' p' = 1 ∧ (d' < d ∨ (d = d' ∧ (f' < f ∨ (f = f' ∧ (t' < t ∨ (t = t' ∧ rankP p' < rankP p))))))) := by
  unfold ordM
  generalize rankP p = r
  generalize rankP p' = r'
  have c : ∀ x y : Int, (cmpI x y = -1 ∧ x < y) ∨ (cmpI x y = 0 ∧ x = y) ∨ (cmpI x y = 1 ∧ y < x) := fun x y => by
    unfold cmpI
    split
    · left; exact ⟨rfl, by assumption⟩
    · split
      · right; right; exact ⟨rfl, by assumption⟩
      · right; left; exact ⟨rfl, by omega⟩
  have n : ∀ o x y : Int, (o = 0 ∧ nextO o x y = cmpI x y) ∨ (o ≠ 0 ∧ nextO o x y = o) := fun o x y => by
    unfold nextO
    by_cases h : o = 0
    · left; exact ⟨h, if_pos h⟩
    · right; exact ⟨h, if_neg h⟩
  have n1 := n 0 d d'
  have c1 := c d d'
  have n2 := n (nextO 0 d d') f f'
  have c2 := c f f'
  have n3 := n (nextO (nextO 0 d d') f f') t t'
  have c3 := c t t'
  have n4 := n (nextO (nextO (nextO 0 d d') f f') t t') r r'
  have c4 := c r r'
  clear n c
  generalize nextO (nextO (nextO (nextO 0 d d') f f') t t') r r' = o4 at *
  generalize nextO (nextO (nextO 0 d d') f f') t t' = o3 at *
  generalize nextO (nextO 0 d d') f f' = o2 at *
  generalize nextO 0 d d' = o1 at *
  generalize cmpI d d' = e1 at *
  generalize cmpI f f' = e2 at *
  generalize cmpI t t' = e3 at *
  generalize cmpI r r' = e4 at *
  omega
theorem rank_lt (p p' : Bool) : (!p && p') = decide (rankP p < rankP p') := by cases p <;> cases p' <;> rfl
theorem less_spec (f t d : Int) (p : Bool) (f' t' d' : Int) (p' : Bool) :
    lessM f t d p f' t' d' p' = decide (d < d' ∨ (d = d' ∧ (f < f' ∨ (f = f' ∧ (t < t' ∨ (t = t' ∧ rankP p < rankP p')))))) := by
  unfold lessM
  rw [rank_lt]
  rw [Bool.eq_iff_iff, decide_eq_true_eq]
  split
  · split
    · split
      · rw [decide_eq_true_eq]; omega
      · rw [decide_eq_true_eq]; omega
    · rw [decide_eq_true_eq]; omega
  · rw [decide_eq_true_eq]; omega
theorem rank_bd (p : Bool) : 0 ≤ rankP p ∧ rankP p ≤ 1 := by cases p <;> decide
theorem rank_inj {p p' : Bool} (h : rankP p = rankP p') : p = p' := by revert h; cases p <;> cases p' <;> decide
end Go.Proofs.Ytfemicpfkgecbaa
