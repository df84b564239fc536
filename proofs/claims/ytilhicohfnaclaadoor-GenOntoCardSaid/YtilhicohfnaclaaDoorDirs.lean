/-
  Ways and steps as plain functions on numbers (no program is named here): the ways of Black's pieces, a way turned about, the square to which a way leads, and the document's answer by how far two squares are apart.
-/
import Derived.Test.YtilhicohfnaclaaDoorListAll
import Derived.Test.YtilhicohfnaclaaDoorFns
namespace Go.Proofs.YtilhicohfnaclaaDoor
open Go.RowKit

def straightL : List (Int × Int) := [(0, -1), (-1, 0), (1, 0), (0, 1)]
def aslantL : List (Int × Int) := [(-1, -1), (1, -1), (-1, 1), (1, 1)]
def dirsL (k : Int) : List (Int × Int) :=
  if k = 1 then [(0, -1)] else if k = 3 then [(-1, -2), (1, -2)] else if k = 4 then aslantL ++ [(0, -1)]
  else if k = 5 ∨ k = 9 ∨ k = 10 ∨ k = 11 ∨ k = 12 then straightL ++ [(-1, -1), (1, -1)] else if k = 8 then straightL ++ aslantL else if k = 14 then straightL else if k = 15 then aslantL else []
def turnF (s : Int) (d : Int × Int) : Int × Int := if s = 1 then (wrap64 (-d.1), wrap64 (-d.2)) else d
def fromF (d : Int × Int) (q : Int) : Int := if 0 ≤ q ∧ q < 81 then squareF (wrap64 (q / 9 + d.1)) (wrap64 (q % 9 + d.2)) else -1
def stepN (p q : Int) : Nat := ofN ((dirsL (kindF p)).map fun d => fromF (turnF (sideF p) d) q)

def sizeF (n : Int) : Int := if n < 0 then -n else n
/-- The document's answer, by how many files aside and how many ranks ahead. -/
def kindStep (k f u : Int) : Bool :=
  if k = 1 then decide (f = 0 ∧ u = 1) else if k = 3 then decide (f = 1 ∧ u = 2)
  else if k = 4 then decide ((f ≤ 1 ∧ sizeF u ≤ 1) ∧ (u = 1 ∨ f = 1 ∧ u = -1))
  else if k = 5 ∨ k = 9 ∨ k = 10 ∨ k = 11 ∨ k = 12 then decide ((f ≤ 1 ∧ sizeF u ≤ 1) ∧ (0 ≤ u ∨ f = 0))
  else if k = 8 then decide (f ≤ 1 ∧ sizeF u ≤ 1)
  else if k = 14 then decide ((f ≤ 1 ∧ sizeF u ≤ 1) ∧ (f = 0 ∨ u = 0))
  else if k = 15 then decide ((f ≤ 1 ∧ sizeF u ≤ 1) ∧ f = 1 ∧ u ≠ 0) else false
def aheadF (s q t : Int) : Int := if s = 1 then -(q % 9 - t % 9) else q % 9 - t % 9
def refStepF (p q t : Int) : Bool :=
  if q < 0 ∨ 80 < q ∨ t < 0 ∨ 80 < t ∨ q = t then false else kindStep (kindF p) (sizeF (t / 9 - q / 9)) (aheadF (sideF p) q t)

theorem mem_dirs (k F R : Int) (h0 : ¬ (F = 0 ∧ R = 0)) : (F, R) ∈ dirsL k ↔ kindStep k (sizeF F) (-R) = true := by
  unfold dirsL kindStep
  have e0 : ∀ f : Int, sizeF f = if f < 0 then -f else f := fun _ => rfl
  repeat' split
  all_goals simp only [straightL, aslantL, List.cons_append, List.nil_append, List.mem_cons, List.not_mem_nil, Prod.mk.injEq, or_false, decide_eq_true_eq, e0, reduceCtorEq]
  all_goals (repeat' split)
  all_goals omega

theorem fromF_eq (d : Int × Int) (q t : Int) (hq : 0 ≤ q ∧ q < 81) (ht : 0 ≤ t ∧ t < 81) (h1 : -100 ≤ d.1 ∧ d.1 ≤ 100) (h2 : -100 ≤ d.2 ∧ d.2 ≤ 100) : fromF d q = t ↔ (t / 9 - q / 9 = d.1 ∧ t % 9 - q % 9 = d.2) := by
  unfold fromF squareF
  rw [if_pos hq]
  have w1 : wrap64 (q / 9 + d.1) = q / 9 + d.1 := by unfold wrap64; omega
  have w2 : wrap64 (q % 9 + d.2) = q % 9 + d.2 := by unfold wrap64; omega
  rw [w1, w2]
  split <;> omega
theorem dirs_small (k : Int) : ∀ d ∈ dirsL k, (-2 ≤ d.1 ∧ d.1 ≤ 2) ∧ (-2 ≤ d.2 ∧ d.2 ≤ 2) := by
  unfold dirsL
  repeat' split
  all_goals decide
theorem turn_small (s : Int) (d : Int × Int) (h : (-2 ≤ d.1 ∧ d.1 ≤ 2) ∧ (-2 ≤ d.2 ∧ d.2 ≤ 2)) : turnF s d = if s = 1 then (-d.1, -d.2) else d := by
  unfold turnF
  have w1 : wrap64 (-d.1) = -d.1 := by unfold wrap64; omega
  have w2 : wrap64 (-d.2) = -d.2 := by unfold wrap64; omega
  rw [w1, w2]

/-- WHAT A PIECE STEPS TO IS THE DOCUMENT's ANSWER. -/
theorem stepN_test (p q : Int) (i : Nat) (hi : i < 81) : (stepN p q).testBit i = refStepF p q i := by
  unfold stepN
  rw [ofN_test, Bool.eq_iff_iff]
  simp only [decide_eq_true_eq, List.mem_map]
  unfold refStepF
  by_cases hq : 0 ≤ q ∧ q < 81
  · by_cases he : q = i
    · rw [if_pos (by omega)]
      simp only [reduceCtorEq, iff_false]
      rintro ⟨⟨d, hd, h⟩, -⟩
      have hs := dirs_small _ d hd
      have h2 := (fromF_eq (turnF (sideF p) d) q i hq (by omega) (by rw [turn_small _ _ hs]; split <;> first | (simp; omega) | omega) (by rw [turn_small _ _ hs]; split <;> first | (simp; omega) | omega)).1 h
      rw [turn_small _ _ hs] at h2
      have hn : ¬ (d.1 = 0 ∧ d.2 = 0) := by
        rintro ⟨h3, h4⟩
        have : ∀ k, (0, 0) ∉ dirsL k := by
          intro k
          unfold dirsL
          repeat' split
          all_goals decide
        have hdd : d = (0, 0) := Prod.ext h3 h4
        exact this _ (hdd ▸ hd)
      revert h2
      split <;> simp <;> omega
    · rw [if_neg (by omega)]
      have key : (∃ a, a ∈ dirsL (kindF p) ∧ fromF (turnF (sideF p) a) q = i) ↔ ((if sideF p = 1 then (-(((i : Int) / 9 - q / 9)), -((i : Int) % 9 - q % 9)) else ((i : Int) / 9 - q / 9, (i : Int) % 9 - q % 9)) ∈ dirsL (kindF p)) := by
        constructor
        · rintro ⟨d, hd, h⟩
          have hs := dirs_small _ d hd
          have h2 := (fromF_eq (turnF (sideF p) d) q i hq (by omega) (by rw [turn_small _ _ hs]; split <;> first | (simp; omega) | omega) (by rw [turn_small _ _ hs]; split <;> first | (simp; omega) | omega)).1 h
          rw [turn_small _ _ hs] at h2
          have e : (if sideF p = 1 then (-(((i : Int) / 9 - q / 9)), -((i : Int) % 9 - q % 9)) else ((i : Int) / 9 - q / 9, (i : Int) % 9 - q % 9)) = d := by
            revert h2
            split
            · simp only
              rintro ⟨a, b⟩
              exact Prod.ext (by simp only; omega) (by simp only; omega)
            · rintro ⟨a, b⟩
              exact Prod.ext a b
          rw [e]
          exact hd
        · intro hd
          refine ⟨_, hd, ?_⟩
          have hs := dirs_small _ _ hd
          refine (fromF_eq _ q i hq (by omega) (by rw [turn_small _ _ hs]; revert hs; split <;> first | (simp; omega) | omega) (by rw [turn_small _ _ hs]; revert hs; split <;> first | (simp; omega) | omega)).2 ?_
          rw [turn_small _ _ hs]
          split <;> simp
      constructor
      · rintro ⟨h, -⟩
        have hm := key.1 h
        unfold aheadF
        revert hm
        split
        · intro hm
          have := (mem_dirs _ _ _ (by omega)).1 hm
          have e1 : sizeF (-((i : Int) / 9 - q / 9)) = sizeF ((i : Int) / 9 - q / 9) := by unfold sizeF; split <;> split <;> omega
          rw [e1] at this
          have e2 : - -((i : Int) % 9 - q % 9) = -(q % 9 - (i : Int) % 9) := by omega
          rw [e2] at this
          exact this
        · intro hm
          have := (mem_dirs _ _ _ (by omega)).1 hm
          have e2 : -((i : Int) % 9 - q % 9) = q % 9 - (i : Int) % 9 := Int.neg_sub _ _
          rw [e2] at this
          exact this
      · intro h
        refine ⟨key.2 ?_, hi⟩
        clear key
        revert h
        unfold aheadF
        split
        · intro h
          refine (mem_dirs _ _ _ (by omega)).2 ?_
          have e1 : sizeF (-((i : Int) / 9 - q / 9)) = sizeF ((i : Int) / 9 - q / 9) := by unfold sizeF; split <;> split <;> omega
          have e2 : - -((i : Int) % 9 - q % 9) = -(q % 9 - (i : Int) % 9) := by omega
          rw [e1, e2]
          exact h
        · intro h
          refine (mem_dirs _ _ _ (by omega)).2 ?_
          have e2 : -((i : Int) % 9 - q % 9) = q % 9 - (i : Int) % 9 := Int.neg_sub _ _
          rw [e2]
          exact h
  · rw [if_pos (by omega)]
    simp only [reduceCtorEq, iff_false]
    rintro ⟨⟨d, hd, h⟩, -⟩
    unfold fromF at h
    rw [if_neg hq] at h
    omega
theorem stepN_sq (p q : Int) : Sq (stepN p q) := ofN_sq _
end Go.Proofs.YtilhicohfnaclaaDoor
