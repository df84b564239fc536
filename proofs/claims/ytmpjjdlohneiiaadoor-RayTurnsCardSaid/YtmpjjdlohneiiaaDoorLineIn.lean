/-
  A plain fact on ways (no program is named here): what lies between two squares are squares.
-/
import Derived.Test.YtmpjjdlohneiiaaDoorLine
namespace Go.Proofs.YtmpjjdlohneiiaaDoor
open Go.RowKit
set_option linter.unusedVariables false
set_option linter.unusedSimpArgs false

theorem line_rng (a b : Int) (h : lineF a b ≠ 0) : 0 ≤ a ∧ a ≤ 80 ∧ 0 ≤ b ∧ b ≤ 80 := by
  unfold lineF at h
  by_cases hc : a < 0 ∨ 80 < a ∨ b < 0 ∨ 80 < b ∨ a = b
  · rw [if_pos hc] at h
    exact absurd rfl h
  · omega
theorem sgn_rng (n : Int) : -1 ≤ sgnF n ∧ sgnF n ≤ 1 := by
  unfold sgnF
  repeat' split
  all_goals omega
theorem between_inside (a b : Int) : ∀ u ∈ betweenL a b, 0 ≤ u ∧ u < 81 := by
  intro u hu
  by_cases hl : lineF a b = 0
  · unfold betweenL at hu
    rw [if_pos hl] at hu
    cases hu
  · obtain ⟨a0, a1, b0, b1⟩ := line_rng a b hl
    have hok := path_in a.toNat (by omega) b.toNat (by omega)
    rw [show ((a.toNat : Nat) : Int) = a by omega, show ((b.toNat : Nat) : Int) = b by omega] at hok
    rcases hok with h | ⟨hm, he, -⟩
    · exact absurd h hl
    · have hp := path_ok a.toNat (by omega) (dirF a b) he
      rw [show ((a.toNat : Nat) : Int) = a by omega] at hp
      have key : ∀ (l pre : List Int), okPath a (dirF a b) pre l = true → (∀ v ∈ l, 0 ≤ v ∧ v < 81) → (∀ v ∈ pre, 0 ≤ v ∧ v < 81) → b ∈ l → ∀ v ∈ betweenL a b, 0 ≤ v ∧ v < 81 := by
        intro l
        induction l with
        | nil => intro pre _ _ _ hb; cases hb
        | cons x l ih =>
          intro pre hok hl2 hpre hb v hv
          obtain ⟨h1, h2, h3, h4⟩ := ok_head hok
          rcases List.mem_cons.1 hb with rfl | hb
          · rw [h3] at hv
            exact hpre v hv
          · exact ih (pre ++ [x]) h4 (fun v hv => hl2 v (List.mem_cons_of_mem _ hv)) (fun v hv => by
              rcases List.mem_append.1 hv with h5 | h5
              · exact hpre v h5
              · rw [List.mem_singleton.1 h5]; exact hl2 x List.mem_cons_self) hb v hv
      refine key _ [] hp ?_ (fun v hv => by cases hv) hm u hu
      intro v hv
      have : wayL 0 (dirF a b) 9 (fromF (dirF a b) a) = pathL (dirF a b) 9 (fromF (dirF a b) a) := by
        have cz : ∀ l : List Int, cutL 0 l = l := by
          intro l
          induction l with
          | nil => rfl
          | cons x l ih => unfold cutL; rw [Nat.zero_testBit, if_neg (by decide), ih]
        rw [way_cut, cz]
      rw [← this] at hv
      have hne := eight_ne _ he
      have hsm : I64 (dirF a b).1 ∧ I64 (dirF a b).2 := by
        have := sgn_rng (b / 9 - a / 9)
        have := sgn_rng (b % 9 - a % 9)
        unfold I64 dirF
        omega
      have hw := from_where (dirF a b) a hsm.1 hsm.2
      have := wayL_mem 0 (dirF a b) hsm.1 hsm.2 hne 9 _ (by omega) v hv
      exact ⟨this.1, this.2.1⟩
end Go.Proofs.YtmpjjdlohneiiaaDoor
