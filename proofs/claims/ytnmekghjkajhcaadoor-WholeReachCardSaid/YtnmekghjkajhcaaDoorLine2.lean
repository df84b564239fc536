/-
  The reference's Between and Free.
-/
import Derived.Test.YtnmekghjkajhcaaDoorLine1
import Derived.Test.YtnmekghjkajhcaaDoorRegionInv
import Derived.Test.YtnmekghjkajhcaaDoorLists2
namespace Go.Proofs.YtnmekghjkajhcaaDoor
open Go.RowKit
set_option linter.unusedVariables false
set_option linter.unusedSimpArgs false

theorem sgn_bd (n : Int) : -1 ≤ sgnF n ∧ sgnF n ≤ 1 := by
  unfold sgnF
  repeat' split
  all_goals omega

theorem meas (a b d : Int) (m k : Nat) (hb : b = a + (m : Int) * d) (hd : d ≠ 0) (hk : k + 1 < m) : (b - (a + ((k : Int) + 1) * d + d)).natAbs < (b - (a + ((k : Int) + 1) * d)).natAbs := by
  obtain ⟨r, rfl⟩ : ∃ r, m = k + 2 + r := ⟨m - k - 2, by omega⟩
  have e1 : b - (a + ((k : Int) + 1) * d + d) = (r : Int) * d := by
    rw [hb, show ((k + 2 + r : Nat) : Int) = (k : Int) + 2 + r by omega, Int.add_mul, Int.add_mul, Int.add_mul]
    omega
  have e2 : b - (a + ((k : Int) + 1) * d) = ((r + 1 : Nat) : Int) * d := by
    rw [hb, show ((k + 2 + r : Nat) : Int) = (k : Int) + 2 + r by omega, show ((r + 1 : Nat) : Int) = (r : Int) + 1 by omega, Int.add_mul, Int.add_mul, Int.add_mul, Int.add_mul]
    omega
  rw [e1, e2, Int.natAbs_mul, Int.natAbs_mul]
  exact Nat.mul_lt_mul_of_pos_right (by omega) (by omega)
theorem next_eq (a b d : Int) (m k : Nat) (hb : b = a + (m : Int) * d) (hd : d ≠ 0) (hk : k < m) : a + ((k : Int) + 1) * d = b ↔ k + 1 = m := by
  constructor
  · intro h
    have h2 : ((k : Int) + 1 - m) * d = 0 := by
      rw [Int.sub_mul]
      omega
    rcases Int.mul_eq_zero.1 h2 with h3 | h3
    · omega
    · exact absurd h3 hd
  · intro h
    rw [hb, ← h]
    rfl
theorem next_bd (a d : Int) (k : Nat) (hk : k ≤ 8) (a0 : 0 ≤ a) (a1 : a ≤ 80) (d0 : -10 ≤ d) (d1 : d ≤ 10) : -100 ≤ a + ((k : Int) + 1) * d ∧ a + ((k : Int) + 1) * d ≤ 200 := by
  have h : k = 0 ∨ k = 1 ∨ k = 2 ∨ k = 3 ∨ k = 4 ∨ k = 5 ∨ k = 6 ∨ k = 7 ∨ k = 8 := by omega
  rcases h with rfl | rfl | rfl | rfl | rfl | rfl | rfl | rfl | rfl <;> omega

/-- The array of a set of squares, in a box. -/
theorem boxA_cell (w : World) (A : Array Value) (t : TypeId) (j : Nat) (v : Value) (h : A[j]? = some v) : (w.alloc (.cells A t)).cell? ⟨w.heap.size, j, none⟩ = some v := by
  have e : (w.alloc (.cells A t)).heap[w.heap.size]? = some (.cells A t) := heap_alloc_new w _
  unfold World.cell?
  simp only [e]
  simpa using h
theorem between_in (a b : Int) : ∀ u ∈ betweenL a b, 0 ≤ u ∧ u < 81 := by
  intro u hu
  by_cases hl : lineF a b = 0
  · unfold betweenL at hu
    rw [if_pos hl] at hu
    cases hu
  · obtain ⟨⟨a0, a1, b0, b1⟩, -⟩ := line_dist a b hl
    have hok := path_in a.toNat (by omega) b.toNat (by omega)
    rw [show ((a.toNat : Nat) : Int) = a by omega, show ((b.toNat : Nat) : Int) = b by omega] at hok
    rcases hok with h | ⟨hm, he, -⟩
    · exact absurd h hl
    · have hp := path_ok a.toNat (by omega) (dirF a b) he
      rw [show ((a.toNat : Nat) : Int) = a by omega] at hp
      have key : ∀ (l pre : List Int), okPath a (dirF a b) pre l = true → (∀ v ∈ l, 0 ≤ v ∧ v < 81) → (∀ v ∈ pre, 0 ≤ v ∧ v < 81) → b ∈ l → ∀ v ∈ betweenL a b, 0 ≤ v ∧ v < 81 := by
        intro l
        induction l with
        | nil => intro pre _ _ _ hb; cases hb
        | cons x l ih =>
          intro pre hok hl2 hpre hb v hv
          obtain ⟨h1, h2, h3, h4⟩ := ok_head hok
          rcases List.mem_cons.1 hb with rfl | hb
          · rw [h3] at hv
            exact hpre v hv
          · exact ih (pre ++ [x]) h4 (fun v hv => hl2 v (List.mem_cons_of_mem _ hv)) (fun v hv => by
              rcases List.mem_append.1 hv with h5 | h5
              · exact hpre v h5
              · rw [List.mem_singleton.1 h5]; exact hl2 x List.mem_cons_self) hb v hv
      refine key _ [] hp ?_ (fun v hv => by cases hv) hm u hu
      intro v hv
      have : wayL 0 (dirF a b) 9 (fromF (dirF a b) a) = pathL (dirF a b) 9 (fromF (dirF a b) a) := by
        have cz : ∀ l : List Int, cutL 0 l = l := by
          intro l
          induction l with
          | nil => rfl
          | cons x l ih => unfold cutL; rw [Nat.zero_testBit, if_neg (by decide), ih]
        rw [way_cut, cz]
      rw [← this] at hv
      have hne := eight_ne _ he
      have hsm : I64 (dirF a b).1 ∧ I64 (dirF a b).2 := by
        have := sgn_bd (b / 9 - a / 9)
        have := sgn_bd (b % 9 - a % 9)
        unfold I64 dirF
        omega
      have hw := from_where (dirF a b) a hsm.1 hsm.2
      have := wayL_mem 0 (dirF a b) hsm.1 hsm.2 hne 9 _ (by omega) v hv
      exact ⟨this.1, this.2.1⟩

end Go.Proofs.YtnmekghjkajhcaaDoor
