/-
  The reference's Kind, Side and Name of a piece: what they return for every number of a piece.
-/
import Derived.Test.YtpaelhhpaapgmaaSmall
namespace Go.Proofs.Ytpaelhhpaapgmaa
open Go.RowKit
set_option linter.unusedVariables false

theorem kindF_ref (n : Int) (h0 : 1 ≤ n) (h1 : n ≤ 31) (h13 : n ≠ 13) (h16 : n ≠ 16) (h29 : n ≠ 29) : kindF n = n % 16 ∧ sideF n = n / 16 := by
  have c : cutF n = if 16 ≤ n then n - 16 else n := rfl
  have r := rawF_cases (cutF n)
  unfold kindF sideF
  by_cases h : 16 ≤ n
  · rw [if_pos h] at c
    rw [if_neg (by omega), if_neg (by omega), if_pos h]
    omega
  · rw [if_neg h] at c
    rw [if_neg (by omega), if_neg (by omega), if_neg h]
    omega
theorem kindF_not (n : Int) (h : n < 1 ∨ 31 < n ∨ n = 13 ∨ n = 16 ∨ n = 29) : kindF n = 0 ∧ sideF n = -1 := by
  have c : cutF n = if 16 ≤ n then n - 16 else n := rfl
  have r := rawF_cases (cutF n)
  unfold kindF sideF
  have z : rawF (cutF n) = 0 := by
    split at c <;> omega
  rw [if_pos z, if_pos z]
  exact ⟨rfl, rfl⟩

theorem refKind_any (n : Int) (w : World) (h0 : -128 ≤ n) (h1 : n ≤ 127) : Calls Try.prog 13 #[.int .i64 n] w fun e w' => e = .returned (.int .i64 (kindF n)) ∧ w = w' := by
  by_cases h : n < 1 ∨ 31 < n ∨ n = 13 ∨ n = 16 ∨ n = 29
  · rw [(kindF_not n h).1]
    rcases h with h | h | rfl | rfl | rfl
    · go_enter Try.func13, Try.ntmps13
      go_wp2
      go_ret
      exact ⟨rfl, rfl⟩
    · go_enter Try.func13, Try.ntmps13
      go_wp2
      go_ret
      exact ⟨rfl, rfl⟩
    all_goals
      go_enter Try.func13, Try.ntmps13
      go_wp2
      go_ret
      exact ⟨rfl, rfl⟩
  · have a : 1 ≤ n := by omega
    have b : n ≤ 31 := by omega
    rw [(kindF_ref n a b (by omega) (by omega) (by omega)).1]
    have e13 : (n == 13) = false := by simp; omega
    have e16 : (n == 16) = false := by simp; omega
    have e29 : (n == 29) = false := by simp; omega
    clear h h0 h1
    go_enter Try.func13, Try.ntmps13
    go_wp2
    go_ret
    exact ⟨rfl, rfl⟩

theorem refSide_any (n : Int) (w : World) (h0 : -128 ≤ n) (h1 : n ≤ 127) : Calls Try.prog 14 #[.int .i64 n] w fun e w' => e = .returned (.int .i64 (sideF n)) ∧ w = w' := by
  have K := Lib.hid (fun W => refKind_any n W h0 h1)
  by_cases h : n < 1 ∨ 31 < n ∨ n = 13 ∨ n = 16 ∨ n = 29
  · rw [(kindF_not n h).2]
    rw [(kindF_not n h).1] at K
    clear h
    go_enter Try.func14, Try.ntmps14
    go_wp2_with (go_at_call 13; refine (K.out _).mono ?_; rintro e w' ⟨rfl, rfl⟩)
    go_ret
    exact ⟨rfl, rfl⟩
  · have a : 1 ≤ n := by omega
    have b : n ≤ 31 := by omega
    have e := kindF_ref n a b (by omega) (by omega) (by omega)
    rw [e.2]
    have hz : (kindF n == 0) = false := by rw [e.1]; simp; omega
    clear h h0 h1 e
    generalize kindF n = k at K hz
    go_enter Try.func14, Try.ntmps14
    go_wp2_with (go_at_call 13; refine (K.out _).mono ?_; rintro e w' ⟨rfl, rfl⟩)
    go_ret
    exact ⟨rfl, rfl⟩

def letL : List ByteArray := [⟨#[]⟩, ⟨#[80]⟩, ⟨#[76]⟩, ⟨#[78]⟩, ⟨#[83]⟩, ⟨#[71]⟩, ⟨#[66]⟩, ⟨#[82]⟩, ⟨#[75]⟩, ⟨#[43, 80]⟩, ⟨#[43, 76]⟩, ⟨#[43, 78]⟩, ⟨#[43, 83]⟩, ⟨#[]⟩, ⟨#[43, 66]⟩, ⟨#[43, 82]⟩]
def letB (k : Nat) : ByteArray := letL.getD k ⟨#[]⟩
def letA : Array Value := (letL.map Value.string).toArray
theorem letters2_any (w : World) : Calls Try.prog 32 #[] w fun e w' => e = .returned (.slice (some ⟨w.heap.size, 0, none⟩) 16 16) ∧ w' = w.alloc (.cells letA 9) := by
  go_enter Try.func32, Try.ntmps32
  go_wp2
  go_ret
  exact ⟨rfl, rfl⟩
theorem letA_cell (w : World) (k : Nat) (hk : k < 16) : (w.alloc (.cells letA 9)).cell? ⟨w.heap.size, k, none⟩ = some (.string (letB k)) := by
  rw [cell_of_row _ w.heap.size k letA 9 (0, 0) (heap_alloc_new w _)]
  obtain rfl | rfl | rfl | rfl | rfl | rfl | rfl | rfl | rfl | rfl | rfl | rfl | rfl | rfl | rfl | rfl : k = 0 ∨ k = 1 ∨ k = 2 ∨ k = 3 ∨ k = 4 ∨ k = 5 ∨ k = 6 ∨ k = 7 ∨ k = 8 ∨ k = 9 ∨ k = 10 ∨ k = 11 ∨ k = 12 ∨ k = 13 ∨ k = 14 ∨ k = 15 := by omega
  all_goals rfl
theorem letB_name (k : Nat) (h : k < 16) : nameF k = letB k := by
  obtain rfl | rfl | rfl | rfl | rfl | rfl | rfl | rfl | rfl | rfl | rfl | rfl | rfl | rfl | rfl | rfl : k = 0 ∨ k = 1 ∨ k = 2 ∨ k = 3 ∨ k = 4 ∨ k = 5 ∨ k = 6 ∨ k = 7 ∨ k = 8 ∨ k = 9 ∨ k = 10 ∨ k = 11 ∨ k = 12 ∨ k = 13 ∨ k = 14 ∨ k = 15 := by omega
  all_goals decide +kernel
theorem letB_small (k : Nat) (h : k < 16) : nameF ((k : Int) + 16) = smallP (letB k) (letB k).size := by
  obtain rfl | rfl | rfl | rfl | rfl | rfl | rfl | rfl | rfl | rfl | rfl | rfl | rfl | rfl | rfl | rfl : k = 0 ∨ k = 1 ∨ k = 2 ∨ k = 3 ∨ k = 4 ∨ k = 5 ∨ k = 6 ∨ k = 7 ∨ k = 8 ∨ k = 9 ∨ k = 10 ∨ k = 11 ∨ k = 12 ∨ k = 13 ∨ k = 14 ∨ k = 15 := by omega
  all_goals decide +kernel
theorem letB_size (k : Nat) (h : k < 16) : (letB k).size ≤ 2 := by
  obtain rfl | rfl | rfl | rfl | rfl | rfl | rfl | rfl | rfl | rfl | rfl | rfl | rfl | rfl | rfl | rfl : k = 0 ∨ k = 1 ∨ k = 2 ∨ k = 3 ∨ k = 4 ∨ k = 5 ∨ k = 6 ∨ k = 7 ∨ k = 8 ∨ k = 9 ∨ k = 10 ∨ k = 11 ∨ k = 12 ∨ k = 13 ∨ k = 14 ∨ k = 15 := by omega
  all_goals decide +kernel

theorem refName_any (n : Int) (w : World) (h0 : -128 ≤ n) (h1 : n ≤ 127) :
    Calls Try.prog 16 #[.int .i64 n] w fun e w' => e = .returned (.string (nameF n)) ∧ Below w.heap.size w w' := by
  by_cases h : 1 ≤ n ∧ n ≤ 15
  · obtain ⟨k, rfl⟩ : ∃ k : Nat, n = k := ⟨n.toNat, by omega⟩
    have hk : k < 16 := by omega
    rw [letB_name k hk]
    have hcell := letA_cell w k hk
    generalize letB k = b at hcell
    obtain ⟨ha, hb⟩ := h
    clear h0 h1
    go_enter Try.func16, Try.ntmps16
    go_wp2_with (go_at_call 32; refine (letters2_any _).mono ?_; rintro e w' ⟨rfl, rfl⟩)
    go_ret
    exact ⟨rfl, (Below.refl _ _).alloc (Nat.le_refl _) _⟩
  · by_cases h2 : 17 ≤ n ∧ n ≤ 31
    · obtain ⟨k, rfl⟩ : ∃ k : Nat, n = (k : Int) + 16 := ⟨(n - 16).toNat, by omega⟩
      have hk : k < 16 := by omega
      rw [letB_small k hk]
      have hcell := letA_cell w k hk
      have S := Lib.hid (fun W => small_any (letB k) W (by have := letB_size k hk; omega))
      generalize letB k = b at hcell S
      have c1 : ¬ (k : Int) + 16 ≤ 15 := by omega
      have c2 : 17 ≤ (k : Int) + 16 := by omega
      have c3 : (k : Int) + 16 ≤ 31 := by omega
      have c4 : 1 ≤ (k : Int) + 16 := by omega
      clear h h2 h0 h1
      go_enter Try.func16, Try.ntmps16
      go_wp2_with (first | (go_at_call 32; refine (letters2_any _).mono ?_; rintro e w' ⟨rfl, rfl⟩) | (go_at_call 28; refine (S.out _).mono ?_; rintro e w' ⟨rfl, hB⟩))
      go_ret
      exact ⟨rfl, ((Below.refl _ _).alloc (Nat.le_refl _) _).trans (hB.mono (by simp))⟩
    · have e : nameF n = ⟨#[]⟩ := by
        by_cases h16 : n = 16
        · subst h16; decide +kernel
        · exact if_pos (kindF_not n (by omega)).1
      rw [e]
      clear e
      by_cases a1 : n < 1
      · clear h h2
        go_enter Try.func16, Try.ntmps16
        go_wp2_with (go_at_call 32; refine (letters2_any _).mono ?_; rintro e w' ⟨rfl, rfl⟩)
        go_ret
        exact ⟨rfl, (Below.refl _ _).alloc (Nat.le_refl _) _⟩
      · by_cases a2 : n = 16
        · subst a2
          clear h h2
          go_enter Try.func16, Try.ntmps16
          go_wp2_with (go_at_call 32; refine (letters2_any _).mono ?_; rintro e w' ⟨rfl, rfl⟩)
          go_ret
          exact ⟨rfl, (Below.refl _ _).alloc (Nat.le_refl _) _⟩
        · have a3 : 31 < n := by omega
          clear h h2 a2 a1
          go_enter Try.func16, Try.ntmps16
          go_wp2_with (go_at_call 32; refine (letters2_any _).mono ?_; rintro e w' ⟨rfl, rfl⟩)
          go_ret
          exact ⟨rfl, (Below.refl _ _).alloc (Nat.le_refl _) _⟩
end Go.Proofs.Ytpaelhhpaapgmaa
