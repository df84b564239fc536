/-
  The names of moves: what isSquare, Check, Square and Text return for every argument.
-/
import Derived.Test.YtbopbekehccdmaaDoorMoveMath
import Derived.Deep.RegionWith
import Derived.Deep.RegionHeld3
import Derived.Lib.Hide
namespace Go.Proofs.YtbopbekehccdmaaDoor
open Go.RowKit
set_option linter.unusedVariables false
set_option linter.unusedSimpArgs false

theorem full_one (q : Int) : (!decide (full &&& oneN q = 0)) = decide (0 ≤ q ∧ q < 81) := by
  unfold oneN
  by_cases h : 0 ≤ q ∧ q < 81
  · rw [if_pos h]
    have : ∀ n : Nat, n < 81 → ¬ (full &&& 2 ^ n = 0) := by decide +kernel
    rw [decide_eq_false (this q.toNat (by omega)), decide_eq_true h]
    rfl
  · rw [if_neg h, decide_eq_true (Nat.and_zero _), decide_eq_false h]
    rfl
theorem isq_any (q : Int) (w : World) : Calls Tryd.prog 112 #[.int .i64 q] w fun e w' => e = .returned (.bool (decide (0 ≤ q ∧ q < 81))) ∧ Below w.heap.size w w' := by
  have H := Lib.hid (fun W => has_any full q Sq.full W)
  rw [full_one] at H
  have A := Lib.hid all_any
  generalize loW full = x at A H
  generalize hiW full = y at A H
  generalize decide (0 ≤ q ∧ q < 81) = b at H
  go_enter Tryd.func112, Tryd.ntmps112
  go_wp2_with (first
    | (go_at_call 127; refine (A.out _).mono ?_; rintro e w1 ⟨rfl, hb1⟩)
    | (go_at_call 22; refine (H.out _).mono ?_; rintro e w2 ⟨rfl, hb2⟩))
  go_ret
  exact ⟨rfl, bthen hb1 hb2⟩

theorem checkDrop_any (f t d : Int) (p : Bool) (w : World) (ht : 0 ≤ t ∧ t < 81) (hd : ¬ d = 0) :
    Calls Tryd.prog 113 #[.agg #[.int .i64 f, .int .i64 t, .int .i64 d, .bool p]] w fun e w' => e = .returned (.int .i64 (checkM f t d p)) ∧ Below w.heap.size w w' := by
  have hv : checkM f t d p = if 1 ≤ d ∧ d ≤ 7 ∧ f = 0 ∧ p = false then 0 else 70 := by
    unfold checkM
    rw [if_pos ht, if_neg hd]
  rw [hv]
  clear hv ht hd
  by_cases h1 : d < 1
  · rw [if_neg (by omega)]
    go_enter Tryd.func113, Tryd.ntmps113
    go_wp2
    go_ret
    exact ⟨rfl, ball (bref w) _⟩
  · by_cases h7 : 7 < d
    · rw [if_neg (by omega)]
      go_enter Tryd.func113, Tryd.ntmps113
      go_wp2
      go_ret
      exact ⟨rfl, ball (bref w) _⟩
    · by_cases hf : f = 0
      · subst hf
        cases p
        · rw [if_pos ⟨by omega, by omega, rfl, rfl⟩]
          go_enter Tryd.func113, Tryd.ntmps113
          go_wp2
          go_ret
          exact ⟨rfl, ball (bref w) _⟩
        · rw [if_neg (by simp)]
          go_enter Tryd.func113, Tryd.ntmps113
          go_wp2
          go_ret
          exact ⟨rfl, ball (bref w) _⟩
      · rw [if_neg (by omega)]
        have b1 : (f != 0) = true := by simpa using hf
        clear hf
        go_enter Tryd.func113, Tryd.ntmps113
        go_wp2
        go_ret
        exact ⟨rfl, ball (bref w) _⟩

theorem check_mv (f t d : Int) (p : Bool) (w : World) :
    Calls Tryd.prog 87 #[.agg #[.int .i64 f, .int .i64 t, .int .i64 d, .bool p]] w fun e w' => e = .returned (.int .i64 (checkM f t d p)) ∧ Below w.heap.size w w' := by
  have T := Lib.hid (fun W => isq_any t W)
  by_cases ht : 0 ≤ t ∧ t < 81
  · rw [decide_eq_true ht] at T
    by_cases hd : d = 0
    · subst hd
      have F := Lib.hid (fun W => isq_any f W)
      by_cases hf : 0 ≤ f ∧ f < 81
      · rw [decide_eq_true hf] at F
        by_cases he : f = t
        · have hv : checkM f t 0 p = 70 := by unfold checkM; rw [if_pos ht, if_pos rfl, if_pos hf, if_pos he]
          rw [hv]
          have b1 : (f == t) = true := by simpa using he
          clear hv ht hf he
          go_enter Tryd.func87, Tryd.ntmps87
          go_wp2_with (first
            | (go_at_call_of 112 (Value.int .i64 t); refine (T.out _).mono ?_; rintro e w1 ⟨rfl, hb1⟩; obtain ⟨hc1, hf1⟩ := bcells hb1; have z1 : w.heap.size < w1.heap.size := by (have := hb1.size; simp at this; omega))
            | (go_at_call_of 112 (Value.int .i64 f); refine (F.out _).mono ?_; rintro e w2 ⟨rfl, hb2⟩; obtain ⟨hc2, hf2⟩ := bcells hb2; have z2 : w.heap.size < w2.heap.size := by (have := hb2.size; omega)))
          go_ret
          exact ⟨rfl, bthen (bthen (ball (bref w) _) hb1) hb2⟩
        · have hv : checkM f t 0 p = 0 := by unfold checkM; rw [if_pos ht, if_pos rfl, if_pos hf, if_neg he]
          rw [hv]
          have b1 : (f == t) = false := by simpa using he
          clear hv ht hf he
          go_enter Tryd.func87, Tryd.ntmps87
          go_wp2_with (first
            | (go_at_call_of 112 (Value.int .i64 t); refine (T.out _).mono ?_; rintro e w1 ⟨rfl, hb1⟩; obtain ⟨hc1, hf1⟩ := bcells hb1; have z1 : w.heap.size < w1.heap.size := by (have := hb1.size; simp at this; omega))
            | (go_at_call_of 112 (Value.int .i64 f); refine (F.out _).mono ?_; rintro e w2 ⟨rfl, hb2⟩; obtain ⟨hc2, hf2⟩ := bcells hb2; have z2 : w.heap.size < w2.heap.size := by (have := hb2.size; omega)))
          go_ret
          exact ⟨rfl, bthen (bthen (ball (bref w) _) hb1) hb2⟩
      · rw [decide_eq_false hf] at F
        have hv : checkM f t 0 p = 1 := by unfold checkM; rw [if_pos ht, if_pos rfl, if_neg hf]
        rw [hv]
        clear hv ht hf
        go_enter Tryd.func87, Tryd.ntmps87
        go_wp2_with (first
          | (go_at_call_of 112 (Value.int .i64 t); refine (T.out _).mono ?_; rintro e w1 ⟨rfl, hb1⟩; obtain ⟨hc1, hf1⟩ := bcells hb1; have z1 : w.heap.size < w1.heap.size := by (have := hb1.size; simp at this; omega))
          | (go_at_call_of 112 (Value.int .i64 f); refine (F.out _).mono ?_; rintro e w2 ⟨rfl, hb2⟩; obtain ⟨hc2, hf2⟩ := bcells hb2; have z2 : w.heap.size < w2.heap.size := by (have := hb2.size; omega)))
        go_ret
        exact ⟨rfl, bthen (bthen (ball (bref w) _) hb1) hb2⟩
    · have D := Lib.hid (fun W => checkDrop_any f t d p W ht hd)
      have b1 : (d != 0) = true := by simpa using hd
      generalize checkM f t d p = v at D
      clear ht hd
      go_enter Tryd.func87, Tryd.ntmps87
      go_wp2_with (first
        | (go_at_call 112; refine (T.out _).mono ?_; rintro e w1 ⟨rfl, hb1⟩; obtain ⟨hc1, hf1⟩ := bcells hb1; have z1 : w.heap.size < w1.heap.size := by (have := hb1.size; simp at this; omega))
        | (go_at_call 113; refine (D.out _).mono ?_; rintro e w2 ⟨rfl, hb2⟩))
      go_ret
      exact ⟨rfl, bthen (bthen (ball (bref w) _) hb1) hb2⟩
  · rw [decide_eq_false ht] at T
    have hv : checkM f t d p = 1 := if_neg ht
    rw [hv]
    clear hv ht
    go_enter Tryd.func87, Tryd.ntmps87
    go_wp2_with (go_at_call 112; refine (T.out _).mono ?_; rintro e w1 ⟨rfl, hb1⟩)
    go_ret
    exact ⟨rfl, bthen (ball (bref w) _) hb1⟩

theorem heldM_step {w1 w' w'' : World} {B : Nat} {x y z : Value} (h : Below w1.heap.size w1 w' ∧ B < w'.heap.size ∧ w'.cell? ⟨B, 0, none⟩ = some x ∧ w'.cell? ⟨B, 1, none⟩ = some y ∧ w'.cell? ⟨B, 2, none⟩ = some z) (hb : Below w'.heap.size w' w'') :
    Below w1.heap.size w1 w'' ∧ B < w''.heap.size ∧ w''.cell? ⟨B, 0, none⟩ = some x ∧ w''.cell? ⟨B, 1, none⟩ = some y ∧ w''.cell? ⟨B, 2, none⟩ = some z := by
  obtain ⟨a, b, c, d, e⟩ := h
  obtain ⟨k, -⟩ := bcells hb
  exact ⟨bthen a hb, Nat.lt_of_lt_of_le b hb.size, (k _ _ b).trans c, (k _ _ b).trans d, (k _ _ b).trans e⟩
end Go.Proofs.YtbopbekehccdmaaDoor
