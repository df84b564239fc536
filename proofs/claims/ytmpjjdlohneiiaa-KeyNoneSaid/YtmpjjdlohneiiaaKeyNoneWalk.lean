/-
  The walk of the law KeyNone: for every square, piece and hand it returns true.
-/
import Derived.Test.YtmpjjdlohneiiaaKeyHead
import Derived.Test.YtmpjjdlohneiiaaRefKind
import Derived.OpenShut
namespace Go.Proofs.Ytmpjjdlohneiiaa.keyNone
open Go.RowKit
set_option linter.unusedVariables false
set_option linter.unusedSimpArgs false

set_option maxHeartbeats 4000000 in
theorem walk (q x h0 h1 h2 : Int) (g0 : (Lit.int .i64 q).wf = true) (g1 : (Lit.int .i8 x).wf = true) (g2 : (Lit.int .i64 h0).wf = true) (g3 : (Lit.int .i64 h1).wf = true) (g4 : (Lit.int .i64 h2).wf = true) (w : World) :
    Calls Try.prog 6 #[.int .i64 q, .int .i8 x, .agg #[.int .i64 h0, .int .i64 h1, .int .i64 h2]] w fun e w' => e = .returned (.bool true) ∧ Below w.heap.size w w' := by
  have hx := bounds_i8 g1
  have C := Lib.hid (fun W => counts_true W)
  have P := Lib.hid (fun W => pieceK_any q x hx.1 hx.2 W)
  have H := Lib.hid (fun W => handK_any h0 h1 h2 W)
  have R := Lib.hid (fun W => refKind_any x W hx.1 hx.2)
  have WX := Lib.hid (show wrap64 x = x by unfold wrap64; omega)
  have hP : (((pieceK q x : Nat) : Int) != 0) = decide (0 ≤ q ∧ q ≤ 80 ∧ kindF x ≠ 0) := by
    have := pieceK_pos q x
    rw [Bool.eq_iff_iff, bne_iff_ne, decide_eq_true_eq]
    omega
  have hH : (((handK h0 h1 h2 : Nat) : Int) != 0) = decide ((h0 = 0 ∨ h0 = 1) ∧ (1 ≤ h1 ∧ h1 ≤ 7) ∧ (1 ≤ h2 ∧ h2 ≤ 18)) := by
    have := handK_pos h0 h1 h2
    rw [Bool.eq_iff_iff, bne_iff_ne, decide_eq_true_eq]
    omega
  generalize ((pieceK q x : Nat) : Int) = pv at P hP
  generalize ((handK h0 h1 h2 : Nat) : Int) = hv at H hH
  generalize kindF x = k at R hP
  clear g0 g1 g2 g3 g4 hx
  have f1 : ¬ (0 ≤ q ∧ q ≤ 80 ∧ k ≠ 0) → (pv != 0) = false := fun h => by rw [hP]; exact decide_eq_false h
  have f2 : (0 ≤ q ∧ q ≤ 80 ∧ k ≠ 0) → (pv != 0) = true := fun h => by rw [hP]; exact decide_eq_true h
  have f3 : ¬ ((h0 = 0 ∨ h0 = 1) ∧ (1 ≤ h1 ∧ h1 ≤ 7) ∧ (1 ≤ h2 ∧ h2 ≤ 18)) → (hv != 0) = false := fun h => by rw [hH]; exact decide_eq_false h
  have f4 : ((h0 = 0 ∨ h0 = 1) ∧ (1 ≤ h1 ∧ h1 ≤ 7) ∧ (1 ≤ h2 ∧ h2 ≤ 18)) → (hv != 0) = true := fun h => by rw [hH]; exact decide_eq_true h
  have hq : (q < 0 ∧ (pv != 0) = false) ∨ (0 ≤ q ∧ 80 < q ∧ (pv != 0) = false) ∨ (0 ≤ q ∧ q ≤ 80 ∧ k = 0 ∧ (pv != 0) = false) ∨ (0 ≤ q ∧ q ≤ 80 ∧ k ≠ 0 ∧ (pv != 0) = true) := by
    by_cases a : q < 0
    · exact .inl ⟨a, f1 (by omega)⟩
    · by_cases b : 80 < q
      · exact .inr (.inl ⟨by omega, b, f1 (by omega)⟩)
      · by_cases c : k = 0
        · exact .inr (.inr (.inl ⟨by omega, by omega, c, f1 (by omega)⟩))
        · exact .inr (.inr (.inr ⟨by omega, by omega, c, f2 (by omega)⟩))
  have hh : ((h0 = 0 ∨ h0 = 1) ∧ ((h1 < 1 ∧ (hv != 0) = false) ∨ (1 ≤ h1 ∧ 7 < h1 ∧ (hv != 0) = false) ∨ (1 ≤ h1 ∧ h1 ≤ 7 ∧ h2 < 1 ∧ (hv != 0) = false) ∨ (1 ≤ h1 ∧ h1 ≤ 7 ∧ 1 ≤ h2 ∧ 18 < h2 ∧ (hv != 0) = false) ∨ (1 ≤ h1 ∧ h1 ≤ 7 ∧ 1 ≤ h2 ∧ h2 ≤ 18 ∧ (hv != 0) = true))) ∨ ((h0 == 0) = false ∧ (h0 == 1) = false ∧ (hv != 0) = false) := by
    by_cases a : h0 = 0 ∨ h0 = 1
    · refine .inl ⟨a, ?_⟩
      by_cases b : h1 < 1
      · exact .inl ⟨b, f3 (by omega)⟩
      · by_cases c : 7 < h1
        · exact .inr (.inl ⟨by omega, c, f3 (by omega)⟩)
        · by_cases d : h2 < 1
          · exact .inr (.inr (.inl ⟨by omega, by omega, d, f3 (by omega)⟩))
          · by_cases e : 18 < h2
            · exact .inr (.inr (.inr (.inl ⟨by omega, by omega, by omega, e, f3 (by omega)⟩)))
            · exact .inr (.inr (.inr (.inr ⟨by omega, by omega, by omega, by omega, f4 (by omega)⟩)))
    · exact .inr ⟨by simp; omega, by simp; omega, f3 (by omega)⟩
  clear f1 f2 f3 f4 hP hH
  rcases hq with ⟨a1, t1⟩ | ⟨a1, a2, t1⟩ | ⟨a1, a2, rfl, t1⟩ | ⟨a1, a2, a3, t1⟩ <;> rcases hh with ⟨rfl | rfl, ⟨b1, t2⟩ | ⟨b1, b2, t2⟩ | ⟨b1, b2, b3, t2⟩ | ⟨b1, b2, b3, b4, t2⟩ | ⟨b1, b2, b3, b4, t2⟩⟩ | ⟨b1, b2, t2⟩
  all_goals
    go_enter Try.func6, Try.ntmps6
    go_wp2_with (first
      | (go_at_call 23; refine (C.out _).mono ?_; rintro e w1 ⟨rfl, hb1⟩; obtain ⟨hc1, hf1⟩ := bcells hb1; have hz1 : w.heap.size < w1.heap.size := by (have := hb1.size; simp at this; omega))
      | (go_at_call 28; rw [WX.out]; refine (R.out _).mono ?_; rintro e w2 ⟨rfl, rfl⟩)
      | (go_at_call 24; refine (P.out _).mono ?_; rintro e w3 ⟨rfl, hb3⟩; obtain ⟨hc3, hf3⟩ := bcells hb3; have hz3 : w.heap.size < w3.heap.size := by (have := hb3.size; omega))
      | (go_at_call 25; refine (H.out _).mono ?_; rintro e w4 ⟨rfl, hb4⟩))
    go_ret
    refine ⟨by first | rfl | (simp; omega), ?_⟩
    first | exact bthen (bthen (ball (bref w) _) hb1) (bthen hb3 hb4) | exact bthen (bthen (ball (bref w) _) hb1) hb3
end Go.Proofs.Ytmpjjdlohneiiaa.keyNone
