/-
  The walk of the law PieceOf: for every side and kind it returns true.
-/
import Derived.Test.YtpaelhhpaapgmaaRefs
import Derived.OpenShut
namespace Go.Proofs.Ytpaelhhpaapgmaa.pieceOf
open Go.RowKit
set_option linter.unusedVariables false

theorem tail_eq (a0 a1 : Int) : ofF a0 a1 = if a0 < 0 ∨ 1 < a0 ∨ rawF a1 = 0 then 0 else 16 * a0 + a1 := by
  unfold ofF
  by_cases hr : rawF a1 = 0
  · simp [hr]
  · by_cases s0 : a0 = 0
    · subst s0; simp [hr]
    · by_cases s1 : a0 = 1
      · subst s1; simp [hr]
      · have : a0 < 0 ∨ 1 < a0 := by omega
        rw [if_neg hr, if_neg s0, if_neg s1, if_pos (by omega)]

theorem walk (a0 a1 : Int) (w0 : (Lit.int .i64 a0).wf = true) (w1 : (Lit.int .i64 a1).wf = true) (w : World) :
    Calls Try.prog 4 #[.int .i64 a0, .int .i64 a1] w fun e w' => e = .returned (.bool true) ∧ Below w.heap.size w w' := by
  have b1 := bounds_i64 w1
  have T1 := Lib.hid (fun W => total_any a1 W)
  have T2 := Lib.hid (fun W => refTotal_any a1 W)
  have U1 := Lib.hid (fun W => up_any a1 W)
  have U2 := Lib.hid (fun W => refUp_any a1 W)
  have R1 := Lib.hid (fun W => raw_any a1 W b1.1 b1.2)
  have R2 := Lib.hid (fun W => refRaw_any a1 W b1.1)
  have O := Lib.hid (fun W => of_any a0 a1 W b1.1 b1.2)
  have rc := rawF_cases a1
  rw [tail_eq] at O
  generalize totalF a1 = t at T1 T2
  generalize upF a1 = u at U1 U2
  clear w0 w1
  by_cases h0 : a0 < 0
  · rw [if_pos (by omega)] at O
    clear rc b1
    generalize rawF a1 = r at R1 R2
    go_enter Try.func4, Try.ntmps4
    go_wp2_with (first | (go_at_call 10; refine (names_true _).mono ?_; rintro e w' ⟨rfl, hB⟩) | (go_at_call 17; refine (O.out _).mono ?_; rintro e w' ⟨rfl, rfl⟩) | (go_at_call 18; refine (R1.out _).mono ?_; rintro e w' ⟨rfl, rfl⟩) | (go_at_call 19; refine (R2.out _).mono ?_; rintro e w' ⟨rfl, rfl⟩) | (go_at_call 20; refine (U1.out _).mono ?_; rintro e w' ⟨rfl, rfl⟩) | (go_at_call 21; refine (U2.out _).mono ?_; rintro e w' ⟨rfl, rfl⟩) | (go_at_call 22; refine (T1.out _).mono ?_; rintro e w' ⟨rfl, rfl⟩) | (go_at_call 23; refine (T2.out _).mono ?_; rintro e w' ⟨rfl, hB2⟩))
    go_ret
    exact ⟨rfl, hB.trans (hB2.mono hB.size)⟩
  · by_cases h1 : 1 < a0
    · rw [if_pos (by omega)] at O
      clear rc b1
      generalize rawF a1 = r at R1 R2
      go_enter Try.func4, Try.ntmps4
      go_wp2_with (first | (go_at_call 10; refine (names_true _).mono ?_; rintro e w' ⟨rfl, hB⟩) | (go_at_call 17; refine (O.out _).mono ?_; rintro e w' ⟨rfl, rfl⟩) | (go_at_call 18; refine (R1.out _).mono ?_; rintro e w' ⟨rfl, rfl⟩) | (go_at_call 19; refine (R2.out _).mono ?_; rintro e w' ⟨rfl, rfl⟩) | (go_at_call 20; refine (U1.out _).mono ?_; rintro e w' ⟨rfl, rfl⟩) | (go_at_call 21; refine (U2.out _).mono ?_; rintro e w' ⟨rfl, rfl⟩) | (go_at_call 22; refine (T1.out _).mono ?_; rintro e w' ⟨rfl, rfl⟩) | (go_at_call 23; refine (T2.out _).mono ?_; rintro e w' ⟨rfl, hB2⟩))
      go_ret
      exact ⟨rfl, hB.trans (hB2.mono hB.size)⟩
    · by_cases hr : rawF a1 = 0
      · rw [if_pos (by omega)] at O
        have hb : (rawF a1 == 0) = true := by simpa using hr
        clear rc b1 hr
        generalize rawF a1 = r at R1 R2 hb
        go_enter Try.func4, Try.ntmps4
        go_wp2_with (first | (go_at_call 10; refine (names_true _).mono ?_; rintro e w' ⟨rfl, hB⟩) | (go_at_call 17; refine (O.out _).mono ?_; rintro e w' ⟨rfl, rfl⟩) | (go_at_call 18; refine (R1.out _).mono ?_; rintro e w' ⟨rfl, rfl⟩) | (go_at_call 19; refine (R2.out _).mono ?_; rintro e w' ⟨rfl, rfl⟩) | (go_at_call 20; refine (U1.out _).mono ?_; rintro e w' ⟨rfl, rfl⟩) | (go_at_call 21; refine (U2.out _).mono ?_; rintro e w' ⟨rfl, rfl⟩) | (go_at_call 22; refine (T1.out _).mono ?_; rintro e w' ⟨rfl, rfl⟩) | (go_at_call 23; refine (T2.out _).mono ?_; rintro e w' ⟨rfl, hB2⟩))
        go_ret
        exact ⟨rfl, hB.trans (hB2.mono hB.size)⟩
      · rw [if_neg (by omega)] at O
        have hb : (rawF a1 == 0) = false := by simpa using hr
        have a1b : 1 ≤ a1 := by omega
        have a1c : a1 ≤ 15 := by omega
        clear rc b1 hr
        generalize rawF a1 = r at R1 R2 hb
        go_enter Try.func4, Try.ntmps4
        go_wp2_with (first | (go_at_call 10; refine (names_true _).mono ?_; rintro e w' ⟨rfl, hB⟩) | (go_at_call 17; refine (O.out _).mono ?_; rintro e w' ⟨rfl, rfl⟩) | (go_at_call 18; refine (R1.out _).mono ?_; rintro e w' ⟨rfl, rfl⟩) | (go_at_call 19; refine (R2.out _).mono ?_; rintro e w' ⟨rfl, rfl⟩) | (go_at_call 20; refine (U1.out _).mono ?_; rintro e w' ⟨rfl, rfl⟩) | (go_at_call 21; refine (U2.out _).mono ?_; rintro e w' ⟨rfl, rfl⟩) | (go_at_call 22; refine (T1.out _).mono ?_; rintro e w' ⟨rfl, rfl⟩) | (go_at_call 23; refine (T2.out _).mono ?_; rintro e w' ⟨rfl, hB2⟩))
        go_ret
        exact ⟨rfl, hB.trans (hB2.mono hB.size)⟩
end Go.Proofs.Ytpaelhhpaapgmaa.pieceOf
