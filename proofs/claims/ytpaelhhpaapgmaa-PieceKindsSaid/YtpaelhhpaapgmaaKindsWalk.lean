/-
  The walk of the law PieceKinds: for every number of a piece it returns true.
-/
import Derived.Test.YtpaelhhpaapgmaaRefName
import Derived.OpenShut
namespace Go.Proofs.Ytpaelhhpaapgmaa.pieceKinds
open Go.RowKit
set_option linter.unusedVariables false

theorem of_kind (p : Int) (hk : kindF p ≠ 0) : ofF (sideF p) (kindF p) = p := by
  have c : cutF p = if 16 ≤ p then p - 16 else p := rfl
  have r := rawF_cases (cutF p)
  unfold kindF sideF at *
  by_cases hr : rawF (cutF p) = 0
  · simp [hr] at hk
  · rw [if_neg hr] at *
    unfold ofF
    rw [if_neg hr, if_neg hr]
    by_cases h : 16 ≤ p
    · rw [if_pos h] at c
      rw [if_pos h, if_neg (by omega), if_pos rfl]
      omega
    · rw [if_neg h] at c
      rw [if_neg h, if_pos rfl]
      omega

theorem walk (a0 : Int) (w0 : (Lit.int .i8 a0).wf = true) (w : World) :
    Calls Try.prog 3 #[.int .i8 a0] w fun e w' => e = .returned (.bool true) ∧ Below w.heap.size w w' := by
  have b := bounds_i8 w0
  obtain ⟨b0, b1⟩ := b
  have K := Lib.hid (fun W => kind_any a0 W b0 b1)
  have S := Lib.hid (fun W => side_any a0 W b0 b1)
  have N := Lib.hid (fun W => name_any a0 W b0 b1)
  have RK := Lib.hid (fun W => refKind_any a0 W b0 b1)
  have RS := Lib.hid (fun W => refSide_any a0 W b0 b1)
  have RN := Lib.hid (fun W => refName_any a0 W b0 b1)
  have kb := kindF_le a0
  have O := Lib.hid (fun W => of_any (sideF a0) (kindF a0) W (by omega) (by omega))
  have R := Lib.hid (fun W => raw_any (kindF a0) W (by omega) (by omega))
  have RR := Lib.hid (fun W => refRaw_any (kindF a0) W (by omega))
  have ok := of_kind a0
  generalize nameF a0 = nm at N RN
  generalize sideF a0 = s at S RS O ok
  by_cases hk : kindF a0 = 0
  · rw [hk] at K RK
    clear ok O R RR kb hk w0
    go_enter Try.func3, Try.ntmps3
    go_wp2_with (first | (go_at_call 10; refine (names_true _).mono ?_; rintro e w1 ⟨rfl, hB⟩) | (go_at_call 11; refine (K.out _).mono ?_; rintro e w' ⟨rfl, rfl⟩) | (go_at_call 12; refine (S.out _).mono ?_; rintro e w' ⟨rfl, rfl⟩) | (go_at_call 13; refine (RK.out _).mono ?_; rintro e w' ⟨rfl, rfl⟩) | (go_at_call 14; refine (RS.out _).mono ?_; rintro e w' ⟨rfl, rfl⟩) | (go_at_call 15; refine (N.out _).mono ?_; rintro e w2 ⟨rfl, hB2⟩) | (go_at_call 16; refine (RN.out _).mono ?_; rintro e w3 ⟨rfl, hB3⟩))
    go_ret
    have h12 := hB.trans (hB2.mono hB.size)
    exact ⟨rfl, h12.trans (hB3.mono h12.size)⟩
  · rw [ok hk] at O
    have hb : (kindF a0 == 0) = false := by simpa using hk
    clear ok hk w0
    generalize kindF a0 = k at K RK O R RR hb
    generalize rawF k = r at R RR
    clear kb
    go_enter Try.func3, Try.ntmps3
    go_wp2_with (first | (go_at_call 10; refine (names_true _).mono ?_; rintro e w1 ⟨rfl, hB⟩) | (go_at_call 11; refine (K.out _).mono ?_; rintro e w' ⟨rfl, rfl⟩) | (go_at_call 12; refine (S.out _).mono ?_; rintro e w' ⟨rfl, rfl⟩) | (go_at_call 13; refine (RK.out _).mono ?_; rintro e w' ⟨rfl, rfl⟩) | (go_at_call 14; refine (RS.out _).mono ?_; rintro e w' ⟨rfl, rfl⟩) | (go_at_call 15; refine (N.out _).mono ?_; rintro e w2 ⟨rfl, hB2⟩) | (go_at_call 16; refine (RN.out _).mono ?_; rintro e w3 ⟨rfl, hB3⟩) | (go_at_call 17; refine (O.out _).mono ?_; rintro e w' ⟨rfl, rfl⟩) | (go_at_call 18; refine (R.out _).mono ?_; rintro e w' ⟨rfl, rfl⟩) | (go_at_call 19; refine (RR.out _).mono ?_; rintro e w' ⟨rfl, rfl⟩))
    go_ret
    have h12 := hB.trans (hB2.mono hB.size)
    exact ⟨rfl, h12.trans (hB3.mono h12.size)⟩
end Go.Proofs.Ytpaelhhpaapgmaa.pieceKinds
