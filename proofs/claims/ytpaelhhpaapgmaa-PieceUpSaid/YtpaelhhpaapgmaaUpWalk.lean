/-
  The walk of the law PieceUp: for every number it returns true.
-/
import Derived.Test.YtpaelhhpaapgmaaName
import Derived.OpenShut
namespace Go.Proofs.Ytpaelhhpaapgmaa.pieceUp
open Go.RowKit
set_option linter.unusedVariables false

def plusB : ByteArray := ⟨#[43]⟩
theorem up_cases (p : Int) (h0 : -128 ≤ p) (h1 : p ≤ 127) : kindF p = 0 ∨ (upF (kindF p) = 0) ∨ p = 1 ∨ p = 2 ∨ p = 3 ∨ p = 4 ∨ p = 6 ∨ p = 7 ∨ p = 17 ∨ p = 18 ∨ p = 19 ∨ p = 20 ∨ p = 22 ∨ p = 23 := by
  by_cases hk : kindF p = 0
  · exact Or.inl hk
  · by_cases hu : upF (kindF p) = 0
    · exact Or.inr (Or.inl hu)
    · right; right
      have : kindF p = cutF p := by unfold kindF at *; split at hk <;> simp_all
      unfold upF at hu
      have hc : cutF p = if 16 ≤ p then p - 16 else p := rfl
      rw [this] at hu
      split at hu
      · split at hc <;> omega
      · exact absurd rfl hu

theorem walk_none (a0 : Int) (h0 : -128 ≤ a0) (h1 : a0 ≤ 127) (hz : kindF a0 = 0 ∨ upF (kindF a0) = 0) (w : World) :
    Calls Try.prog 9 #[.int .i8 a0] w fun e w' => e = .returned (.bool true) ∧ Below w.heap.size w w' := by
  have hz' : upF (kindF a0) = 0 := by
    rcases hz with h | h
    · rw [h]; rfl
    · exact h
  have K := Lib.hid (fun W => kind_any a0 W h0 h1)
  have S := Lib.hid (fun W => side_any a0 W h0 h1)
  have U := Lib.hid (fun W => up_any (kindF a0) W)
  rw [hz'] at U
  clear hz hz' h0 h1
  generalize kindF a0 = k at K U
  generalize sideF a0 = s at S
  by_cases hk : k = 0
  · subst hk
    go_enter Try.func9, Try.ntmps9
    go_wp2_with (first | (go_at_call 10; refine (names_true _).mono ?_; rintro e w1 ⟨rfl, hB⟩) | (go_at_call 11; refine (K.out _).mono ?_; rintro e w' ⟨rfl, rfl⟩) | (go_at_call 12; refine (S.out _).mono ?_; rintro e w' ⟨rfl, rfl⟩) | (go_at_call 20; refine (U.out _).mono ?_; rintro e w' ⟨rfl, rfl⟩))
    go_ret
    exact ⟨rfl, hB⟩
  · have hb : (k == 0) = false := by simpa using hk
    clear hk
    go_enter Try.func9, Try.ntmps9
    go_wp2_with (first | (go_at_call 10; refine (names_true _).mono ?_; rintro e w1 ⟨rfl, hB⟩) | (go_at_call 11; refine (K.out _).mono ?_; rintro e w' ⟨rfl, rfl⟩) | (go_at_call 12; refine (S.out _).mono ?_; rintro e w' ⟨rfl, rfl⟩) | (go_at_call 20; refine (U.out _).mono ?_; rintro e w' ⟨rfl, rfl⟩))
    go_ret
    exact ⟨rfl, hB⟩

/-- A piece that can be promoted: a0 = 16 * s + k. -/
theorem walk_some (a0 k s : Int) (nm : ByteArray) (hs : s = 0 ∨ s = 1) (hk0 : 1 ≤ k) (hk7 : k ≤ 7) (ha : a0 = 16 * s + k)
    (ek : kindF a0 = k) (es : sideF a0 = s) (eu : upF k = k + 8) (eo : ofF s (k + 8) = a0 + 8) (es2 : sideF (a0 + 8) = s) (eu2 : upF (k + 8) = 0) (er : rawF (k + 8) = k)
    (en : nameF a0 = nm) (en2 : nameF (a0 + 8) = plusB ++ nm) (et : totalF (k + 8) = 0) (hnm : nm.size ≤ 4) (w : World) :
    Calls Try.prog 9 #[.int .i8 a0] w fun e w' => e = .returned (.bool true) ∧ Below w.heap.size w w' := by
  have K := Lib.hid (fun W => kind_any a0 W (by omega) (by omega))
  have S := Lib.hid (fun W => side_any a0 W (by omega) (by omega))
  have U := Lib.hid (fun W => up_any k W)
  have O := Lib.hid (fun W => of_any s (k + 8) W (by omega) (by omega))
  have S2 := Lib.hid (fun W => side_any (a0 + 8) W (by omega) (by omega))
  have U2 := Lib.hid (fun W => up_any (k + 8) W)
  have R := Lib.hid (fun W => raw_any (k + 8) W (by omega) (by omega))
  have N := Lib.hid (fun W => name_any a0 W (by omega) (by omega))
  have N2 := Lib.hid (fun W => name_any (a0 + 8) W (by omega) (by omega))
  have T := Lib.hid (fun W => total_any (k + 8) W)
  rw [ek] at K; rw [es] at S; rw [eu] at U; rw [eo] at O; rw [es2] at S2; rw [eu2] at U2; rw [er] at R; rw [en] at N; rw [en2] at N2; rw [et] at T
  have bk : (k == 0) = false := by simp; omega
  have bu : (k + 8 == 0) = false := by simp; omega
  have l0 : 0 ≤ a0 := by rcases hs with rfl | rfl <;> omega
  have l1 : a0 ≤ 23 := by rcases hs with rfl | rfl <;> omega
  have ss : (s == s) = true := by simp
  have kk : (k == k) = true := by simp
  have aa : (a0 + 8 == a0 + 8) = true := by simp
  have fits : ¬ 9223372036854775807 < 1 + nm.size := by omega
  unfold plusB at N2
  clear ek es eu eo es2 eu2 er en en2 et ha hs hnm
  go_enter Try.func9, Try.ntmps9
  go_wp2_with (go_at_call 10; refine (names_true _).mono ?_; rintro e w1 ⟨rfl, hB⟩)
  refine (K.out _).mono ?_
  rintro e w2 ⟨rfl, rfl⟩
  go_wp2_with fail
  refine (S.out _).mono ?_
  rintro e w2 ⟨rfl, rfl⟩
  go_wp2_with fail
  refine (U.out _).mono ?_
  rintro e w2 ⟨rfl, rfl⟩
  go_wp2_with fail
  refine (O.out _).mono ?_
  rintro e w2 ⟨rfl, rfl⟩
  go_wp2_with fail
  refine (S2.out _).mono ?_
  rintro e w2 ⟨rfl, rfl⟩
  go_wp2_with fail
  refine (U2.out _).mono ?_
  rintro e w2 ⟨rfl, rfl⟩
  go_wp2_with fail
  refine (R.out _).mono ?_
  rintro e w2 ⟨rfl, rfl⟩
  go_wp2_with fail
  refine (N2.out _).mono ?_
  rintro e w2 ⟨rfl, hB2⟩
  go_wp2_with fail
  refine (N.out _).mono ?_
  rintro e w3 ⟨rfl, hB3⟩
  go_wp2_with fail
  refine (T.out _).mono ?_
  rintro e w4 ⟨rfl, rfl⟩
  go_wp2
  go_ret
  have h12 := hB.trans (hB2.mono hB.size)
  exact ⟨rfl, h12.trans (hB3.mono h12.size)⟩

theorem walk (a0 : Int) (w0 : (Lit.int .i8 a0).wf = true) (w : World) :
    Calls Try.prog 9 #[.int .i8 a0] w fun e w' => e = .returned (.bool true) ∧ Below w.heap.size w w' := by
  have b := bounds_i8 w0
  rcases up_cases a0 b.1 b.2 with h | h | h
  · exact walk_none a0 b.1 b.2 (Or.inl h) w
  · exact walk_none a0 b.1 b.2 (Or.inr h) w
  · clear w0 b
    rcases h with rfl | rfl | rfl | rfl | rfl | rfl | rfl | rfl | rfl | rfl | rfl | rfl
    case inl => exact walk_some 1 1 0 ⟨#[80]⟩ (by omega) (by omega) (by omega) rfl (by decide +kernel) (by decide +kernel) (by decide +kernel) (by decide +kernel) (by decide +kernel) (by decide +kernel) (by decide +kernel) (by decide +kernel) (by decide +kernel) (by decide +kernel) (by decide) w
    case inr.inl => exact walk_some 2 2 0 ⟨#[76]⟩ (by omega) (by omega) (by omega) rfl (by decide +kernel) (by decide +kernel) (by decide +kernel) (by decide +kernel) (by decide +kernel) (by decide +kernel) (by decide +kernel) (by decide +kernel) (by decide +kernel) (by decide +kernel) (by decide) w
    case inr.inr.inl => exact walk_some 3 3 0 ⟨#[78]⟩ (by omega) (by omega) (by omega) rfl (by decide +kernel) (by decide +kernel) (by decide +kernel) (by decide +kernel) (by decide +kernel) (by decide +kernel) (by decide +kernel) (by decide +kernel) (by decide +kernel) (by decide +kernel) (by decide) w
    case inr.inr.inr.inl => exact walk_some 4 4 0 ⟨#[83]⟩ (by omega) (by omega) (by omega) rfl (by decide +kernel) (by decide +kernel) (by decide +kernel) (by decide +kernel) (by decide +kernel) (by decide +kernel) (by decide +kernel) (by decide +kernel) (by decide +kernel) (by decide +kernel) (by decide) w
    case inr.inr.inr.inr.inl => exact walk_some 6 6 0 ⟨#[66]⟩ (by omega) (by omega) (by omega) rfl (by decide +kernel) (by decide +kernel) (by decide +kernel) (by decide +kernel) (by decide +kernel) (by decide +kernel) (by decide +kernel) (by decide +kernel) (by decide +kernel) (by decide +kernel) (by decide) w
    case inr.inr.inr.inr.inr.inl => exact walk_some 7 7 0 ⟨#[82]⟩ (by omega) (by omega) (by omega) rfl (by decide +kernel) (by decide +kernel) (by decide +kernel) (by decide +kernel) (by decide +kernel) (by decide +kernel) (by decide +kernel) (by decide +kernel) (by decide +kernel) (by decide +kernel) (by decide) w
    case inr.inr.inr.inr.inr.inr.inl => exact walk_some 17 1 1 ⟨#[112]⟩ (by omega) (by omega) (by omega) rfl (by decide +kernel) (by decide +kernel) (by decide +kernel) (by decide +kernel) (by decide +kernel) (by decide +kernel) (by decide +kernel) (by decide +kernel) (by decide +kernel) (by decide +kernel) (by decide) w
    case inr.inr.inr.inr.inr.inr.inr.inl => exact walk_some 18 2 1 ⟨#[108]⟩ (by omega) (by omega) (by omega) rfl (by decide +kernel) (by decide +kernel) (by decide +kernel) (by decide +kernel) (by decide +kernel) (by decide +kernel) (by decide +kernel) (by decide +kernel) (by decide +kernel) (by decide +kernel) (by decide) w
    case inr.inr.inr.inr.inr.inr.inr.inr.inl => exact walk_some 19 3 1 ⟨#[110]⟩ (by omega) (by omega) (by omega) rfl (by decide +kernel) (by decide +kernel) (by decide +kernel) (by decide +kernel) (by decide +kernel) (by decide +kernel) (by decide +kernel) (by decide +kernel) (by decide +kernel) (by decide +kernel) (by decide) w
    case inr.inr.inr.inr.inr.inr.inr.inr.inr.inl => exact walk_some 20 4 1 ⟨#[115]⟩ (by omega) (by omega) (by omega) rfl (by decide +kernel) (by decide +kernel) (by decide +kernel) (by decide +kernel) (by decide +kernel) (by decide +kernel) (by decide +kernel) (by decide +kernel) (by decide +kernel) (by decide +kernel) (by decide) w
    case inr.inr.inr.inr.inr.inr.inr.inr.inr.inr.inl => exact walk_some 22 6 1 ⟨#[98]⟩ (by omega) (by omega) (by omega) rfl (by decide +kernel) (by decide +kernel) (by decide +kernel) (by decide +kernel) (by decide +kernel) (by decide +kernel) (by decide +kernel) (by decide +kernel) (by decide +kernel) (by decide +kernel) (by decide) w
    case inr.inr.inr.inr.inr.inr.inr.inr.inr.inr.inr => exact walk_some 23 7 1 ⟨#[114]⟩ (by omega) (by omega) (by omega) rfl (by decide +kernel) (by decide +kernel) (by decide +kernel) (by decide +kernel) (by decide +kernel) (by decide +kernel) (by decide +kernel) (by decide +kernel) (by decide +kernel) (by decide +kernel) (by decide) w
end Go.Proofs.Ytpaelhhpaapgmaa.pieceUp
