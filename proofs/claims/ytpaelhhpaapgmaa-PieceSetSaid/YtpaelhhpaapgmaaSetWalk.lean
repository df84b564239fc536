/-
  The walk of the law PieceSet: for every kind it returns true.
-/
import Derived.Test.YtpaelhhpaapgmaaName
import Derived.OpenShut
namespace Go.Proofs.Ytpaelhhpaapgmaa.pieceSet
open Go.RowKit

def sumT (k : Int) : Int := if k = 1 then 0 else if k = 2 then 18 else if k = 3 then 22 else if k = 4 then 26 else if k = 5 then 30 else if k = 6 then 34 else if k = 7 then 36 else if k = 8 then 38 else 40

theorem ups (k : Int) (h : k = 1 ∨ k = 2 ∨ k = 3 ∨ k = 4 ∨ k = 6 ∨ k = 7) : upF k = k + 8 ∧ rawF (k + 8) = k ∧ upF (k + 8) = 0 ∧ ofF 0 (k + 8) = k + 8 ∧ (nameF (k + 8)).size = 2 := by
  rcases h with rfl | rfl | rfl | rfl | rfl | rfl <;> decide +kernel

theorem walk (a0 : Int) (w0 : (Lit.int .i64 a0).wf = true) (w : World) :
    Calls Try.prog 7 #[.int .i64 a0] w fun e w' => e = .returned (.bool true) ∧ Below w.heap.size w w' := by
  have b1 := bounds_i64 w0
  have U := Lib.hid (fun W => up_any a0 W)
  go_enter Try.func7, Try.ntmps7
  go_wp2_with (go_at_call 10; refine (names_true _).mono ?_; rintro e w1 ⟨rfl, hB⟩)
  go_loop [3, 4] (fun n k => ∃ i : Int, 1 ≤ i ∧ i ≤ 9 ∧ k = .int .i64 i ∧ n = .int .i64 (sumT i)) (fun _ k => (9 - intOf k).toNat)
  case atStart => exact ⟨1, by omega, by omega, rfl, rfl⟩
  case round =>
    obtain ⟨i, i1, i9, rfl, rfl⟩ := hrel
    obtain rfl | rfl | rfl | rfl | rfl | rfl | rfl | rfl | rfl : i = 1 ∨ i = 2 ∨ i = 3 ∨ i = 4 ∨ i = 5 ∨ i = 6 ∨ i = 7 ∨ i = 8 ∨ i = 9 := by omega
    case inr.inr.inr.inr.inr.inr.inr.inr =>
      have hs : sumT 9 = 40 := by decide
      rw [hs]
      clear hs
      by_cases c1 : a0 < 1
      · rw [upF_zero a0 (by omega)] at U
        clear b1
        go_wp2_with (go_at_call 20; refine (U.out _).mono ?_; rintro e w' ⟨rfl, rfl⟩)
        go_ret
        exact ⟨rfl, hB⟩
      · by_cases c2 : 8 < a0
        · rw [upF_zero a0 (by omega)] at U
          clear b1
          go_wp2_with (go_at_call 20; refine (U.out _).mono ?_; rintro e w' ⟨rfl, rfl⟩)
          go_ret
          exact ⟨rfl, hB⟩
        · by_cases c3 : a0 = 5
          · subst c3
            rw [show upF 5 = 0 from rfl] at U
            clear b1
            go_wp2_with (go_at_call 20; refine (U.out _).mono ?_; rintro e w' ⟨rfl, rfl⟩)
            go_ret
            exact ⟨rfl, hB⟩
          · by_cases c4 : a0 = 8
            · subst c4
              rw [show upF 8 = 0 from rfl] at U
              clear b1
              go_wp2_with (go_at_call 20; refine (U.out _).mono ?_; rintro e w' ⟨rfl, rfl⟩)
              go_ret
              exact ⟨rfl, hB⟩
            · obtain ⟨u1, u2, u3, u4, u5⟩ := ups a0 (by omega)
              rw [u1] at U
              have R := Lib.hid (fun W => raw_any (a0 + 8) W (by omega) (by omega))
              rw [u2] at R
              have U2 := Lib.hid (fun W => up_any (a0 + 8) W)
              rw [u3] at U2
              have O := Lib.hid (fun W => of_any 0 (a0 + 8) W (by omega) (by omega))
              rw [u4] at O
              have N := Lib.hid (fun W => name_any (a0 + 8) W (by omega) (by omega))
              generalize nameF (a0 + 8) = nm at N u5
              have d5 : (a0 == 5) = false := by simpa using c3
              have d8 : (a0 == 8) = false := by simpa using c4
              have d2 : ((nm.size : Int) == 2) = true := by rw [u5]; rfl
              clear u1 u2 u3 u4 u5 c3 c4 b1
              go_wp2_with fail
              refine (U.out _).mono ?_
              rintro e w2 ⟨rfl, rfl⟩
              go_wp2_with fail
              refine (R.out _).mono ?_
              rintro e w2 ⟨rfl, rfl⟩
              go_wp2_with fail
              refine (U2.out _).mono ?_
              rintro e w2 ⟨rfl, rfl⟩
              go_wp2_with fail
              refine (O.out _).mono ?_
              rintro e w2 ⟨rfl, rfl⟩
              go_wp2_with fail
              refine (N.out _).mono ?_
              rintro e w2 ⟨rfl, hN⟩
              go_wp2
              go_ret
              exact ⟨rfl, hB.trans (hN.mono hB.size)⟩
    all_goals
      clear U b1
      go_wp2_with (go_at_call 22; refine (total_any _ _).mono ?_; rintro e w' ⟨rfl, rfl⟩)
      go_round
      case rel => exact ⟨_, by omega, by omega, rfl, congrArg (Value.int .i64) (by decide +kernel)⟩
      case measure => simp [intOf]
end Go.Proofs.Ytpaelhhpaapgmaa.pieceSet
