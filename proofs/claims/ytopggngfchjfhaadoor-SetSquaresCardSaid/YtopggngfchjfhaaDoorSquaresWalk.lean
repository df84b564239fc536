/-
  The walk of the law SetSquares: for every file and rank it returns true.
-/
import Derived.Test.YtopggngfchjfhaaDoorHolds
import Derived.OpenShut
namespace Go.Proofs.YtopggngfchjfhaaDoor.setSquares
open Go.RowKit
set_option linter.unusedVariables false

theorem facts : ∀ f : Nat, f < 9 → ∀ r : Nat, r < 9 → squareF f r = 9 * (f : Int) + r ∧ (ofN (fileL f 9) &&& oneN (9 * f + r) ≠ 0) ∧ (ofN (rankL r 9) &&& oneN (9 * f + r) ≠ 0) ∧ ofN (fileL f 9) &&& ofN (rankL r 9) = ofN [9 * (f : Int) + r] := by decide +kernel

theorem walk_out (f r : Int) (h : f < 0 ∨ 8 < f ∨ r < 0 ∨ 8 < r) (w : World) (hT : Tab w) :
    Calls Tryd.prog 6 #[.int .i64 f, .int .i64 r] w fun e w' => e = .returned (.bool true) ∧ Below w.heap.size w w' := by
  have Q := Lib.hid (fun W => square_any f r W)
  rw [show squareF f r = -1 from if_neg (by omega)] at Q
  have H := Lib.hid (holds_true w hT)
  clear hT
  by_cases h0 : f < 0
  · clear h
    go_enter Tryd.func6, Tryd.ntmps6
    go_wp2_with (first | (go_at_call 10; refine H.out.mono ?_; rintro e w1 ⟨rfl, hB⟩) | (go_at_call 29; refine (Q.out _).mono ?_; rintro e w' ⟨rfl, rfl⟩))
    go_ret
    exact ⟨rfl, hB⟩
  · by_cases h1 : 8 < f
    · clear h
      go_enter Tryd.func6, Tryd.ntmps6
      go_wp2_with (first | (go_at_call 10; refine H.out.mono ?_; rintro e w1 ⟨rfl, hB⟩) | (go_at_call 29; refine (Q.out _).mono ?_; rintro e w' ⟨rfl, rfl⟩))
      go_ret
      exact ⟨rfl, hB⟩
    · by_cases h2 : r < 0
      · clear h
        go_enter Tryd.func6, Tryd.ntmps6
        go_wp2_with (first | (go_at_call 10; refine H.out.mono ?_; rintro e w1 ⟨rfl, hB⟩) | (go_at_call 29; refine (Q.out _).mono ?_; rintro e w' ⟨rfl, rfl⟩))
        go_ret
        exact ⟨rfl, hB⟩
      · have h3 : 8 < r := by omega
        clear h
        go_enter Tryd.func6, Tryd.ntmps6
        go_wp2_with (first | (go_at_call 10; refine H.out.mono ?_; rintro e w1 ⟨rfl, hB⟩) | (go_at_call 29; refine (Q.out _).mono ?_; rintro e w' ⟨rfl, rfl⟩))
        go_ret
        exact ⟨rfl, hB⟩

theorem walk_sq (f r : Nat) (hf : f < 9) (hr : r < 9) (w : World) (hT : Tab w) :
    Calls Tryd.prog 6 #[.int .i64 f, .int .i64 r] w fun e w' => e = .returned (.bool true) ∧ Below w.heap.size w w' := by
  obtain ⟨f1, f2, f3, f4⟩ := facts f hf r hr
  have Q := Lib.hid (fun W => square_any f r W)
  rw [f1] at Q
  have FI := Lib.hid (fun W => file_any (9 * (f : Int) + r) W (by omega) (by omega))
  rw [show (9 * (f : Int) + r) / 9 = f by omega] at FI
  have RA := Lib.hid (fun W => rank_any (9 * (f : Int) + r) W (by omega) (by omega))
  rw [show (9 * (f : Int) + r) % 9 = r by omega] at RA
  have IF := Lib.hid (fun W => inFile_any f W)
  have IR := Lib.hid (fun W => inRank_any r W)
  have H1 := Lib.hid (fun W => has_any (ofN (fileL f 9)) (9 * (f : Int) + r) (ofN_sq _) W)
  have H2 := Lib.hid (fun W => has_any (ofN (rankL r 9)) (9 * (f : Int) + r) (ofN_sq _) W)
  rw [show (!decide (ofN (fileL f 9) &&& oneN (9 * (f : Int) + r) = 0)) = true by simpa using f2] at H1
  rw [show (!decide (ofN (rankL r 9) &&& oneN (9 * (f : Int) + r) = 0)) = true by simpa using f3] at H2
  have A := Lib.hid (fun W => and_any (ofN (fileL f 9)) (ofN (rankL r 9)) (ofN_sq _) (ofN_sq _) W)
  rw [f4] at A
  have O := Lib.hid (fun (b cap : Nat) (W : World) (hb : b < W.heap.size) (h : ∀ (j : Nat) (hj : j < [9 * (f : Int) + r].length), W.cell? ⟨b, 0 + j, none⟩ = some (.int .i64 [9 * (f : Int) + r][j])) => of_any b 0 cap [9 * (f : Int) + r] W (by simp) hb h)
  generalize loW (ofN (fileL f 9)) = x1 at IF H1 A
  generalize hiW (ofN (fileL f 9)) = y1 at IF H1 A
  generalize loW (ofN (rankL r 9)) = x2 at IR H2 A
  generalize hiW (ofN (rankL r 9)) = y2 at IR H2 A
  generalize loW (ofN [9 * (f : Int) + r]) = x3 at A O
  generalize hiW (ofN [9 * (f : Int) + r]) = y3 at A O
  have H := Lib.hid (holds_true w hT)
  have s3 : ((9 * (f : Int) + r) == (9 * (f : Int) + r)) = true := by simp
  have s4 : ((f : Int) == (f : Int)) = true := by simp
  have s5 : ((r : Int) == (r : Int)) = true := by simp
  clear hT f1 f2 f3 f4
  go_enter Tryd.func6, Tryd.ntmps6
  go_wp2_with (first | (go_at_call 10; refine H.out.mono ?_; rintro e w1 ⟨rfl, hB⟩) | (go_at_call 29; refine (Q.out _).mono ?_; rintro e w' ⟨rfl, rfl⟩) | (go_at_call 30; refine (FI.out _).mono ?_; rintro e w' ⟨rfl, rfl⟩) | (go_at_call 31; refine (RA.out _).mono ?_; rintro e w' ⟨rfl, rfl⟩))
  refine (IF.out _).mono ?_
  rintro e v1 ⟨rfl, hb1⟩
  go_wp2_with fail
  refine (H1.out _).mono ?_
  rintro e v2 ⟨rfl, hb2⟩
  go_wp2_with fail
  refine (IR.out _).mono ?_
  rintro e v3 ⟨rfl, hb3⟩
  go_wp2_with fail
  refine (H2.out _).mono ?_
  rintro e v4 ⟨rfl, hb4⟩
  go_wp2_with fail
  refine (IF.out _).mono ?_
  rintro e v5 ⟨rfl, hb5⟩
  go_wp2_with fail
  refine (IR.out _).mono ?_
  rintro e v6 ⟨rfl, hb6⟩
  go_wp2_with fail
  refine (A.out _).mono ?_
  rintro e v7 ⟨rfl, hb7⟩
  go_wp2_with fail
  refine (O.out v7.heap.size 1 _ (by simp) ?_).mono ?_
  · intro j hj
    obtain rfl : j = 0 := by simpa using hj
    show _ = some (Value.int .i64 (9 * (f : Int) + r))
    go_simp
  rintro e v8 ⟨rfl, hb8⟩
  go_wp2
  go_ret
  exact ⟨rfl, bthen (ball (bthen (bthen (bthen (bthen (bthen (bthen (bthen (hB) hb1) hb2) hb3) hb4) hb5) hb6) hb7) _) hb8⟩

theorem walk (a0 a1 : Int) (w0 : (Lit.int .i64 a0).wf = true) (w1 : (Lit.int .i64 a1).wf = true) (w : World) (hT : Tab w) :
    Calls Tryd.prog 6 #[.int .i64 a0, .int .i64 a1] w fun e w' => e = .returned (.bool true) ∧ Below w.heap.size w w' := by
  by_cases h : a0 < 0 ∨ 8 < a0 ∨ a1 < 0 ∨ 8 < a1
  · exact walk_out a0 a1 h w hT
  · obtain ⟨f, rfl⟩ : ∃ f : Nat, a0 = f := ⟨a0.toNat, by omega⟩
    obtain ⟨r, rfl⟩ : ∃ r : Nat, a1 = r := ⟨a1.toNat, by omega⟩
    exact walk_sq f r (by omega) (by omega) w hT
end Go.Proofs.YtopggngfchjfhaaDoor.setSquares
