/-
  The head 'steps' of the step statements is true.
-/
import Derived.Test.YtopggngfchjfhaaDoorStep3
namespace Go.Proofs.YtopggngfchjfhaaDoor
open Go.RowKit
set_option linter.unusedVariables false

theorem head1 : stepN 1 40 = ofN [39] := by decide +kernel
theorem head2 : stepN 17 40 = ofN [41] := by decide +kernel
theorem head3 : pop 81 (stepN 8 40) = 8 := by decide +kernel

theorem steps_true (w : World) :
    Calls Tryd.prog 34 #[] w fun e w' => e = .returned (.bool true) ∧ Below w.heap.size w w' := by
  have A := Lib.hid (fun W => stepOf_any 1 40 (by decide) (by decide) W)
  have B := Lib.hid (fun W => stepOf_any 17 40 (by decide) (by decide) W)
  have C := Lib.hid (fun W => stepOf_any 8 40 (by decide) (by decide) W)
  have N := Lib.hid (fun W => count_any (stepN 8 40) (stepN_sq _ _) W)
  rw [head3] at N
  have O1 := Lib.hid (fun (b cap : Nat) (W : World) (hb : b < W.heap.size) (h : ∀ (j : Nat) (hj : j < ([39] : List Int).length), W.cell? ⟨b, 0 + j, none⟩ = some (.int .i64 ([39] : List Int)[j])) => of_any b 0 cap [39] W (by simp) hb h)
  have O2 := Lib.hid (fun (b cap : Nat) (W : World) (hb : b < W.heap.size) (h : ∀ (j : Nat) (hj : j < ([41] : List Int).length), W.cell? ⟨b, 0 + j, none⟩ = some (.int .i64 ([41] : List Int)[j])) => of_any b 0 cap [41] W (by simp) hb h)
  rw [← head1] at O1
  rw [← head2] at O2
  generalize loW (stepN 1 40) = x1 at A O1
  generalize hiW (stepN 1 40) = y1 at A O1
  generalize loW (stepN 17 40) = x2 at B O2
  generalize hiW (stepN 17 40) = y2 at B O2
  generalize loW (stepN 8 40) = x3 at C N
  generalize hiW (stepN 8 40) = y3 at C N
  go_enter Tryd.func34, Tryd.ntmps34
  go_wp2_with (go_at_call 35; refine (A.out _).mono ?_; rintro e w1 ⟨rfl, hb1⟩)
  refine (O1.out w1.heap.size 1 _ (by simp) ?_).mono ?_
  · intro j hj
    obtain rfl : j = 0 := by simpa using hj
    show _ = some (Value.int .i64 39)
    go_simp
  rintro e w2 ⟨rfl, hb2⟩
  have H2 := Lib.hid (bthen (ball hb1 _) hb2)
  clear hb1 hb2 O1 A
  go_wp2_with (go_at_call 35; refine (B.out _).mono ?_; rintro e w3 ⟨rfl, hb3⟩)
  refine (O2.out w3.heap.size 1 _ (by simp) ?_).mono ?_
  · intro j hj
    obtain rfl : j = 0 := by simpa using hj
    show _ = some (Value.int .i64 41)
    go_simp
  rintro e w4 ⟨rfl, hb4⟩
  have H4 := Lib.hid (bthen H2.out (bthen (ball hb3 _) hb4))
  clear hb3 hb4 O2 B
  go_wp2_with (first | (go_at_call 35; refine (C.out _).mono ?_; rintro e w5 ⟨rfl, hb5⟩) | (go_at_call 26; refine (N.out _).mono ?_; rintro e w6 ⟨rfl, hb6⟩))
  go_ret
  exact ⟨rfl, bthen H4.out (bthen hb5 hb6)⟩
end Go.Proofs.YtopggngfchjfhaaDoor
