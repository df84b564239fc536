/-
  The walk of the law StepOf: for every piece and every number it returns true.
-/
import Derived.Test.YtopggngfchjfhaaStepMath
import Derived.Test.YtopggngfchjfhaaStepHead
import Derived.Test.YtopggngfchjfhaaStepRef
namespace Go.Proofs.Ytopggngfchjfhaa.stepOf
open Go.RowKit
set_option linter.unusedVariables false

theorem bounds_i8 {a : Int} (h : (Lit.int .i8 a).wf = true) : -128 ≤ a ∧ a ≤ 127 := by
  simpa [Lit.wf, IntKind.min, IntKind.max, IntKind.signed, IntKind.bits] using h
theorem and_full {n : Nat} (h : Sq n) : n &&& full = n := by
  apply Nat.eq_of_testBit_eq
  intro i
  rw [Nat.testBit_and, test_full]
  by_cases hi : i < 81
  · simp [hi]
  · rw [test_sq h i (by omega)]
    rfl

theorem walk (p q : Int) (g0 : (Lit.int .i8 p).wf = true) (g1 : (Lit.int .i64 q).wf = true) (w : World) :
    Calls Try.prog 3 #[.int .i8 p, .int .i64 q] w fun e w' => e = .returned (.bool true) ∧ Below w.heap.size w w' := by
  obtain ⟨p0, p1⟩ := bounds_i8 g0
  have H := Lib.hid (steps_true w)
  have O := Lib.hid (fun W => stepOf_any p q p0 p1 W)
  have A := Lib.hid (fun W => and_any (stepN p q) full (stepN_sq p q) Sq.full W)
  rw [and_full (stepN_sq p q)] at A
  have L := Lib.hid (fun W => all_any W)
  have R := Lib.hid (fun (t : Int) W => refStep_any p q t p0 p1 W)
  have S := Lib.hid (fun (k : Nat) W => has_any (stepN p q) k (stepN_sq p q) W)
  have E : Hid (∀ k : Nat, k < 81 → (!decide (stepN p q &&& oneN (k : Int) = 0)) = refStepF p q k) := fun k hk => by
    rw [has_nat _ _ hk, stepN_test p q k hk]
  clear g0 g1
  go_enter Try.func3, Try.ntmps3
  go_wp2_with (first
    | (go_at_call 8; refine H.out.mono ?_; rintro e w1 ⟨rfl, hb1⟩)
    | (go_at_call 9; refine (O.out _).mono ?_; rintro e w2 ⟨rfl, hb2⟩))
  have V0 : Var (w2.alloc (Obj.cells #[Value.int IntKind.u64 (loW (stepN p q)), Value.int IntKind.u64 (hiW (stepN p q))] 27)) w2.heap.size (loW (stepN p q)) (hiW (stepN p q)) := ⟨by simp, by go_simp, by go_simp, by go_simp, by go_simp⟩
  have B0 : Below w.heap.size w (w2.alloc (Obj.cells #[Value.int IntKind.u64 (loW (stepN p q)), Value.int IntKind.u64 (hiW (stepN p q))] 27)) := ball (bthen hb1 hb2) _
  generalize w2.alloc (Obj.cells #[Value.int IntKind.u64 (loW (stepN p q)), Value.int IntKind.u64 (hiW (stepN p q))] 27) = w3 at V0 B0 ⊢
  generalize w2.heap.size = b at V0 ⊢
  clear hb1 hb2 H O
  go_loopw [6] (fun i wr => ∃ k : Nat, k ≤ 81 ∧ i = .int .i64 k ∧ Below w.heap.size w wr ∧ Var wr b (loW (stepN p q)) (hiW (stepN p q))) (fun i _ => 81 - (intOf i).toNat)
  case atStart => exact ⟨0, Nat.zero_le _, rfl, B0, V0⟩
  case round =>
    obtain ⟨k, hk, rfl, hB, hV⟩ := hrel
    clear B0 V0
    have HB := Lib.hid hB
    have HV := Lib.hid hV
    have hz := hV.lt
    have l0 := hV.lo
    have l1 := hV.hi
    have wk : wrap64 ((k : Int) + 1) = ((k + 1 : Nat) : Int) := by unfold wrap64; omega
    by_cases hlt : k < 81
    · have S' := Lib.hid (S.out k)
      have R' := Lib.hid (R.out k)
      rw [E.out k hlt] at S'
      clear S R E hB hV A L
      generalize refStepF p q k = bb at S' R'
      generalize loW (stepN p q) = x at S' l0 HV
      generalize hiW (stepN p q) = y at S' l1 HV
      go_wp2_with (first
        | (go_at_call 10; refine (S'.out _).mono ?_; rintro e w4 ⟨rfl, hb4⟩)
        | (go_at_call 11; refine (R'.out _).mono ?_; rintro e w5 ⟨rfl, hb5⟩))
      go_roundw
      case rel => exact ⟨k + 1, by omega, by go_num, HB.out.trans ((bthen hb4 hb5).mono HB.out.size), HV.out.grow (bthen hb4 hb5)⟩
      case measure => simp [intOf]; omega
    · obtain rfl : k = 81 := by omega
      clear S R E hB hV
      generalize loW (stepN p q) = x at A l0 HV
      generalize hiW (stepN p q) = y at A l1 HV
      generalize loW full = fx at A L
      generalize hiW full = fy at A L
      go_wp2_with fail
      go_region_held3 (fun w' => Below wr.heap.size wr w' ∧ b < w'.heap.size ∧ w'.cell? ⟨b, 0, none⟩ = some (.int .u64 x) ∧ w'.cell? ⟨b, 1, none⟩ = some (.int .u64 y)) (first | assumption | exact ⟨(bref wr).drew, hz, l0, l1⟩ | exact held2_step (by assumption) hb)
        (first
          | (go_at_call 13; refine (L.out _).mono ?_; rintro e wn ⟨rfl, hb⟩)
          | (go_at_call 12; refine (A.out _).mono ?_; rintro e wn ⟨rfl, hb⟩))
      go_wp2
      go_ret
      exact ⟨rfl, bthen HB.out (held2_fst (by assumption))⟩
end Go.Proofs.Ytopggngfchjfhaa.stepOf
