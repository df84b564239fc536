/-
  The reference's Parse of moves on the board.
-/
import Derived.Test.YtfemicpfkgecbaaMvRefP
namespace Go.Proofs.Ytfemicpfkgecbaa
open Go.RowKit
set_option linter.unusedVariables false
set_option linter.unusedSimpArgs false

set_option maxHeartbeats 1000000 in
theorem refParse_go4_no (a b c d : UInt8) (hb : (b.toNat : Int) ≠ 42) (h : sqR a b < 0 ∨ sqR c d < 0 ∨ sqR a b = sqR c d) (w : World) :
    Calls Try.prog 14 #[.string ⟨#[a, b, c, d]⟩] w fun e w' => e = .returned (.tuple #[.agg #[.int .i64 0, .int .i64 0, .int .i64 0, .bool false], .int .i64 70]) ∧ Below w.heap.size w w' := by
  have Q1 := Lib.hid (fun W => refsq_any a b W)
  have Q2 := Lib.hid (fun W => refsq_any c d W)
  have b1 : ((b.toNat : Int) == 42) = false := by simpa using hb
  have i0 : ∀ h, (⟨#[a, b, c, d]⟩ : ByteArray)[0]'h = a := fun _ => rfl
  have x1 : (⟨#[a, b, c, d]⟩ : ByteArray).extract 0 2 = ⟨#[a, b]⟩ := rfl
  have x2 : (⟨#[a, b, c, d]⟩ : ByteArray).extract 2 4 = ⟨#[c, d]⟩ := rfl
  have i1 : ∀ h, (⟨#[a, b, c, d]⟩ : ByteArray)[1]'h = b := fun _ => rfl
  generalize sqR a b = q at *
  generalize sqR c d = r at *
  clear hb
  by_cases hq : q < 0
  · clear h
    go_enter Try.func14, Try.ntmps14
    go_wp2
    go_quiet (first
      | (go_at_call_of 25 (Value.string ⟨#[a, b]⟩); exact Calls.quiet_of_same ((Q1.out _).mono fun _ _ h => ⟨h.1, h.2.symm⟩))
      | (go_at_call_of 25 (Value.string ⟨#[c, d]⟩); exact Calls.quiet_of_same ((Q2.out _).mono fun _ _ h => ⟨h.1, h.2.symm⟩)))
    go_wp2
    exact bodyPost_ret (v := .tuple #[.agg #[.int .i64 0, .int .i64 0, .int .i64 0, .bool false], .int .i64 70]) (by simp [results, Try.results14, go_sem]) rfl ⟨rfl, ((((bdrewN (ball (bref w) _) _).setCell (by simp) _).setCell (by simp) _).setCell (by simp) _).setCell (by simp) _⟩
  · by_cases hr : r < 0
    · clear h
      go_enter Try.func14, Try.ntmps14
      go_wp2
      go_quiet (first
        | (go_at_call_of 25 (Value.string ⟨#[a, b]⟩); exact Calls.quiet_of_same ((Q1.out _).mono fun _ _ h => ⟨h.1, h.2.symm⟩))
        | (go_at_call_of 25 (Value.string ⟨#[c, d]⟩); exact Calls.quiet_of_same ((Q2.out _).mono fun _ _ h => ⟨h.1, h.2.symm⟩)))
      go_wp2
      exact bodyPost_ret (v := .tuple #[.agg #[.int .i64 0, .int .i64 0, .int .i64 0, .bool false], .int .i64 70]) (by simp [results, Try.results14, go_sem]) rfl ⟨rfl, ((((bdrewN (ball (bref w) _) _).setCell (by simp) _).setCell (by simp) _).setCell (by simp) _).setCell (by simp) _⟩
    · obtain rfl : q = r := by omega
      have b2 : (q == q) = true := by simp
      clear h
      go_enter Try.func14, Try.ntmps14
      go_wp2
      go_quiet (first
        | (go_at_call_of 25 (Value.string ⟨#[a, b]⟩); exact Calls.quiet_of_same ((Q1.out _).mono fun _ _ h => ⟨h.1, h.2.symm⟩))
        | (go_at_call_of 25 (Value.string ⟨#[c, d]⟩); exact Calls.quiet_of_same ((Q2.out _).mono fun _ _ h => ⟨h.1, h.2.symm⟩)))
      go_wp2
      exact bodyPost_ret (v := .tuple #[.agg #[.int .i64 0, .int .i64 0, .int .i64 0, .bool false], .int .i64 70]) (by simp [results, Try.results14, go_sem]) rfl ⟨rfl, ((((bdrewN (ball (bref w) _) _).setCell (by simp) _).setCell (by simp) _).setCell (by simp) _).setCell (by simp) _⟩
set_option maxHeartbeats 1000000 in
theorem refParse_go4_yes (a b c d : UInt8) (hb : (b.toNat : Int) ≠ 42) (h1 : 0 ≤ sqR a b) (h2 : 0 ≤ sqR c d) (h3 : sqR a b ≠ sqR c d) (w : World) :
    Calls Try.prog 14 #[.string ⟨#[a, b, c, d]⟩] w fun e w' => e = .returned (.tuple #[.agg #[.int .i64 (sqR a b), .int .i64 (sqR c d), .int .i64 0, .bool false], .int .i64 0]) ∧ Below w.heap.size w w' := by
  have Q1 := Lib.hid (fun W => refsq_any a b W)
  have Q2 := Lib.hid (fun W => refsq_any c d W)
  have b1 : ((b.toNat : Int) == 42) = false := by simpa using hb
  have i0 : ∀ h, (⟨#[a, b, c, d]⟩ : ByteArray)[0]'h = a := fun _ => rfl
  have x1 : (⟨#[a, b, c, d]⟩ : ByteArray).extract 0 2 = ⟨#[a, b]⟩ := rfl
  have x2 : (⟨#[a, b, c, d]⟩ : ByteArray).extract 2 4 = ⟨#[c, d]⟩ := rfl
  have i1 : ∀ h, (⟨#[a, b, c, d]⟩ : ByteArray)[1]'h = b := fun _ => rfl
  generalize sqR a b = q at *
  generalize sqR c d = r at *
  clear hb
  have n1 : ¬ q < 0 := by omega
  have n2 : ¬ r < 0 := by omega
  have b2 : (q == r) = false := by simpa using h3
  clear h3
  go_enter Try.func14, Try.ntmps14
  go_wp2
  go_quiet (first
    | (go_at_call_of 25 (Value.string ⟨#[a, b]⟩); exact Calls.quiet_of_same ((Q1.out _).mono fun _ _ h => ⟨h.1, h.2.symm⟩))
    | (go_at_call_of 25 (Value.string ⟨#[c, d]⟩); exact Calls.quiet_of_same ((Q2.out _).mono fun _ _ h => ⟨h.1, h.2.symm⟩)))
  go_wp2
  exact bodyPost_ret (v := .tuple #[.agg #[.int .i64 q, .int .i64 r, .int .i64 0, .bool false], .int .i64 0]) (by simp [results, Try.results14, go_sem]) rfl ⟨rfl, ((((bdrewN (ball (bref w) _) _).setCell (by simp) _).setCell (by simp) _).setCell (by simp) _).setCell (by simp) _⟩
set_option maxHeartbeats 1000000 in
theorem refParse_go5_no (a b c d e : UInt8) (hb : (b.toNat : Int) ≠ 42) (h : sqR a b < 0 ∨ sqR c d < 0 ∨ sqR a b = sqR c d) (w : World) :
    Calls Try.prog 14 #[.string ⟨#[a, b, c, d, e]⟩] w fun e w' => e = .returned (.tuple #[.agg #[.int .i64 0, .int .i64 0, .int .i64 0, .bool false], .int .i64 70]) ∧ Below w.heap.size w w' := by
  have Q1 := Lib.hid (fun W => refsq_any a b W)
  have Q2 := Lib.hid (fun W => refsq_any c d W)
  have b1 : ((b.toNat : Int) == 42) = false := by simpa using hb
  have i0 : ∀ h, (⟨#[a, b, c, d, e]⟩ : ByteArray)[0]'h = a := fun _ => rfl
  have x1 : (⟨#[a, b, c, d, e]⟩ : ByteArray).extract 0 2 = ⟨#[a, b]⟩ := rfl
  have x2 : (⟨#[a, b, c, d, e]⟩ : ByteArray).extract 2 4 = ⟨#[c, d]⟩ := rfl
  have i1 : ∀ h, (⟨#[a, b, c, d, e]⟩ : ByteArray)[1]'h = b := fun _ => rfl
  have i4 : ∀ h, (⟨#[a, b, c, d, e]⟩ : ByteArray)[4]'h = e := fun _ => rfl
  generalize sqR a b = q at *
  generalize sqR c d = r at *
  clear hb
  by_cases hq : q < 0
  · clear h
    go_enter Try.func14, Try.ntmps14
    go_wp2
    go_quiet (first
      | (go_at_call_of 25 (Value.string ⟨#[a, b]⟩); exact Calls.quiet_of_same ((Q1.out _).mono fun _ _ h => ⟨h.1, h.2.symm⟩))
      | (go_at_call_of 25 (Value.string ⟨#[c, d]⟩); exact Calls.quiet_of_same ((Q2.out _).mono fun _ _ h => ⟨h.1, h.2.symm⟩)))
    go_wp2
    exact bodyPost_ret (v := .tuple #[.agg #[.int .i64 0, .int .i64 0, .int .i64 0, .bool false], .int .i64 70]) (by simp [results, Try.results14, go_sem]) rfl ⟨rfl, ((((bdrewN (ball (bref w) _) _).setCell (by simp) _).setCell (by simp) _).setCell (by simp) _).setCell (by simp) _⟩
  · by_cases hr : r < 0
    · clear h
      go_enter Try.func14, Try.ntmps14
      go_wp2
      go_quiet (first
        | (go_at_call_of 25 (Value.string ⟨#[a, b]⟩); exact Calls.quiet_of_same ((Q1.out _).mono fun _ _ h => ⟨h.1, h.2.symm⟩))
        | (go_at_call_of 25 (Value.string ⟨#[c, d]⟩); exact Calls.quiet_of_same ((Q2.out _).mono fun _ _ h => ⟨h.1, h.2.symm⟩)))
      go_wp2
      exact bodyPost_ret (v := .tuple #[.agg #[.int .i64 0, .int .i64 0, .int .i64 0, .bool false], .int .i64 70]) (by simp [results, Try.results14, go_sem]) rfl ⟨rfl, ((((bdrewN (ball (bref w) _) _).setCell (by simp) _).setCell (by simp) _).setCell (by simp) _).setCell (by simp) _⟩
    · obtain rfl : q = r := by omega
      have b2 : (q == q) = true := by simp
      clear h
      go_enter Try.func14, Try.ntmps14
      go_wp2
      go_quiet (first
        | (go_at_call_of 25 (Value.string ⟨#[a, b]⟩); exact Calls.quiet_of_same ((Q1.out _).mono fun _ _ h => ⟨h.1, h.2.symm⟩))
        | (go_at_call_of 25 (Value.string ⟨#[c, d]⟩); exact Calls.quiet_of_same ((Q2.out _).mono fun _ _ h => ⟨h.1, h.2.symm⟩)))
      go_wp2
      exact bodyPost_ret (v := .tuple #[.agg #[.int .i64 0, .int .i64 0, .int .i64 0, .bool false], .int .i64 70]) (by simp [results, Try.results14, go_sem]) rfl ⟨rfl, ((((bdrewN (ball (bref w) _) _).setCell (by simp) _).setCell (by simp) _).setCell (by simp) _).setCell (by simp) _⟩
set_option maxHeartbeats 1000000 in
theorem refParse_go5_tail (a b c d e : UInt8) (hb : (b.toNat : Int) ≠ 42) (he : (e.toNat : Int) ≠ 43) (h1 : 0 ≤ sqR a b) (h2 : 0 ≤ sqR c d) (h3 : sqR a b ≠ sqR c d) (w : World) :
    Calls Try.prog 14 #[.string ⟨#[a, b, c, d, e]⟩] w fun e w' => e = .returned (.tuple #[.agg #[.int .i64 0, .int .i64 0, .int .i64 0, .bool false], .int .i64 70]) ∧ Below w.heap.size w w' := by
  have Q1 := Lib.hid (fun W => refsq_any a b W)
  have Q2 := Lib.hid (fun W => refsq_any c d W)
  have b1 : ((b.toNat : Int) == 42) = false := by simpa using hb
  have i0 : ∀ h, (⟨#[a, b, c, d, e]⟩ : ByteArray)[0]'h = a := fun _ => rfl
  have x1 : (⟨#[a, b, c, d, e]⟩ : ByteArray).extract 0 2 = ⟨#[a, b]⟩ := rfl
  have x2 : (⟨#[a, b, c, d, e]⟩ : ByteArray).extract 2 4 = ⟨#[c, d]⟩ := rfl
  have i1 : ∀ h, (⟨#[a, b, c, d, e]⟩ : ByteArray)[1]'h = b := fun _ => rfl
  have i4 : ∀ h, (⟨#[a, b, c, d, e]⟩ : ByteArray)[4]'h = e := fun _ => rfl
  generalize sqR a b = q at *
  generalize sqR c d = r at *
  clear hb
  have n1 : ¬ q < 0 := by omega
  have n2 : ¬ r < 0 := by omega
  have b2 : (q == r) = false := by simpa using h3
  have b3 : ((e.toNat : Int) != 43) = true := by simpa using he
  clear h3 he
  go_enter Try.func14, Try.ntmps14
  go_wp2
  go_quiet (first
    | (go_at_call_of 25 (Value.string ⟨#[a, b]⟩); exact Calls.quiet_of_same ((Q1.out _).mono fun _ _ h => ⟨h.1, h.2.symm⟩))
    | (go_at_call_of 25 (Value.string ⟨#[c, d]⟩); exact Calls.quiet_of_same ((Q2.out _).mono fun _ _ h => ⟨h.1, h.2.symm⟩)))
  go_wp2
  exact bodyPost_ret (v := .tuple #[.agg #[.int .i64 0, .int .i64 0, .int .i64 0, .bool false], .int .i64 70]) (by simp [results, Try.results14, go_sem]) rfl ⟨rfl, ((((bdrewN (ball (bref w) _) _).setCell (by simp) _).setCell (by simp) _).setCell (by simp) _).setCell (by simp) _⟩
set_option maxHeartbeats 1000000 in
theorem refParse_go5_yes (a b c d e : UInt8) (hb : (b.toNat : Int) ≠ 42) (he : (e.toNat : Int) = 43) (h1 : 0 ≤ sqR a b) (h2 : 0 ≤ sqR c d) (h3 : sqR a b ≠ sqR c d) (w : World) :
    Calls Try.prog 14 #[.string ⟨#[a, b, c, d, e]⟩] w fun e w' => e = .returned (.tuple #[.agg #[.int .i64 (sqR a b), .int .i64 (sqR c d), .int .i64 0, .bool true], .int .i64 0]) ∧ Below w.heap.size w w' := by
  have Q1 := Lib.hid (fun W => refsq_any a b W)
  have Q2 := Lib.hid (fun W => refsq_any c d W)
  have b1 : ((b.toNat : Int) == 42) = false := by simpa using hb
  have i0 : ∀ h, (⟨#[a, b, c, d, e]⟩ : ByteArray)[0]'h = a := fun _ => rfl
  have x1 : (⟨#[a, b, c, d, e]⟩ : ByteArray).extract 0 2 = ⟨#[a, b]⟩ := rfl
  have x2 : (⟨#[a, b, c, d, e]⟩ : ByteArray).extract 2 4 = ⟨#[c, d]⟩ := rfl
  have i1 : ∀ h, (⟨#[a, b, c, d, e]⟩ : ByteArray)[1]'h = b := fun _ => rfl
  have i4 : ∀ h, (⟨#[a, b, c, d, e]⟩ : ByteArray)[4]'h = e := fun _ => rfl
  generalize sqR a b = q at *
  generalize sqR c d = r at *
  clear hb
  have n1 : ¬ q < 0 := by omega
  have n2 : ¬ r < 0 := by omega
  have b2 : (q == r) = false := by simpa using h3
  have b3 : ((e.toNat : Int) != 43) = false := by simpa using he
  clear h3 he
  go_enter Try.func14, Try.ntmps14
  go_wp2
  go_quiet (first
    | (go_at_call_of 25 (Value.string ⟨#[a, b]⟩); exact Calls.quiet_of_same ((Q1.out _).mono fun _ _ h => ⟨h.1, h.2.symm⟩))
    | (go_at_call_of 25 (Value.string ⟨#[c, d]⟩); exact Calls.quiet_of_same ((Q2.out _).mono fun _ _ h => ⟨h.1, h.2.symm⟩)))
  go_wp2
  exact bodyPost_ret (v := .tuple #[.agg #[.int .i64 q, .int .i64 r, .int .i64 0, .bool true], .int .i64 0]) (by simp [results, Try.results14, go_sem]) rfl ⟨rfl, ((((bdrewN (ball (bref w) _) _).setCell (by simp) _).setCell (by simp) _).setCell (by simp) _).setCell (by simp) _⟩
end Go.Proofs.Ytfemicpfkgecbaa
