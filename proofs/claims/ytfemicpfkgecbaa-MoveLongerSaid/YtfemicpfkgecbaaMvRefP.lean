/-
  The reference's Parse of moves.
-/
import Derived.Test.YtfemicpfkgecbaaMvRef3
import Derived.Test.YtfemicpfkgecbaaMvGood
import Derived.Deep.QuietTactic
import Derived.BigQuiet
namespace Go.Proofs.Ytfemicpfkgecbaa
open Go.RowKit
set_option linter.unusedVariables false
set_option linter.unusedSimpArgs false

def filesS : ByteArray := ⟨#[49, 50, 51, 52, 53, 54, 55, 56, 57]⟩
def ranksS : ByteArray := ⟨#[97, 98, 99, 100, 101, 102, 103, 104, 105]⟩
def kindsS : ByteArray := ⟨#[80, 76, 78, 83, 71, 66, 82]⟩
theorem find_files : ∀ n : Nat, n < 256 → findF filesS n = if 49 ≤ n ∧ n ≤ 57 then (n : Int) - 49 else -1 := by decide +kernel
theorem find_ranks : ∀ n : Nat, n < 256 → findF ranksS n = if 97 ≤ n ∧ n ≤ 105 then (n : Int) - 97 else -1 := by decide +kernel
theorem find_kinds : ∀ n : Nat, n < 256 → (findF kindsS n = -1 ∨ (0 ≤ findF kindsS n ∧ findF kindsS n ≤ 6 ∧ (letB (findF kindsS n + 1)).toNat = n)) := by decide +kernel
theorem kinds_let : ∀ d : Nat, d < 8 → 1 ≤ d → findF kindsS (letB d).toNat = (d : Int) - 1 := by decide +kernel
/-- The square that the reference reads of two bytes; -1: none. -/
def sqR (a b : UInt8) : Int := if findF filesS a.toNat < 0 ∨ findF ranksS b.toNat < 0 then -1 else 9 * findF filesS a.toNat + findF ranksS b.toNat
theorem refsq_any (a b : UInt8) (w : World) :
    Calls Try.prog 25 #[.string ⟨#[a, b]⟩] w fun e w' => e = .returned (.int .i64 (sqR a b)) ∧ w = w' := by
  have F := Lib.hid (fun W => find_any filesS a.toNat W (by decide))
  have R := Lib.hid (fun W => find_any ranksS b.toNat W (by decide))
  have hf := find_files a.toNat a.toNat_lt
  have hr := find_ranks b.toNat b.toNat_lt
  have fb : -1 ≤ findF filesS a.toNat ∧ findF filesS a.toNat ≤ 8 := by rw [hf]; split <;> omega
  have rb : -1 ≤ findF ranksS b.toNat ∧ findF ranksS b.toNat ≤ 8 := by rw [hr]; split <;> omega
  unfold sqR
  clear hf hr
  generalize findF filesS a.toNat = f at *
  generalize findF ranksS b.toNat = r at *
  unfold filesS at F
  unfold ranksS at R
  obtain ⟨f0, f8⟩ := fb
  obtain ⟨r0, r8⟩ := rb
  by_cases h1 : f < 0
  · rw [if_pos (.inl h1)]
    go_enter Try.func25, Try.ntmps25
    go_wp2_with (first
      | (go_at_call_of 24 (Value.string ⟨#[49, 50, 51, 52, 53, 54, 55, 56, 57]⟩); refine (F.out _).mono ?_; rintro e w1 ⟨rfl, rfl⟩)
      | (go_at_call 24; refine (R.out _).mono ?_; rintro e w2 ⟨rfl, rfl⟩))
    go_ret
    exact ⟨rfl, rfl⟩
  · by_cases h2 : r < 0
    · rw [if_pos (.inr h2)]
      go_enter Try.func25, Try.ntmps25
      go_wp2_with (first
        | (go_at_call_of 24 (Value.string ⟨#[49, 50, 51, 52, 53, 54, 55, 56, 57]⟩); refine (F.out _).mono ?_; rintro e w1 ⟨rfl, rfl⟩)
        | (go_at_call 24; refine (R.out _).mono ?_; rintro e w2 ⟨rfl, rfl⟩))
      go_ret
      exact ⟨rfl, rfl⟩
    · rw [if_neg (by omega)]
      go_enter Try.func25, Try.ntmps25
      go_wp2_with (first
        | (go_at_call_of 24 (Value.string ⟨#[49, 50, 51, 52, 53, 54, 55, 56, 57]⟩); refine (F.out _).mono ?_; rintro e w1 ⟨rfl, rfl⟩)
        | (go_at_call 24; refine (R.out _).mono ?_; rintro e w2 ⟨rfl, rfl⟩))
      go_ret
      exact ⟨rfl, rfl⟩

theorem refParse_size (s : ByteArray) (h4 : s.size ≠ 4) (h5 : s.size ≠ 5) (hs : s.size ≤ 9223372036854775807) (w : World) :
    Calls Try.prog 14 #[.string s] w fun e w' => e = .returned (.tuple #[.agg #[.int .i64 0, .int .i64 0, .int .i64 0, .bool false], .int .i64 70]) ∧ Below w.heap.size w w' := by
  have b4 : ((s.size : Int) != 4) = true := by simp; omega
  have b5 : ((s.size : Int) != 5) = true := by simp; omega
  clear h4 h5 hs
  go_enter Try.func14, Try.ntmps14
  go_wp2
  exact bodyPost_ret (v := .tuple #[.agg #[.int .i64 0, .int .i64 0, .int .i64 0, .bool false], .int .i64 70]) (by simp [results, Try.results14, go_sem]) rfl ⟨rfl, by first | exact ball (bref w) _ | exact bdrewN (ball (bref w) _) _⟩

theorem refParse_star5 (a b c d e : UInt8) (hb : (b.toNat : Int) = 42) (w : World) :
    Calls Try.prog 14 #[.string ⟨#[a, b, c, d, e]⟩] w fun e w' => e = .returned (.tuple #[.agg #[.int .i64 0, .int .i64 0, .int .i64 0, .bool false], .int .i64 70]) ∧ Below w.heap.size w w' := by
  have K := Lib.hid (fun W => find_any kindsS a.toNat W (by decide))
  have Q2 := Lib.hid (fun W => refsq_any c d W)
  have i0 : ∀ h, (⟨#[a, b, c, d, e]⟩ : ByteArray)[0]'h = a := fun _ => rfl
  have i1 : ∀ h, (⟨#[a, b, c, d, e]⟩ : ByteArray)[1]'h = b := fun _ => rfl
  have i4 : ∀ h, (⟨#[a, b, c, d, e]⟩ : ByteArray)[4]'h = e := fun _ => rfl
  have b1 : ((b.toNat : Int) == 42) = true := by simpa using hb
  generalize findF kindsS a.toNat = k at *
  unfold kindsS at K
  generalize sqR c d = q at *
  clear hb
  go_enter Try.func14, Try.ntmps14
  go_wp2_with (first
    | (go_at_call 24; refine (K.out _).mono ?_; rintro e w1 ⟨rfl, rfl⟩)
    | (go_at_call 25; refine (Q2.out _).mono ?_; rintro e w2 ⟨rfl, rfl⟩))
  exact bodyPost_ret (v := .tuple #[.agg #[.int .i64 0, .int .i64 0, .int .i64 0, .bool false], .int .i64 70]) (by simp [results, Try.results14, go_sem]) rfl ⟨rfl, by first | exact ball (bref w) _ | exact bdrewN (ball (bref w) _) _⟩

theorem refParse_star4_no (a b c d : UInt8) (hb : (b.toNat : Int) = 42) (h : findF kindsS a.toNat < 0 ∨ sqR c d < 0) (w : World) :
    Calls Try.prog 14 #[.string ⟨#[a, b, c, d]⟩] w fun e w' => e = .returned (.tuple #[.agg #[.int .i64 0, .int .i64 0, .int .i64 0, .bool false], .int .i64 70]) ∧ Below w.heap.size w w' := by
  have K := Lib.hid (fun W => find_any kindsS a.toNat W (by decide))
  have Q2 := Lib.hid (fun W => refsq_any c d W)
  have i0 : ∀ h, (⟨#[a, b, c, d]⟩ : ByteArray)[0]'h = a := fun _ => rfl
  have i1 : ∀ h, (⟨#[a, b, c, d]⟩ : ByteArray)[1]'h = b := fun _ => rfl
  have b1 : ((b.toNat : Int) == 42) = true := by simpa using hb
  generalize findF kindsS a.toNat = k at *
  unfold kindsS at K
  generalize sqR c d = q at *
  clear hb
  by_cases hk : k < 0
  · clear h
    go_enter Try.func14, Try.ntmps14
    go_wp2_with (first
      | (go_at_call 24; refine (K.out _).mono ?_; rintro e w1 ⟨rfl, rfl⟩)
      | (go_at_call 25; refine (Q2.out _).mono ?_; rintro e w2 ⟨rfl, rfl⟩))
    exact bodyPost_ret (v := .tuple #[.agg #[.int .i64 0, .int .i64 0, .int .i64 0, .bool false], .int .i64 70]) (by simp [results, Try.results14, go_sem]) rfl ⟨rfl, by first | exact ball (bref w) _ | exact bdrewN (ball (bref w) _) _⟩
  · have hq : q < 0 := by omega
    clear h
    go_enter Try.func14, Try.ntmps14
    go_wp2_with (first
      | (go_at_call 24; refine (K.out _).mono ?_; rintro e w1 ⟨rfl, rfl⟩)
      | (go_at_call 25; refine (Q2.out _).mono ?_; rintro e w2 ⟨rfl, rfl⟩))
    exact bodyPost_ret (v := .tuple #[.agg #[.int .i64 0, .int .i64 0, .int .i64 0, .bool false], .int .i64 70]) (by simp [results, Try.results14, go_sem]) rfl ⟨rfl, by first | exact ball (bref w) _ | exact bdrewN (ball (bref w) _) _⟩

theorem refParse_star4_yes (a b c d : UInt8) (hb : (b.toNat : Int) = 42) (h1 : 0 ≤ findF kindsS a.toNat) (h2 : findF kindsS a.toNat ≤ 6) (h3 : 0 ≤ sqR c d) (w : World) :
    Calls Try.prog 14 #[.string ⟨#[a, b, c, d]⟩] w fun e w' => e = .returned (.tuple #[.agg #[.int .i64 0, .int .i64 (sqR c d), .int .i64 (findF kindsS a.toNat + 1), .bool false], .int .i64 0]) ∧ Below w.heap.size w w' := by
  have K := Lib.hid (fun W => find_any kindsS a.toNat W (by decide))
  have Q2 := Lib.hid (fun W => refsq_any c d W)
  have i0 : ∀ h, (⟨#[a, b, c, d]⟩ : ByteArray)[0]'h = a := fun _ => rfl
  have i1 : ∀ h, (⟨#[a, b, c, d]⟩ : ByteArray)[1]'h = b := fun _ => rfl
  have b1 : ((b.toNat : Int) == 42) = true := by simpa using hb
  generalize findF kindsS a.toNat = k at *
  unfold kindsS at K
  generalize sqR c d = q at *
  clear hb
  have n1 : ¬ k < 0 := by omega
  have n2 : ¬ q < 0 := by omega
  go_enter Try.func14, Try.ntmps14
  go_wp2_with (first
    | (go_at_call 24; refine (K.out _).mono ?_; rintro e w1 ⟨rfl, rfl⟩)
    | (go_at_call 25; refine (Q2.out _).mono ?_; rintro e w2 ⟨rfl, rfl⟩))
  exact bodyPost_ret (v := .tuple #[.agg #[.int .i64 0, .int .i64 q, .int .i64 (k + 1), .bool false], .int .i64 0]) (by simp [results, Try.results14, go_sem]) rfl ⟨rfl, by first | exact ball (bref w) _ | exact bdrewN (ball (bref w) _) _⟩
end Go.Proofs.Ytfemicpfkgecbaa
