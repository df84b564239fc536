/-
  The walk of the law PieceNames: for every two numbers of pieces it returns true.
-/
import Derived.Test.YtpaelhhpaapgmaaRefName
import Derived.OpenShut
namespace Go.Proofs.Ytpaelhhpaapgmaa.pieceNames
open Go.RowKit
set_option linter.unusedVariables false

def lastB (a : Int) : UInt8 := (nameF a).data.toList.getLastD 0
def nmF (plus : Bool) (c : UInt8) : ByteArray := if plus = true then ⟨#[43, c]⟩ else ⟨#[c]⟩
def plusF (a : Int) : Bool := decide (8 < kindF a)
theorem one_all : ∀ n : Nat, n < 32 → kindF n ≠ 0 → nameF n = nmF (plusF n) (lastB n) ∧ parseF (lastB n).toNat (plusF n) = n ∧ (lastB n).toNat < 128 ∧ ((sideF n == 1) = false ∨ ((sideF n == 1) = true ∧ 17 ≤ n ∧ smallP (nameF ((n : Int) - 16)) (nameF ((n : Int) - 16)).size = nameF n)) := by decide +kernel
theorem two_all : ∀ n : Nat, n < 32 → ∀ m : Nat, m < 32 → kindF n ≠ 0 → kindF m ≠ 0 → ((nameF n).toList == (nameF m).toList) = decide (n = m) := by decide +kernel

theorem kind_range (p : Int) (h : kindF p ≠ 0) : ∃ n : Nat, n < 32 ∧ p = n ∧ 1 ≤ n := by
  have := fun hn => (kindF_not p hn).1
  refine ⟨p.toNat, ?_, ?_, ?_⟩ <;> (apply Classical.byContradiction; intro hc; exact h (this (by omega)))

theorem walk_a (a b : Int) (a0 : -128 ≤ a) (a1 : a ≤ 127) (b0 : -128 ≤ b) (b1 : b ≤ 127) (h : kindF a = 0) (w : World) :
    Calls Try.prog 8 #[.int .i8 a, .int .i8 b] w fun e w' => e = .returned (.bool true) ∧ Below w.heap.size w w' := by
  have N := Lib.hid (fun W => name_any a W a0 a1)
  have M := Lib.hid (fun W => name_any b W b0 b1)
  have K := Lib.hid (fun W => kind_any a W a0 a1)
  rw [h] at K
  rw [show nameF a = ⟨#[]⟩ from if_pos h] at N
  generalize nameF b = y at M
  clear h
  go_enter Try.func8, Try.ntmps8
  go_wp2_with (go_at_call 10; refine (names_true _).mono ?_; rintro e w1 ⟨rfl, hB⟩)
  refine (N.out _).mono ?_
  rintro e w2 ⟨rfl, hB2⟩
  go_wp2_with fail
  refine (M.out _).mono ?_
  rintro e w3 ⟨rfl, hB3⟩
  go_wp2_with (go_at_call 11; refine (K.out _).mono ?_; rintro e w' ⟨rfl, rfl⟩)
  go_ret
  have c1 := hB.trans (hB2.mono hB.size)
  exact ⟨rfl, c1.trans (hB3.mono c1.size)⟩

theorem nm_toList (p : Bool) (c : UInt8) : (nmF p c).toList = if p = true then [43, c] else [c] := by
  cases p
  · exact ByteArray.toList_mk [c]
  · exact ByteArray.toList_mk [43, c]

theorem walk_b (a b : Int) (a0 : -128 ≤ a) (a1 : a ≤ 127) (b0 : -128 ≤ b) (b1 : b ≤ 127) (h : kindF a ≠ 0) (hb : kindF b = 0) (w : World) :
    Calls Try.prog 8 #[.int .i8 a, .int .i8 b] w fun e w' => e = .returned (.bool true) ∧ Below w.heap.size w w' := by
  have N := Lib.hid (fun W => name_any a W a0 a1)
  have M := Lib.hid (fun W => name_any b W b0 b1)
  have K := Lib.hid (fun W => kind_any a W a0 a1)
  rw [show nameF b = ⟨#[]⟩ from if_pos hb] at M
  obtain ⟨n, hn, rfl, _⟩ := kind_range a h
  have f := (one_all n hn h).1
  have hx : (nameF n).toList.isEmpty = false := by rw [f, nm_toList]; split <;> rfl
  have hk : (kindF n == 0) = false := by simpa using h
  generalize nameF n = x at N hx
  generalize kindF n = k at K hk
  clear h hb f
  go_enter Try.func8, Try.ntmps8
  go_wp2_with (go_at_call 10; refine (names_true _).mono ?_; rintro e w1 ⟨rfl, hB⟩)
  refine (N.out _).mono ?_
  rintro e w2 ⟨rfl, hB2⟩
  go_wp2_with fail
  refine (M.out _).mono ?_
  rintro e w3 ⟨rfl, hB3⟩
  go_wp2_with (go_at_call 11; refine (K.out _).mono ?_; rintro e w' ⟨rfl, rfl⟩)
  go_ret
  have c1 := hB.trans (hB2.mono hB.size)
  exact ⟨rfl, c1.trans (hB3.mono c1.size)⟩

theorem name_size (p : Int) : (nameF p).size ≤ 8 := by
  unfold nameF letterF
  split
  · exact Nat.zero_le _
  · split
    · have := encode_le (atFrom (lettersL (sideF p)) (rawF (kindF p)))
      omega
    · rw [ByteArray.size_append]
      have := encode_le (atFrom (lettersL (sideF p)) (rawF (kindF p)))
      show 1 + _ ≤ 8
      omega

theorem walk_c (n m : Nat) (hn : n < 32) (hm : m < 32) (h : kindF n ≠ 0) (hb : kindF m ≠ 0) (w : World) :
    Calls Try.prog 8 #[.int .i8 n, .int .i8 m] w fun e w' => e = .returned (.bool true) ∧ Below w.heap.size w w' := by
  have N := Lib.hid (fun W => name_any n W (by omega) (by omega))
  have M := Lib.hid (fun W => name_any m W (by omega) (by omega))
  have S := Lib.hid (fun W => side_any n W (by omega) (by omega))
  obtain ⟨f1, f2, f3, f4⟩ := one_all n hn h
  have P := Lib.hid (fun W => parse_any (lastB n).toNat (plusF n) W)
  rw [f2] at P
  have hy : (nameF m).toList.isEmpty = false := by rw [(one_all m hm hb).1, nm_toList]; split <;> rfl
  have hxy := two_all n hn m hm h hb
  have hnn : (((n : Int)) != (n : Int)) = false := by simp
  have hab : ((n : Int) == (m : Int)) = decide (n = m) := by
    by_cases e : n = m
    · subst e; simp
    · have : ¬ (n : Int) = m := by omega
      simp [e, this]
  generalize nameF m = y at M hy hxy
  generalize decide (n = m) = d at hxy hab
  have hdd : (d != d) = false := by cases d <;> rfl
  generalize sideF n = s at S f4
  generalize hp : plusF n = plus at f1 f2 P
  generalize lastB n = c at f1 f2 f3 P
  have fx : (smallP (nameF ((n : Int) - 16)) (nameF ((n : Int) - 16)).size = nameF n) = (smallP (nameF ((n : Int) - 16)) (nameF ((n : Int) - 16)).size = nmF plus c) := by rw [f1]
  rw [fx] at f4
  rw [f1] at N hxy
  clear fx f1 f2 hp h hb
  rcases f4 with s0 | ⟨s1, h17, hsm⟩
  · have s2 : (s != 1) = true := by simpa using s0
    cases plus with
    | false =>
      simp only [nmF, Bool.false_eq_true, if_false, if_true] at N hxy
      rw [show (⟨#[c]⟩ : ByteArray).toList = [c] from ByteArray.toList_mk [c]] at hxy
      have hg : ((⟨#[c]⟩ : ByteArray)[0]'(by show 0 < 1; omega)) = c := rfl
      go_enter Try.func8, Try.ntmps8
      go_wp2_with (go_at_call 10; refine (names_true _).mono ?_; rintro e w1 ⟨rfl, hB⟩)
      refine (N.out _).mono ?_
      rintro e w2 ⟨rfl, hB2⟩
      go_wp2_with fail
      refine (M.out _).mono ?_
      rintro e w3 ⟨rfl, hB3⟩
      go_wp2_with (first | (go_at_call 24; refine (P.out _).mono ?_; rintro e w4 ⟨rfl, hB4⟩) | (go_at_call 12; refine (S.out _).mono ?_; rintro e w' ⟨rfl, rfl⟩))
      go_ret
      have c1 := hB.trans (hB2.mono hB.size)
      have c2 := c1.trans (hB3.mono c1.size)
      have c3 := c2.trans (hB4.mono c2.size)
      exact ⟨rfl, c3⟩
    | true =>
      simp only [nmF, Bool.false_eq_true, if_false, if_true] at N hxy
      rw [show (⟨#[43, c]⟩ : ByteArray).toList = [43, c] from ByteArray.toList_mk [43, c]] at hxy
      have hg : ((⟨#[43, c]⟩ : ByteArray)[1]'(by show 1 < 2; omega)) = c := rfl
      go_enter Try.func8, Try.ntmps8
      go_wp2_with (go_at_call 10; refine (names_true _).mono ?_; rintro e w1 ⟨rfl, hB⟩)
      refine (N.out _).mono ?_
      rintro e w2 ⟨rfl, hB2⟩
      go_wp2_with fail
      refine (M.out _).mono ?_
      rintro e w3 ⟨rfl, hB3⟩
      go_wp2_with (first | (go_at_call 24; refine (P.out _).mono ?_; rintro e w4 ⟨rfl, hB4⟩) | (go_at_call 12; refine (S.out _).mono ?_; rintro e w' ⟨rfl, rfl⟩))
      go_ret
      have c1 := hB.trans (hB2.mono hB.size)
      have c2 := c1.trans (hB3.mono c1.size)
      have c3 := c2.trans (hB4.mono c2.size)
      exact ⟨rfl, c3⟩
  · obtain rfl : s = 1 := by simpa using s1
    clear s1
    cases plus with
    | false =>
      simp only [nmF, Bool.false_eq_true, if_false, if_true] at N hxy hsm
      rw [show (⟨#[c]⟩ : ByteArray).toList = [c] from ByteArray.toList_mk [c]] at hxy
      have hg : ((⟨#[c]⟩ : ByteArray)[0]'(by show 0 < 1; omega)) = c := rfl
      have N2 := Lib.hid (fun W => name_any ((n : Int) - 16) W (by omega) (by omega))
      have Q := Lib.hid (fun W => small_any (nameF ((n : Int) - 16)) W (by have := name_size ((n : Int) - 16); omega))
      rw [hsm] at Q
      clear hsm
      generalize nameF ((n : Int) - 16) = z at N2 Q
      go_enter Try.func8, Try.ntmps8
      go_wp2_with (go_at_call 10; refine (names_true _).mono ?_; rintro e w1 ⟨rfl, hB⟩)
      refine (N.out _).mono ?_
      rintro e w2 ⟨rfl, hB2⟩
      go_wp2_with fail
      refine (M.out _).mono ?_
      rintro e w3 ⟨rfl, hB3⟩
      go_wp2_with (first | (go_at_call 24; refine (P.out _).mono ?_; rintro e w4 ⟨rfl, hB4⟩) | (go_at_call 12; refine (S.out _).mono ?_; rintro e w' ⟨rfl, rfl⟩) | (go_at_call 15; refine (N2.out _).mono ?_; rintro e w5 ⟨rfl, hB5⟩) | (go_at_call 28; refine (Q.out _).mono ?_; rintro e w6 ⟨rfl, hB6⟩))
      go_ret
      have c1 := hB.trans (hB2.mono hB.size)
      have c2 := c1.trans (hB3.mono c1.size)
      have c3 := c2.trans (hB4.mono c2.size)
      have c4 := c3.trans (hB5.mono c3.size)
      exact ⟨rfl, c4.trans (hB6.mono c4.size)⟩
    | true =>
      simp only [nmF, Bool.false_eq_true, if_false, if_true] at N hxy hsm
      rw [show (⟨#[43, c]⟩ : ByteArray).toList = [43, c] from ByteArray.toList_mk [43, c]] at hxy
      have hg : ((⟨#[43, c]⟩ : ByteArray)[1]'(by show 1 < 2; omega)) = c := rfl
      have N2 := Lib.hid (fun W => name_any ((n : Int) - 16) W (by omega) (by omega))
      have Q := Lib.hid (fun W => small_any (nameF ((n : Int) - 16)) W (by have := name_size ((n : Int) - 16); omega))
      rw [hsm] at Q
      clear hsm
      generalize nameF ((n : Int) - 16) = z at N2 Q
      go_enter Try.func8, Try.ntmps8
      go_wp2_with (go_at_call 10; refine (names_true _).mono ?_; rintro e w1 ⟨rfl, hB⟩)
      refine (N.out _).mono ?_
      rintro e w2 ⟨rfl, hB2⟩
      go_wp2_with fail
      refine (M.out _).mono ?_
      rintro e w3 ⟨rfl, hB3⟩
      go_wp2_with (first | (go_at_call 24; refine (P.out _).mono ?_; rintro e w4 ⟨rfl, hB4⟩) | (go_at_call 12; refine (S.out _).mono ?_; rintro e w' ⟨rfl, rfl⟩) | (go_at_call 15; refine (N2.out _).mono ?_; rintro e w5 ⟨rfl, hB5⟩) | (go_at_call 28; refine (Q.out _).mono ?_; rintro e w6 ⟨rfl, hB6⟩))
      go_ret
      have c1 := hB.trans (hB2.mono hB.size)
      have c2 := c1.trans (hB3.mono c1.size)
      have c3 := c2.trans (hB4.mono c2.size)
      have c4 := c3.trans (hB5.mono c3.size)
      exact ⟨rfl, c4.trans (hB6.mono c4.size)⟩

theorem walk (a0 : Int) (a1 : Int) (w0 : (Lit.int .i8 a0).wf = true) (w1 : (Lit.int .i8 a1).wf = true) (w : World) :
    Calls Try.prog 8 #[.int .i8 a0, .int .i8 a1] w fun e w' => e = .returned (.bool true) ∧ Below w.heap.size w w' := by
  have b := bounds_i8 w0
  have c := bounds_i8 w1
  by_cases h : kindF a0 = 0
  · exact walk_a a0 a1 b.1 b.2 c.1 c.2 h w
  · by_cases h1 : kindF a1 = 0
    · exact walk_b a0 a1 b.1 b.2 c.1 c.2 h h1 w
    · obtain ⟨n, hn, rfl, _⟩ := kind_range a0 h
      obtain ⟨m, hm, rfl, _⟩ := kind_range a1 h1
      exact walk_c n m hn hm h h1 w
end Go.Proofs.Ytpaelhhpaapgmaa.pieceNames
