/-
  The name of a piece: what Name returns for every number, and that the statements' head 'names' is true.
-/
import Derived.Test.YtfemicpfkgecbaaNames
namespace Go.Proofs.Ytfemicpfkgecbaa
open Go.RowKit

def letterF (p : Int) : ByteArray := Utf8.encode (atFrom (lettersL (sideF p)) (rawF (kindF p)))
def nameF (p : Int) : ByteArray := if kindF p = 0 then ⟨#[]⟩ else if rawF (kindF p) = kindF p then letterF p else ⟨#[43]⟩ ++ letterF p

theorem encode_le (n : Int) : (Utf8.encode n).size ≤ 4 := by
  unfold Utf8.encode
  generalize (if Utf8.valid n = true then n.toNat else Utf8.runeError) = c
  dsimp only
  by_cases h1 : c < 128
  · rw [if_pos h1]; show 1 ≤ 4; omega
  · rw [if_neg h1]
    by_cases h2 : c < 2048
    · rw [if_pos h2]; show 2 ≤ 4; omega
    · rw [if_neg h2]
      by_cases h3 : c < 65536
      · rw [if_pos h3]; show 3 ≤ 4; omega
      · rw [if_neg h3]; show 4 ≤ 4; omega

theorem kindF_le (p : Int) : 0 ≤ kindF p ∧ kindF p ≤ 15 := by
  unfold kindF
  have := rawF_cases (cutF p)
  split <;> omega

theorem kindF_raw (p : Int) (hk : kindF p ≠ 0) : 1 ≤ rawF (kindF p) ∧ rawF (kindF p) ≤ 8 := by
  have a := rawF_cases (kindF p)
  have b := rawF_cases (cutF p)
  unfold kindF at *
  split at hk <;> split at a <;> simp_all <;> omega

theorem name_any (p : Int) (w : World) (h0 : -128 ≤ p) (h1 : p ≤ 127) :
    Calls Try.prog 19 #[.int .i8 p] w fun e w' => e = .returned (.string (nameF p)) ∧ Below w.heap.size w w' := by
  by_cases hk : kindF p = 0
  · have e : nameF p = ⟨#[]⟩ := if_pos hk
    rw [e]
    clear e
    have cs := Lib.hid (fun W => split_any p W h0 h1)
    rw [hk] at cs
    generalize sideF p = s at cs
    clear hk
    go_enter Try.func19, Try.ntmps19
    go_wp2_with (go_at_call 31; refine (cs.out _).mono ?_; rintro e w' ⟨rfl, rfl⟩)
    go_ret
    exact ⟨rfl, Below.refl _ _⟩
  · have e : nameF p = if rawF (kindF p) = kindF p then letterF p else ⟨#[43]⟩ ++ letterF p := if_neg hk
    rw [e]
    clear e
    have hr0 := kindF_raw p hk
    unfold letterF
    have C := Lib.hid (fun W => at_any (lettersS (sideF p)) (lettersL (sideF p)) (rawF (kindF p)) W (letters_runes _) (letters_len _) hr0.1 (by omega))
    have cs := Lib.hid (fun W => split_any p W h0 h1)
    have kb := kindF_le p
    generalize atFrom (lettersL (sideF p)) (rawF (kindF p)) = x at C
    generalize sideF p = s at C cs
    generalize kindF p = k at C cs hk hr0 kb
    have b1 : (k == 0) = false := by simpa using hk
    obtain ⟨kb0, kb1⟩ := kb
    have hx := encode_le x
    clear hk hr0
    by_cases hr : rawF k = k
    · rw [if_pos hr]
      have b2 : (rawF k == k) = true := by simpa using hr
      clear hr
      go_enter Try.func19, Try.ntmps19
      go_wp2_with (first | (go_at_call 34; refine (letters_any _ _).mono ?_; rintro e w' ⟨rfl, rfl⟩) | (go_at_call 32; refine (raw_any _ _ (by omega) (by omega)).mono ?_; rintro e w' ⟨rfl, rfl⟩) | (go_at_call 33; refine (C.out _).mono ?_; rintro e w' ⟨rfl, hB⟩) | (go_at_call 31; refine (cs.out _).mono ?_; rintro e w' ⟨rfl, rfl⟩))
      go_ret
      exact ⟨rfl, hB⟩
    · rw [if_neg hr]
      have b2 : (rawF k == k) = false := by simpa using hr
      have hs : ¬ 9223372036854775807 < 1 + (Utf8.encode x).size := by omega
      clear hr
      go_enter Try.func19, Try.ntmps19
      go_wp2_with (first | (go_at_call 34; refine (letters_any _ _).mono ?_; rintro e w' ⟨rfl, rfl⟩) | (go_at_call 32; refine (raw_any _ _ (by omega) (by omega)).mono ?_; rintro e w' ⟨rfl, rfl⟩) | (go_at_call 33; refine (C.out _).mono ?_; rintro e w' ⟨rfl, hB⟩) | (go_at_call 31; refine (cs.out _).mono ?_; rintro e w' ⟨rfl, rfl⟩))
      go_ret
      exact ⟨rfl, hB⟩

theorem nameF_1 : nameF 1 = ⟨#[80]⟩ := by decide +kernel
theorem nameF_17 : nameF 17 = ⟨#[112]⟩ := by decide +kernel

end Go.Proofs.Ytfemicpfkgecbaa
