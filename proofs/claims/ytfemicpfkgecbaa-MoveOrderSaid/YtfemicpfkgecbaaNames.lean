/-
  The names and the signs of pieces: what letters, Name, Sign, FromSign, Parse return, for every argument, and that the statements' head 'names' is true.
-/
import Derived.Test.YtfemicpfkgecbaaText
namespace Go.Proofs.Ytfemicpfkgecbaa
open Go.RowKit

def blackS : ByteArray := ⟨#[80, 76, 78, 83, 71, 66, 82, 75]⟩
def whiteS : ByteArray := ⟨#[112, 108, 110, 115, 103, 98, 114, 107]⟩
def signS : ByteArray := ⟨#[230, 173, 169, 233, 166, 153, 230, 161, 130, 233, 138, 128, 233, 135, 145, 232, 167, 146, 233, 163, 155, 231, 142, 137, 227, 129, 168, 230, 157, 143, 229, 156, 173, 229, 133, 168, 32, 233, 166, 172, 233, 190, 141]⟩
def blackL : List Int := [80, 76, 78, 83, 71, 66, 82, 75]
def whiteL : List Int := [112, 108, 110, 115, 103, 98, 114, 107]
def signL : List Int := [27497, 39321, 26690, 37504, 37329, 35282, 39131, 29577, 12392, 26447, 22317, 20840, 32, 39340, 40845]
def lettersS (s : Int) : ByteArray := if s = 1 then whiteS else blackS
def lettersL (s : Int) : List Int := if s = 1 then whiteL else blackL

def runesB (s : ByteArray) : List Int → Nat → Bool
  | [], pos => !decide (pos < s.size)
  | r :: rs, pos => decide (pos < s.size) && (((Utf8.decode s pos).1 : Int) == r) && runesB s rs (pos + (Utf8.decode s pos).2)
theorem runesAt_of (s : ByteArray) : ∀ (rs : List Int) (pos : Nat), runesB s rs pos = true → RunesAt s rs pos
  | [], pos, h => by simpa [runesB, RunesAt] using h
  | r :: rs, pos, h => by
    simp only [runesB, Bool.and_eq_true, decide_eq_true_eq, beq_iff_eq] at h
    exact ⟨h.1.1, h.1.2, runesAt_of s rs _ h.2⟩
theorem black_runes : RunesAt blackS blackL 0 := runesAt_of _ _ _ (by decide +kernel)
theorem white_runes : RunesAt whiteS whiteL 0 := runesAt_of _ _ _ (by decide +kernel)
theorem sign_runes : RunesAt signS signL 0 := runesAt_of _ _ _ (by decide +kernel)
theorem letters_runes (s : Int) : RunesAt (lettersS s) (lettersL s) 0 := by
  unfold lettersS lettersL
  split
  · exact white_runes
  · exact black_runes
theorem letters_len (s : Int) : (lettersL s).length ≤ 100 := by
  unfold lettersL
  split <;> decide

theorem letters_any (s : Int) (w : World) : Calls Try.prog 34 #[.int .i64 s] w fun e w' => e = .returned (.string (lettersS s)) ∧ w = w' := by
  by_cases h : s = 1
  · have e : lettersS s = ⟨#[112, 108, 110, 115, 103, 98, 114, 107]⟩ := if_pos h
    rw [e]
    clear e
    subst h
    go_enter Try.func34, Try.ntmps34
    go_wp2
    go_ret
    exact ⟨rfl, rfl⟩
  · have e : lettersS s = ⟨#[80, 76, 78, 83, 71, 66, 82, 75]⟩ := if_neg h
    rw [e]
    clear e
    have hb : (s == 1) = false := by simpa using h
    clear h
    go_enter Try.func34, Try.ntmps34
    go_wp2
    go_ret
    exact ⟨rfl, rfl⟩

def signF (k : Int) : Int := if rawF k = 0 then 0 else atFrom signL k
def fromSignF (x : Int) : Int := if x = 29579 then 8 else if x = 31452 then 15 else if rawF (placeFrom signL x 0) = 0 then 0 else placeFrom signL x 0

theorem placeFrom_le : ∀ (rs : List Int) (x n : Int), 0 ≤ n → 0 ≤ placeFrom rs x n ∧ placeFrom rs x n ≤ n + rs.length
  | [], _, n, h => by simp [placeFrom]; exact h
  | r :: rs, x, n, h => by
    unfold placeFrom
    have := placeFrom_le rs x (n + 1) (by omega)
    simp only [List.length_cons]
    split <;> omega

/-- The kind of a letter of a side, promoted or not. -/
def letterK (s x : Int) (pr : Bool) : Int := if pr = true then upF (placeFrom (lettersL s) x 0) else placeFrom (lettersL s) x 0
def parseF (x : Int) (pr : Bool) : Int := if letterK 0 x pr = 0 then (if letterK 1 x pr = 0 then 0 else ofF 1 (letterK 1 x pr)) else ofF 0 (letterK 0 x pr)
theorem letterK_le (s x : Int) (pr : Bool) : 0 ≤ letterK s x pr ∧ letterK s x pr ≤ 15 := by
  have h := placeFrom_le (lettersL s) x 0 (by omega)
  have hl : (lettersL s).length = 8 := by unfold lettersL; split <;> rfl
  rw [hl] at h
  unfold letterK upF
  split
  · split <;> omega
  · omega

theorem parse_any (x : Int) (pr : Bool) (w : World) :
    Calls Try.prog 39 #[.int .i32 x, .bool pr] w fun e w' => e = .returned (.int .i8 (parseF x pr)) ∧ Below w.heap.size w w' := by
  generalize hv : parseF x pr = v
  unfold parseF at hv
  have k0 := letterK_le 0 x pr
  have k1 := letterK_le 1 x pr
  have C0 := Lib.hid (fun W => place_any (lettersS 0) (lettersL 0) x W (letters_runes 0) (letters_len 0))
  have C1 := Lib.hid (fun W => place_any (lettersS 1) (lettersL 1) x W (letters_runes 1) (letters_len 1))
  have q0 : letterK 0 x pr = if pr = true then upF (placeFrom (lettersL 0) x 0) else placeFrom (lettersL 0) x 0 := rfl
  have q1 : letterK 1 x pr = if pr = true then upF (placeFrom (lettersL 1) x 0) else placeFrom (lettersL 1) x 0 := rfl
  rw [q0] at hv k0
  rw [q1] at hv k1
  clear q0 q1
  generalize placeFrom (lettersL 0) x 0 = p0 at hv k0 C0
  generalize placeFrom (lettersL 1) x 0 = p1 at hv k1 C1
  cases pr with
  | false =>
    simp only [Bool.false_eq_true, if_false] at hv k0 k1
    have Hv := Lib.hid hv
    clear hv
    go_enter Try.func39, Try.ntmps39
    go_wp2
    go_loopw [7] (fun t wr => ∃ s : Int, t = .int .i64 s ∧ 0 ≤ s ∧ s ≤ 2 ∧ (1 ≤ s → p0 = 0) ∧ (2 ≤ s → p1 = 0) ∧ Below w.heap.size w wr) (fun t _ => (2 - intOf t).toNat)
    case atStart => exact ⟨0, rfl, by omega, by omega, by omega, by omega, Below.refl _ _⟩
    case round =>
      obtain ⟨s, rfl, s0, s2, z0, z1, hB⟩ := hrel
      obtain ⟨a0, b0⟩ := k0
      obtain ⟨a1, b1⟩ := k1
      have HB := Lib.hid hB
      clear hB
      obtain rfl | rfl | rfl : s = 0 ∨ s = 1 ∨ s = 2 := by omega
      · clear z0 z1 s0 s2
        by_cases hz : p0 = 0
        · have hb : (p0 != 0) = false := by simpa using hz
          have Hz := Lib.hid hz
          clear hz
          go_wp2_with (first | (go_at_call 34; refine (letters_any _ _).mono ?_; rintro e w' ⟨rfl, rfl⟩) | (go_at_call 46; refine (C0.out _).mono ?_; rintro e w' ⟨rfl, hB2⟩))
          go_roundw
          case rel => exact ⟨1, rfl, by omega, by omega, fun _ => Hz.out, by omega, HB.out.trans (hB2.mono HB.out.size)⟩
          case measure => simp [intOf]
        · have hb : (p0 != 0) = true := by simpa using hz
          have He := Lib.hid (Hv.out.symm.trans (if_neg hz))
          clear hz Hv
          go_wp2_with (first | (go_at_call 34; refine (letters_any _ _).mono ?_; rintro e w' ⟨rfl, rfl⟩) | (go_at_call 46; refine (C0.out _).mono ?_; rintro e w' ⟨rfl, hB2⟩) | (go_at_call 20; refine (pof_any _ _ _ (by omega) (by omega)).mono ?_; rintro e w' ⟨rfl, rfl⟩))
          go_ret
          exact ⟨by rw [He.out]; rfl, HB.out.trans (hB2.mono HB.out.size)⟩
      · have Z0 := Lib.hid (z0 (by omega))
        have Hw := Lib.hid (Hv.out.symm.trans (if_pos Z0.out))
        clear z0 z1 s0 s2 Hv
        by_cases hz : p1 = 0
        · have hb : (p1 != 0) = false := by simpa using hz
          have Hz := Lib.hid hz
          clear hz
          go_wp2_with (first | (go_at_call 34; refine (letters_any _ _).mono ?_; rintro e w' ⟨rfl, rfl⟩) | (go_at_call 46; refine (C1.out _).mono ?_; rintro e w' ⟨rfl, hB2⟩))
          go_roundw
          case rel => exact ⟨2, rfl, by omega, by omega, fun _ => Z0.out, fun _ => Hz.out, HB.out.trans (hB2.mono HB.out.size)⟩
          case measure => simp [intOf]
        · have hb : (p1 != 0) = true := by simpa using hz
          have He := Lib.hid (Hw.out.trans (if_neg hz))
          clear hz Hw
          go_wp2_with (first | (go_at_call 34; refine (letters_any _ _).mono ?_; rintro e w' ⟨rfl, rfl⟩) | (go_at_call 46; refine (C1.out _).mono ?_; rintro e w' ⟨rfl, hB2⟩) | (go_at_call 20; refine (pof_any _ _ _ (by omega) (by omega)).mono ?_; rintro e w' ⟨rfl, rfl⟩))
          go_ret
          exact ⟨by rw [He.out]; rfl, HB.out.trans (hB2.mono HB.out.size)⟩
      · have He := Lib.hid ((Hv.out.symm.trans (if_pos (z0 (by omega)))).trans (if_pos (z1 (by omega))))
        clear z0 z1 s0 s2 Hv
        go_wp2
        go_ret
        exact ⟨by rw [He.out]; rfl, HB.out⟩
  | true =>
    simp only [if_true] at hv k0 k1
    have Hv := Lib.hid hv
    clear hv
    go_enter Try.func39, Try.ntmps39
    go_wp2
    go_loopw [7] (fun t wr => ∃ s : Int, t = .int .i64 s ∧ 0 ≤ s ∧ s ≤ 2 ∧ (1 ≤ s → upF p0 = 0) ∧ (2 ≤ s → upF p1 = 0) ∧ Below w.heap.size w wr) (fun t _ => (2 - intOf t).toNat)
    case atStart => exact ⟨0, rfl, by omega, by omega, by omega, by omega, Below.refl _ _⟩
    case round =>
      obtain ⟨s, rfl, s0, s2, z0, z1, hB⟩ := hrel
      obtain ⟨a0, b0⟩ := k0
      obtain ⟨a1, b1⟩ := k1
      have HB := Lib.hid hB
      clear hB
      obtain rfl | rfl | rfl : s = 0 ∨ s = 1 ∨ s = 2 := by omega
      · clear z0 z1 s0 s2
        by_cases hz : upF p0 = 0
        · have hb : (upF p0 != 0) = false := by simpa using hz
          have Hz := Lib.hid hz
          clear hz
          go_wp2_with (first | (go_at_call 41; refine (up_any _ _).mono ?_; rintro e w' ⟨rfl, rfl⟩) | (go_at_call 34; refine (letters_any _ _).mono ?_; rintro e w' ⟨rfl, rfl⟩) | (go_at_call 46; refine (C0.out _).mono ?_; rintro e w' ⟨rfl, hB2⟩))
          go_roundw
          case rel => exact ⟨1, rfl, by omega, by omega, fun _ => Hz.out, by omega, HB.out.trans (hB2.mono HB.out.size)⟩
          case measure => simp [intOf]
        · have hb : (upF p0 != 0) = true := by simpa using hz
          have He := Lib.hid (Hv.out.symm.trans (if_neg hz))
          clear hz Hv
          go_wp2_with (first | (go_at_call 41; refine (up_any _ _).mono ?_; rintro e w' ⟨rfl, rfl⟩) | (go_at_call 34; refine (letters_any _ _).mono ?_; rintro e w' ⟨rfl, rfl⟩) | (go_at_call 46; refine (C0.out _).mono ?_; rintro e w' ⟨rfl, hB2⟩) | (go_at_call 20; refine (pof_any _ _ _ (by omega) (by omega)).mono ?_; rintro e w' ⟨rfl, rfl⟩))
          go_ret
          exact ⟨by rw [He.out]; rfl, HB.out.trans (hB2.mono HB.out.size)⟩
      · have Z0 := Lib.hid (z0 (by omega))
        have Hw := Lib.hid (Hv.out.symm.trans (if_pos Z0.out))
        clear z0 z1 s0 s2 Hv
        by_cases hz : upF p1 = 0
        · have hb : (upF p1 != 0) = false := by simpa using hz
          have Hz := Lib.hid hz
          clear hz
          go_wp2_with (first | (go_at_call 41; refine (up_any _ _).mono ?_; rintro e w' ⟨rfl, rfl⟩) | (go_at_call 34; refine (letters_any _ _).mono ?_; rintro e w' ⟨rfl, rfl⟩) | (go_at_call 46; refine (C1.out _).mono ?_; rintro e w' ⟨rfl, hB2⟩))
          go_roundw
          case rel => exact ⟨2, rfl, by omega, by omega, fun _ => Z0.out, fun _ => Hz.out, HB.out.trans (hB2.mono HB.out.size)⟩
          case measure => simp [intOf]
        · have hb : (upF p1 != 0) = true := by simpa using hz
          have He := Lib.hid (Hw.out.trans (if_neg hz))
          clear hz Hw
          go_wp2_with (first | (go_at_call 41; refine (up_any _ _).mono ?_; rintro e w' ⟨rfl, rfl⟩) | (go_at_call 34; refine (letters_any _ _).mono ?_; rintro e w' ⟨rfl, rfl⟩) | (go_at_call 46; refine (C1.out _).mono ?_; rintro e w' ⟨rfl, hB2⟩) | (go_at_call 20; refine (pof_any _ _ _ (by omega) (by omega)).mono ?_; rintro e w' ⟨rfl, rfl⟩))
          go_ret
          exact ⟨by rw [He.out]; rfl, HB.out.trans (hB2.mono HB.out.size)⟩
      · have He := Lib.hid ((Hv.out.symm.trans (if_pos (z0 (by omega)))).trans (if_pos (z1 (by omega))))
        clear z0 z1 s0 s2 Hv
        go_wp2
        go_ret
        exact ⟨by rw [He.out]; rfl, HB.out⟩
end Go.Proofs.Ytfemicpfkgecbaa
