/-
  The walk of the law PieceSigns: for every rune and kind it returns true.
-/
import Derived.Test.YtpaelhhpaapgmaaRefs
import Derived.OpenShut
namespace Go.Proofs.Ytpaelhhpaapgmaa.pieceSigns
open Go.RowKit
set_option linter.unusedVariables false

def sign2S : ByteArray := ⟨#[230, 173, 169, 233, 166, 153, 230, 161, 130, 233, 138, 128, 233, 135, 145, 232, 167, 146, 233, 163, 155, 231, 142, 137, 227, 129, 168, 230, 157, 143, 229, 156, 173, 229, 133, 168, 233, 166, 172, 233, 190, 141]⟩
def sign2L : List Int := [27497, 39321, 26690, 37504, 37329, 35282, 39131, 29577, 12392, 26447, 22317, 20840, 39340, 40845]
theorem sign2_runes : RunesAt sign2S sign2L 0 := runesAt_of _ _ _ (by decide +kernel)
def notIn : List Int → Int → Bool
  | [], _ => true
  | r :: rs, x => if r = x then false else notIn rs x

theorem notSign_any (x : Int) (w : World) :
    Calls Try.prog 27 #[.int .i32 x] w fun e w' => e = .returned (.bool (notIn sign2L x)) ∧ Below w.heap.size w w' := by
  generalize hv : notIn sign2L x = v
  have Hv := Lib.hid hv
  clear hv
  have Hr := Lib.hid sign2_runes
  generalize sign2L = rs0 at Hv Hr
  go_enter Try.func27, Try.ntmps27
  go_wp2
  go_loopw [] (fun w' => ∃ (pos : Nat) (rs : List Int), w' = w.iter sign2S pos ∧ RunesAt sign2S rs pos ∧ notIn rs x = v) (fun w' => sign2S.size - w'.iterPos w.heap.size)
  case atStart => exact ⟨0, rs0, rfl, Hr.out, Hv.out⟩
  case round =>
    clear Hr Hv
    obtain ⟨pos, rs, rfl, hrs, hp⟩ := hrel
    have Hp := Lib.hid hp
    clear hp
    cases rs with
    | nil =>
      have hnx : ∀ ty, (Instr.next (.pointer (some ⟨w.heap.size, 0, none⟩)) true ty).run Try.prog (w.iter sign2S pos) = _ := fun ty => run_next_end w sign2S pos ty hrs
      clear hrs
      go_wp2
      go_ret
      exact ⟨by rw [← Hp.out]; rfl, below_iter _ _ _⟩
    | cons r rs =>
      obtain ⟨h1, h2, h3⟩ := hrs
      have hnx : ∀ ty, (Instr.next (.pointer (some ⟨w.heap.size, 0, none⟩)) true ty).run Try.prog (w.iter sign2S pos) = _ := fun ty => run_next_any w sign2S pos ty h1
      have hwd := width_pos sign2S pos h1
      rw [h2] at hnx
      clear h2
      generalize hq : pos + (Utf8.decode sign2S pos).2 = pos' at hnx h3
      have hlt : pos < pos' := by omega
      clear hq hwd
      have H3 := Lib.hid h3
      clear h3
      by_cases hx : r = x
      · subst hx
        have e : notIn (r :: rs) r = false := if_pos rfl
        have He := Lib.hid (Hp.out.symm.trans e)
        clear e Hp
        have hb : (r == r) = true := by simp
        go_wp2
        go_ret
        exact ⟨by rw [He.out]; rfl, below_iter _ _ _⟩
      · have e : notIn (r :: rs) x = notIn rs x := if_neg hx
        have He := Lib.hid (e.symm.trans Hp.out)
        have hb : (r == x) = false := by simpa using hx
        clear e Hp hx
        go_wp2
        go_roundw
        case rel => exact ⟨pos', rs, rfl, H3.out, He.out⟩
        case measure => simp; omega

theorem placeFrom_not : ∀ (rs : List Int) (x n : Int), x ∉ rs → placeFrom rs x n = 0
  | [], _, _, _ => rfl
  | r :: rs, x, n, h => by
    unfold placeFrom
    rw [if_neg (fun e => h (by rw [e]; exact List.mem_cons_self)), placeFrom_not rs x (n + 1) (fun e => h (List.mem_cons_of_mem _ e))]
theorem notIn_not : ∀ (rs : List Int) (x : Int), x ∉ rs → notIn rs x = true
  | [], _, _ => rfl
  | r :: rs, x, h => by
    unfold notIn
    rw [if_neg (fun e => h (by rw [e]; exact List.mem_cons_self)), notIn_not rs x (fun e => h (List.mem_cons_of_mem _ e))]

theorem signL_all (Q : Int → Prop) (h : ∀ x ∈ signL, Q x) (h' : ∀ x, x ∉ signL → Q x) (x : Int) : Q x := by
  by_cases hx : x ∈ signL
  · exact h x hx
  · exact h' x hx
theorem fs_facts (x : Int) (h1 : x ≠ 29579) (h2 : x ≠ 31452) : (fromSignF x = 0 ∧ (x < 19968 ∨ notIn sign2L x = true)) ∨ (fromSignF x ≠ 0 ∧ signF (fromSignF x) = x) := by
  revert h1 h2
  apply signL_all (fun x => x ≠ 29579 → x ≠ 31452 → (fromSignF x = 0 ∧ (x < 19968 ∨ notIn sign2L x = true)) ∨ (fromSignF x ≠ 0 ∧ signF (fromSignF x) = x))
  · intro x hx _ _
    simp only [signL, List.mem_cons, List.not_mem_nil, or_false] at hx
    rcases hx with rfl | rfl | rfl | rfl | rfl | rfl | rfl | rfl | rfl | rfl | rfl | rfl | rfl | rfl | rfl <;> decide +kernel
  · intro x hx h1 h2
    left
    constructor
    · unfold fromSignF
      rw [if_neg h1, if_neg h2, placeFrom_not _ _ _ hx]
      rfl
    · right
      apply notIn_not
      intro h
      apply hx
      simp only [sign2L, signL, List.mem_cons, List.not_mem_nil, or_false] at h ⊢
      omega
theorem sign_facts (k : Int) : (rawF k = 0 ∧ signF k = 0) ∨ (rawF k ≠ 0 ∧ signF k ≠ 0 ∧ fromSignF (signF k) = k) := by
  by_cases hr : rawF k = 0
  · exact Or.inl ⟨hr, if_pos hr⟩
  · right
    have c := rawF_cases k
    obtain rfl | rfl | rfl | rfl | rfl | rfl | rfl | rfl | rfl | rfl | rfl | rfl | rfl | rfl : k = 1 ∨ k = 2 ∨ k = 3 ∨ k = 4 ∨ k = 5 ∨ k = 6 ∨ k = 7 ∨ k = 8 ∨ k = 9 ∨ k = 10 ∨ k = 11 ∨ k = 12 ∨ k = 14 ∨ k = 15 := by omega
    all_goals decide +kernel

theorem walk_no (x k : Int) (k0 : -9223372036854775808 ≤ k) (k1 : k ≤ 9223372036854775807) (hr : rawF k = 0 ∧ signF k = 0) (w : World) :
    Calls Try.prog 6 #[.int .i32 x, .int .i64 k] w fun e w' => e = .returned (.bool true) ∧ Below w.heap.size w w' := by
  have S := Lib.hid (fun W => sign_any k W k0 k1)
  have RR := Lib.hid (fun W => refRaw_any k W k0)
  have FX := Lib.hid (fun W => fromSign_any x W)
  obtain ⟨r1, r2⟩ := hr
  rw [r1] at RR
  rw [r2] at S
  clear r1 r2
  by_cases x1 : x = 29579
  · subst x1
    rw [show fromSignF 29579 = 8 from rfl] at FX
    go_enter Try.func6, Try.ntmps6
    go_wp2_with (first | (go_at_call 10; refine (names_true _).mono ?_; rintro e w1 ⟨rfl, hB⟩) | (go_at_call 19; refine (RR.out _).mono ?_; rintro e w' ⟨rfl, rfl⟩))
    refine (S.out _).mono ?_
    rintro e w2 ⟨rfl, hB2⟩
    go_wp2_with (first | (go_at_call 10; refine (names_true _).mono ?_; rintro e w1 ⟨rfl, hB⟩) | (go_at_call 19; refine (RR.out _).mono ?_; rintro e w' ⟨rfl, rfl⟩))
    refine (FX.out _).mono ?_
    rintro e w4 ⟨rfl, hB4⟩
    go_wp2
    go_ret
    have c0 := hB.trans (hB2.mono hB.size)
    have c1 := c0.trans (hB4.mono c0.size)
    exact ⟨rfl, c1⟩
  · by_cases x2 : x = 31452
    · subst x2
      rw [show fromSignF 31452 = 15 by decide] at FX
      clear x1
      go_enter Try.func6, Try.ntmps6
      go_wp2_with (first | (go_at_call 10; refine (names_true _).mono ?_; rintro e w1 ⟨rfl, hB⟩) | (go_at_call 19; refine (RR.out _).mono ?_; rintro e w' ⟨rfl, rfl⟩))
      refine (S.out _).mono ?_
      rintro e w2 ⟨rfl, hB2⟩
      go_wp2_with (first | (go_at_call 10; refine (names_true _).mono ?_; rintro e w1 ⟨rfl, hB⟩) | (go_at_call 19; refine (RR.out _).mono ?_; rintro e w' ⟨rfl, rfl⟩))
      refine (FX.out _).mono ?_
      rintro e w4 ⟨rfl, hB4⟩
      go_wp2
      go_ret
      have c0 := hB.trans (hB2.mono hB.size)
      have c1 := c0.trans (hB4.mono c0.size)
      exact ⟨rfl, c1⟩
    · have d1 : (x == 29579) = false := by simpa using x1
      have d2 : (x == 31452) = false := by simpa using x2
      rcases fs_facts x x1 x2 with ⟨z, h | h⟩ | ⟨z, h⟩
      · rw [z] at FX
        clear z x1 x2
        go_enter Try.func6, Try.ntmps6
        go_wp2_with (first | (go_at_call 10; refine (names_true _).mono ?_; rintro e w1 ⟨rfl, hB⟩) | (go_at_call 19; refine (RR.out _).mono ?_; rintro e w' ⟨rfl, rfl⟩))
        refine (S.out _).mono ?_
        rintro e w2 ⟨rfl, hB2⟩
        go_wp2_with (first | (go_at_call 10; refine (names_true _).mono ?_; rintro e w1 ⟨rfl, hB⟩) | (go_at_call 19; refine (RR.out _).mono ?_; rintro e w' ⟨rfl, rfl⟩))
        refine (FX.out _).mono ?_
        rintro e w4 ⟨rfl, hB4⟩
        go_wp2
        go_ret
        have c0 := hB.trans (hB2.mono hB.size)
        have c1 := c0.trans (hB4.mono c0.size)
        exact ⟨rfl, c1⟩
      · rw [z] at FX
        by_cases hl : x < 19968
        · clear z h x1 x2
          go_enter Try.func6, Try.ntmps6
          go_wp2_with (first | (go_at_call 10; refine (names_true _).mono ?_; rintro e w1 ⟨rfl, hB⟩) | (go_at_call 19; refine (RR.out _).mono ?_; rintro e w' ⟨rfl, rfl⟩))
          refine (S.out _).mono ?_
          rintro e w2 ⟨rfl, hB2⟩
          go_wp2_with (first | (go_at_call 10; refine (names_true _).mono ?_; rintro e w1 ⟨rfl, hB⟩) | (go_at_call 19; refine (RR.out _).mono ?_; rintro e w' ⟨rfl, rfl⟩))
          refine (FX.out _).mono ?_
          rintro e w4 ⟨rfl, hB4⟩
          go_wp2
          go_ret
          have c0 := hB.trans (hB2.mono hB.size)
          have c1 := c0.trans (hB4.mono c0.size)
          exact ⟨rfl, c1⟩
        · have NS := Lib.hid (fun W => notSign_any x W)
          rw [h] at NS
          clear z h x1 x2
          go_enter Try.func6, Try.ntmps6
          go_wp2_with (first | (go_at_call 10; refine (names_true _).mono ?_; rintro e w1 ⟨rfl, hB⟩) | (go_at_call 19; refine (RR.out _).mono ?_; rintro e w' ⟨rfl, rfl⟩))
          refine (S.out _).mono ?_
          rintro e w2 ⟨rfl, hB2⟩
          go_wp2_with (first | (go_at_call 10; refine (names_true _).mono ?_; rintro e w1 ⟨rfl, hB⟩) | (go_at_call 19; refine (RR.out _).mono ?_; rintro e w' ⟨rfl, rfl⟩))
          refine (FX.out _).mono ?_
          rintro e w4 ⟨rfl, hB4⟩
          go_wp2_with fail
          refine (NS.out _).mono ?_
          rintro e w5 ⟨rfl, hB5⟩
          go_wp2
          go_ret
          have c0 := hB.trans (hB2.mono hB.size)
          have c1 := c0.trans (hB4.mono c0.size)
          have c2 := c1.trans (hB5.mono c1.size)
          exact ⟨rfl, c2⟩
      · have lb : -9223372036854775808 ≤ fromSignF x ∧ fromSignF x ≤ 9223372036854775807 := by
          have h2 := placeFrom_le signL x 0 (by omega)
          have hl : signL.length = 15 := rfl
          rw [hl] at h2
          unfold fromSignF
          rw [if_neg x1, if_neg x2]
          split <;> omega
        have SX := Lib.hid (fun W => sign_any (fromSignF x) W lb.1 lb.2)
        rw [h] at SX
        have z1 : (fromSignF x == 0) = false := by simpa using z
        have z2 : (fromSignF x != 0) = true := by simpa using z
        clear z h lb x1 x2
        generalize fromSignF x = f at FX SX z1 z2
        go_enter Try.func6, Try.ntmps6
        go_wp2_with (first | (go_at_call 10; refine (names_true _).mono ?_; rintro e w1 ⟨rfl, hB⟩) | (go_at_call 19; refine (RR.out _).mono ?_; rintro e w' ⟨rfl, rfl⟩))
        refine (S.out _).mono ?_
        rintro e w2 ⟨rfl, hB2⟩
        go_wp2_with (first | (go_at_call 10; refine (names_true _).mono ?_; rintro e w1 ⟨rfl, hB⟩) | (go_at_call 19; refine (RR.out _).mono ?_; rintro e w' ⟨rfl, rfl⟩))
        refine (FX.out _).mono ?_
        rintro e w4 ⟨rfl, hB4⟩
        go_wp2_with fail
        refine (SX.out _).mono ?_
        rintro e w5 ⟨rfl, hB5⟩
        go_wp2
        go_ret
        have c0 := hB.trans (hB2.mono hB.size)
        have c1 := c0.trans (hB4.mono c0.size)
        have c2 := c1.trans (hB5.mono c1.size)
        exact ⟨rfl, c2⟩

theorem walk_yes (x k : Int) (k0 : -9223372036854775808 ≤ k) (k1 : k ≤ 9223372036854775807) (hr : rawF k ≠ 0 ∧ signF k ≠ 0 ∧ fromSignF (signF k) = k) (w : World) :
    Calls Try.prog 6 #[.int .i32 x, .int .i64 k] w fun e w' => e = .returned (.bool true) ∧ Below w.heap.size w w' := by
  have S := Lib.hid (fun W => sign_any k W k0 k1)
  have RR := Lib.hid (fun W => refRaw_any k W k0)
  have FX := Lib.hid (fun W => fromSign_any x W)
  have F := Lib.hid (fun W => fromSign_any (signF k) W)
  obtain ⟨r1, r2, r3⟩ := hr
  rw [r3] at F
  have b1 : (rawF k == 0) = false := by simpa using r1
  have b2 : (signF k == 0) = false := by simpa using r2
  have b3 : (signF k != 0) = true := by simpa using r2
  have b4 : (k != k) = false := by simp
  clear r1 r2 r3
  generalize rawF k = r at RR b1
  generalize signF k = s at S F b2 b3
  by_cases x1 : x = 29579
  · subst x1
    rw [show fromSignF 29579 = 8 from rfl] at FX
    go_enter Try.func6, Try.ntmps6
    go_wp2_with (first | (go_at_call 10; refine (names_true _).mono ?_; rintro e w1 ⟨rfl, hB⟩) | (go_at_call 19; refine (RR.out _).mono ?_; rintro e w' ⟨rfl, rfl⟩))
    refine (S.out _).mono ?_
    rintro e w2 ⟨rfl, hB2⟩
    go_wp2_with (first | (go_at_call 10; refine (names_true _).mono ?_; rintro e w1 ⟨rfl, hB⟩) | (go_at_call 19; refine (RR.out _).mono ?_; rintro e w' ⟨rfl, rfl⟩))
    refine (F.out _).mono ?_
    rintro e w3 ⟨rfl, hB3⟩
    go_wp2_with fail
    refine (FX.out _).mono ?_
    rintro e w4 ⟨rfl, hB4⟩
    go_wp2
    go_ret
    have c0 := hB.trans (hB2.mono hB.size)
    have c1 := c0.trans (hB3.mono c0.size)
    have c2 := c1.trans (hB4.mono c1.size)
    exact ⟨rfl, c2⟩
  · by_cases x2 : x = 31452
    · subst x2
      rw [show fromSignF 31452 = 15 by decide] at FX
      clear x1
      go_enter Try.func6, Try.ntmps6
      go_wp2_with (first | (go_at_call 10; refine (names_true _).mono ?_; rintro e w1 ⟨rfl, hB⟩) | (go_at_call 19; refine (RR.out _).mono ?_; rintro e w' ⟨rfl, rfl⟩))
      refine (S.out _).mono ?_
      rintro e w2 ⟨rfl, hB2⟩
      go_wp2_with (first | (go_at_call 10; refine (names_true _).mono ?_; rintro e w1 ⟨rfl, hB⟩) | (go_at_call 19; refine (RR.out _).mono ?_; rintro e w' ⟨rfl, rfl⟩))
      refine (F.out _).mono ?_
      rintro e w3 ⟨rfl, hB3⟩
      go_wp2_with fail
      refine (FX.out _).mono ?_
      rintro e w4 ⟨rfl, hB4⟩
      go_wp2
      go_ret
      have c0 := hB.trans (hB2.mono hB.size)
      have c1 := c0.trans (hB3.mono c0.size)
      have c2 := c1.trans (hB4.mono c1.size)
      exact ⟨rfl, c2⟩
    · have d1 : (x == 29579) = false := by simpa using x1
      have d2 : (x == 31452) = false := by simpa using x2
      rcases fs_facts x x1 x2 with ⟨z, h | h⟩ | ⟨z, h⟩
      · rw [z] at FX
        clear z x1 x2
        go_enter Try.func6, Try.ntmps6
        go_wp2_with (first | (go_at_call 10; refine (names_true _).mono ?_; rintro e w1 ⟨rfl, hB⟩) | (go_at_call 19; refine (RR.out _).mono ?_; rintro e w' ⟨rfl, rfl⟩))
        refine (S.out _).mono ?_
        rintro e w2 ⟨rfl, hB2⟩
        go_wp2_with (first | (go_at_call 10; refine (names_true _).mono ?_; rintro e w1 ⟨rfl, hB⟩) | (go_at_call 19; refine (RR.out _).mono ?_; rintro e w' ⟨rfl, rfl⟩))
        refine (F.out _).mono ?_
        rintro e w3 ⟨rfl, hB3⟩
        go_wp2_with fail
        refine (FX.out _).mono ?_
        rintro e w4 ⟨rfl, hB4⟩
        go_wp2
        go_ret
        have c0 := hB.trans (hB2.mono hB.size)
        have c1 := c0.trans (hB3.mono c0.size)
        have c2 := c1.trans (hB4.mono c1.size)
        exact ⟨rfl, c2⟩
      · rw [z] at FX
        by_cases hl : x < 19968
        · clear z h x1 x2
          go_enter Try.func6, Try.ntmps6
          go_wp2_with (first | (go_at_call 10; refine (names_true _).mono ?_; rintro e w1 ⟨rfl, hB⟩) | (go_at_call 19; refine (RR.out _).mono ?_; rintro e w' ⟨rfl, rfl⟩))
          refine (S.out _).mono ?_
          rintro e w2 ⟨rfl, hB2⟩
          go_wp2_with (first | (go_at_call 10; refine (names_true _).mono ?_; rintro e w1 ⟨rfl, hB⟩) | (go_at_call 19; refine (RR.out _).mono ?_; rintro e w' ⟨rfl, rfl⟩))
          refine (F.out _).mono ?_
          rintro e w3 ⟨rfl, hB3⟩
          go_wp2_with fail
          refine (FX.out _).mono ?_
          rintro e w4 ⟨rfl, hB4⟩
          go_wp2
          go_ret
          have c0 := hB.trans (hB2.mono hB.size)
          have c1 := c0.trans (hB3.mono c0.size)
          have c2 := c1.trans (hB4.mono c1.size)
          exact ⟨rfl, c2⟩
        · have NS := Lib.hid (fun W => notSign_any x W)
          rw [h] at NS
          clear z h x1 x2
          go_enter Try.func6, Try.ntmps6
          go_wp2_with (first | (go_at_call 10; refine (names_true _).mono ?_; rintro e w1 ⟨rfl, hB⟩) | (go_at_call 19; refine (RR.out _).mono ?_; rintro e w' ⟨rfl, rfl⟩))
          refine (S.out _).mono ?_
          rintro e w2 ⟨rfl, hB2⟩
          go_wp2_with (first | (go_at_call 10; refine (names_true _).mono ?_; rintro e w1 ⟨rfl, hB⟩) | (go_at_call 19; refine (RR.out _).mono ?_; rintro e w' ⟨rfl, rfl⟩))
          refine (F.out _).mono ?_
          rintro e w3 ⟨rfl, hB3⟩
          go_wp2_with fail
          refine (FX.out _).mono ?_
          rintro e w4 ⟨rfl, hB4⟩
          go_wp2_with fail
          refine (NS.out _).mono ?_
          rintro e w5 ⟨rfl, hB5⟩
          go_wp2
          go_ret
          have c0 := hB.trans (hB2.mono hB.size)
          have c1 := c0.trans (hB3.mono c0.size)
          have c2 := c1.trans (hB4.mono c1.size)
          have c3 := c2.trans (hB5.mono c2.size)
          exact ⟨rfl, c3⟩
      · have lb : -9223372036854775808 ≤ fromSignF x ∧ fromSignF x ≤ 9223372036854775807 := by
          have h2 := placeFrom_le signL x 0 (by omega)
          have hl : signL.length = 15 := rfl
          rw [hl] at h2
          unfold fromSignF
          rw [if_neg x1, if_neg x2]
          split <;> omega
        have SX := Lib.hid (fun W => sign_any (fromSignF x) W lb.1 lb.2)
        rw [h] at SX
        have z1 : (fromSignF x == 0) = false := by simpa using z
        have z2 : (fromSignF x != 0) = true := by simpa using z
        clear z h lb x1 x2
        generalize fromSignF x = f at FX SX z1 z2
        go_enter Try.func6, Try.ntmps6
        go_wp2_with (first | (go_at_call 10; refine (names_true _).mono ?_; rintro e w1 ⟨rfl, hB⟩) | (go_at_call 19; refine (RR.out _).mono ?_; rintro e w' ⟨rfl, rfl⟩))
        refine (S.out _).mono ?_
        rintro e w2 ⟨rfl, hB2⟩
        go_wp2_with (first | (go_at_call 10; refine (names_true _).mono ?_; rintro e w1 ⟨rfl, hB⟩) | (go_at_call 19; refine (RR.out _).mono ?_; rintro e w' ⟨rfl, rfl⟩))
        refine (F.out _).mono ?_
        rintro e w3 ⟨rfl, hB3⟩
        go_wp2_with fail
        refine (FX.out _).mono ?_
        rintro e w4 ⟨rfl, hB4⟩
        go_wp2_with fail
        refine (SX.out _).mono ?_
        rintro e w5 ⟨rfl, hB5⟩
        go_wp2
        go_ret
        have c0 := hB.trans (hB2.mono hB.size)
        have c1 := c0.trans (hB3.mono c0.size)
        have c2 := c1.trans (hB4.mono c1.size)
        have c3 := c2.trans (hB5.mono c2.size)
        exact ⟨rfl, c3⟩

theorem walk (a0 : Int) (a1 : Int) (w0 : (Lit.int .i32 a0).wf = true) (w1 : (Lit.int .i64 a1).wf = true) (w : World) :
    Calls Try.prog 6 #[.int .i32 a0, .int .i64 a1] w fun e w' => e = .returned (.bool true) ∧ Below w.heap.size w w' := by
  have b := bounds_i64 w1
  rcases sign_facts a1 with h | h
  · exact walk_no a0 a1 b.1 b.2 h w
  · exact walk_yes a0 a1 b.1 b.2 h w
end Go.Proofs.Ytpaelhhpaapgmaa.pieceSigns
