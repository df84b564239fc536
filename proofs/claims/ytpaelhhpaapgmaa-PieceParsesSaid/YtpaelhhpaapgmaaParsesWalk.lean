/-
  The walk of the law PieceParses: for every rune, promoted or not, it returns true.
-/
import Derived.Test.YtpaelhhpaapgmaaRefName
import Derived.OpenShut
namespace Go.Proofs.Ytpaelhhpaapgmaa.pieceParses
open Go.RowKit
set_option linter.unusedVariables false

def textF (x : Int) (pr : Bool) : ByteArray := if pr = true then ⟨#[43]⟩ ++ Utf8.encode x else Utf8.encode x
def matchB (x : Int) (pr : Bool) (n : Nat) : Bool := (nameF n).toList == (textF x pr).toList
def wantF (x : Int) (pr : Bool) : Nat → Int
  | 0 => 0
  | k + 1 => if matchB x pr k = true then k else wantF x pr k

theorem enc_ascii (x : Int) : (∃ c : Nat, c < 128 ∧ x = c) ∨ ((x < 0 ∨ 128 ≤ x) ∧ ∃ b l, (Utf8.encode x).data.toList = b :: l ∧ 128 ≤ b.toNat) := by
  by_cases h : 0 ≤ x ∧ x < 128
  · exact Or.inl ⟨x.toNat, by omega, by omega⟩
  · right
    refine ⟨by omega, ?_⟩
    unfold Utf8.encode
    have hc : 128 ≤ (if Utf8.valid x = true then x.toNat else Utf8.runeError) ∧ (if Utf8.valid x = true then x.toNat else Utf8.runeError) ≤ 1114111 := by
      split
      · rename_i hv
        simp [Utf8.valid] at hv
        omega
      · unfold Utf8.runeError; omega
    generalize (if Utf8.valid x = true then x.toNat else Utf8.runeError) = c at hc
    dsimp only
    rw [if_neg (by omega)]
    split
    · exact ⟨_, _, rfl, by rw [UInt8.toNat_ofNat']; omega⟩
    · split
      · exact ⟨_, _, rfl, by rw [UInt8.toNat_ofNat']; omega⟩
      · exact ⟨_, _, rfl, by rw [UInt8.toNat_ofNat']; omega⟩

theorem name_low : ∀ n : Nat, n < 32 → (nameF n).data.toList.all (fun b => decide (b.toNat < 128)) = true := by decide +kernel
theorem ascii_all : ∀ c : Nat, c < 128 → ∀ pr : Bool, parseF c pr = wantF c pr 32 := by decide +kernel

theorem match_no (x : Int) (pr : Bool) (b : UInt8) (l : List UInt8) (h : (Utf8.encode x).data.toList = b :: l) (hb : 128 ≤ b.toNat) (n : Nat) (hn : n < 32) : matchB x pr n = false := by
  have ha := name_low n hn
  unfold matchB
  by_cases e : (nameF n).toList = (textF x pr).toList
  · rw [ByteArray.toList_eq, ByteArray.toList_eq] at e
    rw [e] at ha
    have hm : b ∈ (textF x pr).data.toList := by
      unfold textF
      split
      · rw [ByteArray.data_append, Array.toList_append, h]
        simp
      · rw [h]
        exact List.mem_cons_self
    have := List.all_eq_true.1 ha b hm
    simp at this
    omega
  · simpa using e
theorem want_no (x : Int) (pr : Bool) (h : ∀ n : Nat, n < 32 → matchB x pr n = false) : ∀ k : Nat, k ≤ 32 → wantF x pr k = 0
  | 0, _ => rfl
  | k + 1, hk => by
    unfold wantF
    rw [h k (by omega), want_no x pr h k (by omega)]
    rfl
theorem place_none (x : Int) (h : x < 0 ∨ 128 ≤ x) (s : Int) : placeFrom (lettersL s) x 0 = 0 := by
  have n : ∀ (rs : List Int) (n : Int), x ∉ rs → placeFrom rs x n = 0 := by
    intro rs
    induction rs with
    | nil => intro n _; rfl
    | cons r rs ih =>
      intro n hx
      unfold placeFrom
      rw [if_neg (fun e => hx (by rw [e]; exact List.mem_cons_self)), ih (n + 1) (fun e => hx (List.mem_cons_of_mem _ e))]
  apply n
  unfold lettersL
  intro hm
  split at hm
  · simp only [whiteL, List.mem_cons, List.not_mem_nil, or_false] at hm
    omega
  · simp only [blackL, List.mem_cons, List.not_mem_nil, or_false] at hm
    omega
theorem parse_want (x : Int) (pr : Bool) : parseF x pr = wantF x pr 32 := by
  rcases enc_ascii x with ⟨c, hc, rfl⟩ | ⟨hx, b, l, h, hb⟩
  · exact ascii_all c hc pr
  · rw [want_no x pr (match_no x pr b l h hb) 32 (by omega)]
    unfold parseF letterK
    rw [place_none x hx, place_none x hx]
    cases pr <;> rfl

theorem want_step (x : Int) (pr : Bool) (k : Nat) (b : Bool) (h : matchB x pr k = b) : wantF x pr (k + 1) = if b = true then (k : Int) else wantF x pr k := by
  rw [← h]; rfl

theorem want_le (x : Int) (pr : Bool) : ∀ k : Nat, 0 ≤ wantF x pr k ∧ wantF x pr k ≤ k
  | 0 => ⟨by unfold wantF; omega, by unfold wantF; omega⟩
  | k + 1 => by
    have h := want_le x pr k
    unfold wantF
    split <;> omega

theorem walk_true (a0 : Int) (w : World) :
    Calls Try.prog 5 #[.int .i32 a0, .bool true] w fun e w' => e = .returned (.bool true) ∧ Below w.heap.size w w' := by
  have P := Lib.hid (fun W => parse_any a0 true W)
  rw [parse_want] at P
  have en := encode_le a0
  have fits : ¬ 9223372036854775807 < 1 + (Utf8.encode a0).size := by omega
  have W1 : wantF a0 true 1 = 0 := by unfold wantF; split <;> rfl
  clear en
  have HW := Lib.hid W1
  clear W1
  go_enter Try.func5, Try.ntmps5
  go_wp2_with (first | (go_at_call 10; refine (names_true _).mono ?_; rintro e w1 ⟨rfl, hB⟩) | (go_at_call 24; refine (P.out _).mono ?_; rintro e w2 ⟨rfl, hB2⟩))
  have B2 := hB.trans (hB2.mono hB.size)
  clear hB hB2
  go_loopw [6, 7] (fun o i wr => ∃ k : Nat, 1 ≤ k ∧ k ≤ 32 ∧ i = .int .i64 k ∧ o = .int .i64 (wantF a0 true k) ∧ Below w.heap.size w wr) (fun _ i _ => 32 - (intOf i).toNat)
  case atStart => exact ⟨1, by omega, by omega, rfl, by rw [HW.out], B2⟩
  case round =>
    clear P HW
    obtain ⟨k, k1, k2, rfl, rfl, hB⟩ := hrel
    have HB := Lib.hid hB
    clear hB
    by_cases hlt : k < 32
    · have HM := Lib.hid (want_step a0 true k)
      have N := Lib.hid (fun W => refName_any k W (by omega) (by omega))
      have hm : matchB a0 true k = ((nameF k).toList == ((⟨#[43]⟩ : ByteArray) ++ Utf8.encode a0).toList) := rfl
      generalize nameF k = nm at N hm
      generalize hb : (nm.toList == ((⟨#[43]⟩ : ByteArray) ++ Utf8.encode a0).toList) = b at hm
      have HM2 := Lib.hid (HM.out b hm)
      clear HM hm
      cases b with
      | true =>
        go_wp2_with (go_at_call 16; refine (N.out _).mono ?_; rintro e w3 ⟨rfl, hB3⟩)
        go_roundw
        case rel => exact ⟨k + 1, by omega, by omega, by go_num, by rw [HM2.out]; rfl, HB.out.trans (hB3.mono HB.out.size)⟩
        case measure => simp [intOf]; omega
      | false =>
        go_wp2_with (go_at_call 16; refine (N.out _).mono ?_; rintro e w3 ⟨rfl, hB3⟩)
        go_roundw
        case rel => exact ⟨k + 1, by omega, by omega, by go_num, by rw [HM2.out]; rfl, HB.out.trans (hB3.mono HB.out.size)⟩
        case measure => simp [intOf]; omega
    · obtain rfl : k = 32 := by omega
      obtain ⟨v0, v1⟩ := want_le a0 true 32
      generalize wantF a0 true 32 = v at v0 v1
      have vv : (v == v) = true := by simp
      go_wp2
      go_ret
      exact ⟨rfl, HB.out⟩

theorem walk_false (a0 : Int) (w : World) :
    Calls Try.prog 5 #[.int .i32 a0, .bool false] w fun e w' => e = .returned (.bool true) ∧ Below w.heap.size w w' := by
  have P := Lib.hid (fun W => parse_any a0 false W)
  rw [parse_want] at P
  have en := encode_le a0
  have fits : ¬ 9223372036854775807 < 1 + (Utf8.encode a0).size := by omega
  have W1 : wantF a0 false 1 = 0 := by unfold wantF; split <;> rfl
  clear en
  have HW := Lib.hid W1
  clear W1
  go_enter Try.func5, Try.ntmps5
  go_wp2_with (first | (go_at_call 10; refine (names_true _).mono ?_; rintro e w1 ⟨rfl, hB⟩) | (go_at_call 24; refine (P.out _).mono ?_; rintro e w2 ⟨rfl, hB2⟩))
  have B2 := hB.trans (hB2.mono hB.size)
  clear hB hB2
  go_loopw [6, 7] (fun o i wr => ∃ k : Nat, 1 ≤ k ∧ k ≤ 32 ∧ i = .int .i64 k ∧ o = .int .i64 (wantF a0 false k) ∧ Below w.heap.size w wr) (fun _ i _ => 32 - (intOf i).toNat)
  case atStart => exact ⟨1, by omega, by omega, rfl, by rw [HW.out], B2⟩
  case round =>
    clear P HW
    obtain ⟨k, k1, k2, rfl, rfl, hB⟩ := hrel
    have HB := Lib.hid hB
    clear hB
    by_cases hlt : k < 32
    · have HM := Lib.hid (want_step a0 false k)
      have N := Lib.hid (fun W => refName_any k W (by omega) (by omega))
      have hm : matchB a0 false k = ((nameF k).toList == (Utf8.encode a0).toList) := rfl
      generalize nameF k = nm at N hm
      generalize hb : (nm.toList == (Utf8.encode a0).toList) = b at hm
      have HM2 := Lib.hid (HM.out b hm)
      clear HM hm
      cases b with
      | true =>
        go_wp2_with (go_at_call 16; refine (N.out _).mono ?_; rintro e w3 ⟨rfl, hB3⟩)
        go_roundw
        case rel => exact ⟨k + 1, by omega, by omega, by go_num, by rw [HM2.out]; rfl, HB.out.trans (hB3.mono HB.out.size)⟩
        case measure => simp [intOf]; omega
      | false =>
        go_wp2_with (go_at_call 16; refine (N.out _).mono ?_; rintro e w3 ⟨rfl, hB3⟩)
        go_roundw
        case rel => exact ⟨k + 1, by omega, by omega, by go_num, by rw [HM2.out]; rfl, HB.out.trans (hB3.mono HB.out.size)⟩
        case measure => simp [intOf]; omega
    · obtain rfl : k = 32 := by omega
      obtain ⟨v0, v1⟩ := want_le a0 false 32
      generalize wantF a0 false 32 = v at v0 v1
      have vv : (v == v) = true := by simp
      go_wp2
      go_ret
      exact ⟨rfl, HB.out⟩

theorem walk (a0 : Int) (a1 : Bool) (w0 : (Lit.int .i32 a0).wf = true) (w : World) :
    Calls Try.prog 5 #[.int .i32 a0, .bool a1] w fun e w' => e = .returned (.bool true) ∧ Below w.heap.size w w' := by
  cases a1
  · exact walk_false a0 w
  · exact walk_true a0 w
end Go.Proofs.Ytpaelhhpaapgmaa.pieceParses
