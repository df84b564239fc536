/-
  move.Parse at the name of a move: that move.
-/
import Derived.Test.YtfemicpfkgecbaaMvParse
namespace Go.Proofs.Ytfemicpfkgecbaa
open Go.RowKit
set_option linter.unusedVariables false
set_option linter.unusedSimpArgs false

theorem dropC (s : ByteArray) (k : Nat) (h : k < s.size) : s.data.toList.drop k = s[k] :: s.data.toList.drop (k + 1) := by
  rw [List.drop_eq_getElem_cons (by rw [Array.length_toList]; exact h)]
  rfl
theorem runes_ascii (s : ByteArray) (ha : ∀ c ∈ s.data.toList, c.toNat < 128) : ∀ n pos, s.size - pos = n → RunesAt s ((s.data.toList.drop pos).map (fun c => (c.toNat : Int))) pos
  | 0, pos, h => by
    have : s.data.toList.drop pos = [] := List.drop_eq_nil_iff.2 (by rw [Array.length_toList]; have : s.data.size = s.size := rfl; omega)
    rw [this]
    show ¬ pos < s.size
    omega
  | n + 1, pos, h => by
    have hp : pos < s.size := by omega
    have hm : s[pos].toNat < 128 := ha _ (by
      have : s[pos] = s.data.toList[pos]'(by rw [Array.length_toList]; exact hp) := rfl
      rw [this]
      exact List.getElem_mem _)
    rw [dropC s pos hp, List.map_cons]
    refine ⟨hp, ?_, ?_⟩
    · rw [decode_ascii s pos hp hm]
    · rw [decode_ascii s pos hp hm]
      exact runes_ascii s ha n (pos + 1) (by omega)
theorem u8_nat (n : Nat) (h : n < 256) : (UInt8.ofNat n).toNat = n := by
  rw [UInt8.toNat_ofNat']
  omega
theorem letB_ascii : ∀ d : Int, (letB d).toNat < 128 := by
  intro d
  unfold letB
  split
  · decide
  · split
    · decide
    · split
      · decide
      · split
        · decide
        · split
          · decide
          · split <;> decide
theorem sqL_ascii (q : Int) (h0 : 0 ≤ q) (h1 : q < 81) : ∀ c ∈ sqL q, c.toNat < 128 := by
  intro c hc
  unfold sqL at hc
  simp only [List.mem_cons, List.not_mem_nil, or_false] at hc
  rcases hc with rfl | rfl
  · rw [u8_nat _ (by omega)]; omega
  · rw [u8_nat _ (by omega)]; omega
theorem textL_ascii (f t d : Int) (p : Bool) (hc : checkM f t d p = 0) : ∀ c ∈ textL f t d p, c.toNat < 128 := by
  have h := (checkM_zero f t d p).1 hc
  intro c hm
  unfold textL at hm
  by_cases hd : d = 0
  · rw [if_pos hd] at hm
    rw [List.mem_append, List.mem_append] at hm
    rcases hm with hm | hm | hm
    · exact sqL_ascii f (by omega) (by omega) c hm
    · exact sqL_ascii t (by omega) (by omega) c hm
    · cases p
      · simp at hm
      · simp at hm; subst hm; decide
  · rw [if_neg hd] at hm
    simp only [List.mem_cons] at hm
    rcases hm with rfl | rfl | hm
    · exact letB_ascii d
    · decide
    · exact sqL_ascii t (by omega) (by omega) c hm
theorem letter_kind : ∀ d : Nat, d < 8 → 1 ≤ d → kindF (parseF (letB d).toNat false) = d := by decide +kernel

theorem sqL_nums (q : Int) (h0 : 0 ≤ q) (h1 : q < 81) : (sqL q).map (fun c => (c.toNat : Int)) = [49 + q / 9, 97 + q % 9] := by
  unfold sqL
  simp only [List.map_cons, List.map_nil]
  rw [u8_nat _ (by omega), u8_nat _ (by omega)]
  rw [show ((49 + (q / 9).toNat : Nat) : Int) = 49 + q / 9 by omega, show ((97 + (q % 9).toNat : Nat) : Int) = 97 + q % 9 by omega]
theorem parse_good (f t d : Int) (p : Bool) (hc : checkM f t d p = 0) (w : World) :
    Calls Try.prog 13 #[.string (textS f t d p)] w fun e w' => e = .returned (.tuple #[.agg #[.int .i64 f, .int .i64 t, .int .i64 d, .bool p], .int .i64 0]) ∧ Below w.heap.size w w' := by
  have h := (checkM_zero f t d p).1 hc
  have hs := textS_size f t d p
  have e : textS f t d p = ⟨(textL f t d p).toArray⟩ := if_pos hc
  have hl : RunesAt (textS f t d p) ((textL f t d p).map (fun c => (c.toNat : Int))) 0 := by
    have := runes_ascii (textS f t d p) (by rw [e]; exact fun c hm => textL_ascii f t d p hc c (by simpa using hm)) _ 0 rfl
    rw [List.drop_zero] at this
    rw [show (textS f t d p).data.toList = textL f t d p by rw [e]] at this
    exact this
  by_cases hd : d = 0
  · subst hd
    have el : (textL f t 0 p).map (fun c => (c.toNat : Int)) = (49 + f / 9) :: (97 + f % 9) :: (49 + t / 9) :: (97 + t % 9) :: (if p = true then [43] else []) := by
      unfold textL
      rw [if_pos rfl, List.map_append, List.map_append, sqL_nums f (by omega) (by omega), sqL_nums t (by omega) (by omega)]
      cases p <;> rfl
    rw [el] at hl
    have r4 : (((49 + f / 9) :: (97 + f % 9) :: (49 + t / 9) :: (97 + t % 9) :: (if p = true then [43] else []) : List Int).getD 4 0 == 43) = p := by cases p <;> rfl
    refine parse_yes _ f t 0 p (by omega) (by omega) (fun W => ?_) hc rfl w
    have := read_go (textS f t 0 p) _ _ _ _ _ _ hl (by omega) rfl rfl rfl rfl rfl (by show 97 + f % 9 ≠ 42; omega) W
    rw [r4] at this
    have g : ∀ (a b c d : Int) (l : List Int), (a :: b :: c :: d :: l).getD 0 0 = a ∧ (a :: b :: c :: d :: l).getD 1 0 = b ∧ (a :: b :: c :: d :: l).getD 2 0 = c ∧ (a :: b :: c :: d :: l).getD 3 0 = d := fun a b c d l => ⟨rfl, rfl, rfl, rfl⟩
    rw [(g _ _ _ _ _).1, (g _ _ _ _ _).2.1, (g _ _ _ _ _).2.2.1, (g _ _ _ _ _).2.2.2, sqOf_sq f (by omega) (by omega), sqOf_sq t (by omega) (by omega)] at this
    exact this
  · obtain ⟨ht, h' | ⟨d1, d7, rfl, rfl⟩⟩ := h
    · exact absurd h'.1 hd
    · have el : (textL 0 t d false).map (fun c => (c.toNat : Int)) = ((letB d).toNat : Int) :: 42 :: (49 + t / 9) :: (97 + t % 9) :: [] := by
        unfold textL
        rw [if_neg hd, List.map_cons, List.map_cons, sqL_nums t (by omega) (by omega)]
        rfl
      rw [el] at hl
      refine parse_yes _ 0 t d false (by omega) (by omega) (fun W => ?_) hc rfl w
      have := read_drop (textS 0 t d false) _ _ _ _ _ _ hl (by omega) rfl rfl rfl rfl rfl (by rfl) W
      have g : ∀ (a b c d : Int) (l : List Int), (a :: b :: c :: d :: l).getD 0 0 = a ∧ (a :: b :: c :: d :: l).getD 2 0 = c ∧ (a :: b :: c :: d :: l).getD 3 0 = d := fun a b c d l => ⟨rfl, rfl, rfl⟩
      obtain ⟨n, rfl⟩ : ∃ n : Nat, d = n := ⟨d.toNat, by omega⟩
      rw [(g _ _ _ _ _).1, (g _ _ _ _ _).2.1, (g _ _ _ _ _).2.2, letter_kind n (by omega) (by omega), sqOf_sq t (by omega) (by omega)] at this
      exact this
end Go.Proofs.Ytfemicpfkgecbaa
