/-
  What the reference reads is a move's name, and each move's name is read so.
-/
import Derived.Test.YtfemicpfkgecbaaMvRefP2
namespace Go.Proofs.Ytfemicpfkgecbaa
open Go.RowKit
set_option linter.unusedVariables false
set_option linter.unusedSimpArgs false

theorem u8_of (c : UInt8) (n : Nat) (h : c.toNat = n) : UInt8.ofNat n = c := by
  apply UInt8.toNat_inj.1
  rw [UInt8.toNat_ofNat', ← h]
  have := c.toNat_lt
  omega
theorem sqR_bd (a b : UInt8) (h : 0 ≤ sqR a b) : sqR a b < 81 ∧ sqL (sqR a b) = [a, b] := by
  have hf := find_files a.toNat a.toNat_lt
  have hr := find_ranks b.toNat b.toNat_lt
  unfold sqR at *
  by_cases hn : findF filesS a.toNat < 0 ∨ findF ranksS b.toNat < 0
  · rw [if_pos hn] at h; omega
  · rw [if_neg hn] at *
    by_cases h1 : 49 ≤ a.toNat ∧ a.toNat ≤ 57
    · rw [if_pos h1] at hf
      by_cases h2 : 97 ≤ b.toNat ∧ b.toNat ≤ 105
      · rw [if_pos h2] at hr
        rw [hf, hr]
        refine ⟨by omega, ?_⟩
        unfold sqL
        rw [u8_of a _ (by omega), u8_of b _ (by omega)]
      · rw [if_neg h2] at hr; omega
    · rw [if_neg h1] at hf; omega
theorem sqR_sq (q : Int) (h0 : 0 ≤ q) (h1 : q < 81) (a b : UInt8) (h : sqL q = [a, b]) : sqR a b = q := by
  have e : a.toNat = 49 + (q / 9).toNat ∧ b.toNat = 97 + (q % 9).toNat := by
    unfold sqL at h
    simp only [List.cons.injEq, and_true] at h
    rw [← h.1, ← h.2, u8_nat _ (by omega), u8_nat _ (by omega)]
    exact ⟨rfl, rfl⟩
  have hf := find_files a.toNat a.toNat_lt
  have hr := find_ranks b.toNat b.toNat_lt
  rw [if_pos (by omega)] at hf hr
  unfold sqR
  rw [hf, hr, if_neg (by omega)]
  omega
theorem sqL_two (q : Int) : ∃ a b, sqL q = [a, b] := ⟨_, _, rfl⟩
theorem rank_not_star (q : Int) (h0 : 0 ≤ q) (h1 : q < 81) (a b : UInt8) (h : sqL q = [a, b]) : (b.toNat : Int) ≠ 42 := by
  have e : b.toNat = 97 + (q % 9).toNat := by
    unfold sqL at h
    simp only [List.cons.injEq, and_true] at h
    rw [← h.2, u8_nat _ (by omega)]
  omega
theorem textS_list {f t d : Int} {p : Bool} (h : checkM f t d p = 0) : textS f t d p = ⟨(textL f t d p).toArray⟩ := if_pos h
theorem list_eq {f t d : Int} {p : Bool} {l : List UInt8} (h : checkM f t d p = 0) (e : textS f t d p = ⟨l.toArray⟩) : textL f t d p = l := by
  rw [textS_list h] at e
  have := congrArg (fun s : ByteArray => s.data.toList) e
  simpa using this
/-- How a move's name looks. -/
theorem name_shape {f t d : Int} {p : Bool} (hc : checkM f t d p = 0) :
    (d = 0 ∧ ∃ a b c e, sqL f = [a, b] ∧ sqL t = [c, e] ∧ textL f t d p = if p = true then [a, b, c, e, 43] else [a, b, c, e]) ∨
    (d ≠ 0 ∧ ∃ c e, sqL t = [c, e] ∧ textL f t d p = [letB d, 42, c, e]) := by
  obtain ⟨a, b, h1⟩ := sqL_two f
  obtain ⟨c, e, h2⟩ := sqL_two t
  by_cases hd : d = 0
  · left
    refine ⟨hd, a, b, c, e, h1, h2, ?_⟩
    unfold textL
    rw [if_pos hd, h1, h2]
    cases p <;> rfl
  · right
    refine ⟨hd, c, e, h2, ?_⟩
    unfold textL
    rw [if_neg hd, h2]

theorem noName_size {s : ByteArray} (h4 : s.size ≠ 4) (h5 : s.size ≠ 5) : NoName s := by
  intro f t d p hc e
  have hs : s.size = (textL f t d p).length := by rw [← e, textS_list hc]; rfl
  rcases name_shape hc with ⟨hd, a, b, c, g, h1, h2, h3⟩ | ⟨hd, c, g, h2, h3⟩
  · rw [h3] at hs
    cases p
    · exact h4 hs
    · exact h5 hs
  · rw [h3] at hs
    exact h4 hs
theorem noName_star5 (a b c d e : UInt8) (hb : (b.toNat : Int) = 42) : NoName ⟨#[a, b, c, d, e]⟩ := by
  intro f t k p hc he
  have hl := list_eq (l := [a, b, c, d, e]) hc he
  have hcc := (checkM_zero f t k p).1 hc
  rcases name_shape hc with ⟨hd, x, y, z, u, h1, h2, h3⟩ | ⟨hd, z, u, h2, h3⟩
  · rw [h3] at hl
    cases p
    · simp at hl
    · simp at hl
      obtain ⟨rfl, rfl, -⟩ := hl
      exact rank_not_star f (by omega) (by omega) _ _ h1 hb
  · rw [h3] at hl
    simp at hl
theorem noName_star4 (a b c d : UInt8) (hb : (b.toNat : Int) = 42) (h : findF kindsS a.toNat < 0 ∨ sqR c d < 0) : NoName ⟨#[a, b, c, d]⟩ := by
  intro f t k p hc he
  have hl := list_eq (l := [a, b, c, d]) hc he
  have hcc := (checkM_zero f t k p).1 hc
  rcases name_shape hc with ⟨hd, x, y, z, u, h1, h2, h3⟩ | ⟨hd, z, u, h2, h3⟩
  · rw [h3] at hl
    cases p
    · simp at hl
      obtain ⟨rfl, rfl, -⟩ := hl
      exact rank_not_star f (by omega) (by omega) _ _ h1 hb
    · simp at hl
  · rw [h3] at hl
    simp only [List.cons.injEq, and_true] at hl
    obtain ⟨rfl, -, rfl, rfl⟩ := hl
    rw [sqR_sq t (by omega) (by omega) _ _ h2] at h
    obtain ⟨n, rfl⟩ : ∃ n : Nat, k = n := ⟨k.toNat, by omega⟩
    rw [kinds_let n (by omega) (by omega)] at h
    omega
theorem noName_go4 (a b c d : UInt8) (hb : (b.toNat : Int) ≠ 42) (h : sqR a b < 0 ∨ sqR c d < 0 ∨ sqR a b = sqR c d) : NoName ⟨#[a, b, c, d]⟩ := by
  intro f t k p hc he
  have hl := list_eq (l := [a, b, c, d]) hc he
  have hcc := (checkM_zero f t k p).1 hc
  rcases name_shape hc with ⟨hd, x, y, z, u, h1, h2, h3⟩ | ⟨hd, z, u, h2, h3⟩
  · rw [h3] at hl
    cases p
    · simp at hl
      obtain ⟨rfl, rfl, rfl, rfl⟩ := hl
      rw [sqR_sq f (by omega) (by omega) _ _ h1, sqR_sq t (by omega) (by omega) _ _ h2] at h
      omega
    · simp at hl
  · rw [h3] at hl
    simp only [List.cons.injEq, and_true] at hl
    exact hb (by rw [← hl.2.1]; rfl)
theorem noName_go5 (a b c d e : UInt8) (hb : (b.toNat : Int) ≠ 42) (h : sqR a b < 0 ∨ sqR c d < 0 ∨ sqR a b = sqR c d ∨ (e.toNat : Int) ≠ 43) : NoName ⟨#[a, b, c, d, e]⟩ := by
  intro f t k p hc he
  have hl := list_eq (l := [a, b, c, d, e]) hc he
  have hcc := (checkM_zero f t k p).1 hc
  rcases name_shape hc with ⟨hd, x, y, z, u, h1, h2, h3⟩ | ⟨hd, z, u, h2, h3⟩
  · rw [h3] at hl
    cases p
    · simp at hl
    · simp at hl
      obtain ⟨rfl, rfl, rfl, rfl, rfl⟩ := hl
      rw [sqR_sq f (by omega) (by omega) _ _ h1, sqR_sq t (by omega) (by omega) _ _ h2] at h
      have : ((43 : UInt8).toNat : Int) = 43 := rfl
      omega
  · rw [h3] at hl
    simp at hl
theorem yes_star4 (a b c d : UInt8) (hb : (b.toNat : Int) = 42) (h1 : 0 ≤ findF kindsS a.toNat) (h3 : 0 ≤ sqR c d) :
    findF kindsS a.toNat ≤ 6 ∧ checkM 0 (sqR c d) (findF kindsS a.toNat + 1) false = 0 ∧ textS 0 (sqR c d) (findF kindsS a.toNat + 1) false = ⟨#[a, b, c, d]⟩ := by
  rcases find_kinds a.toNat a.toNat_lt with h | ⟨_, h6, hl⟩
  · omega
  · obtain ⟨s1, s2⟩ := sqR_bd c d h3
    have hc : checkM 0 (sqR c d) (findF kindsS a.toNat + 1) false = 0 := (checkM_zero _ _ _ _).2 ⟨⟨h3, s1⟩, .inr ⟨by omega, by omega, rfl, rfl⟩⟩
    refine ⟨h6, hc, ?_⟩
    rw [textS_list hc]
    unfold textL
    rw [if_neg (by omega), s2, UInt8.toNat_inj.1 hl, show b = 42 from UInt8.toNat_inj.1 (by show b.toNat = 42; omega)]
theorem yes_go4 (a b c d : UInt8) (h1 : 0 ≤ sqR a b) (h2 : 0 ≤ sqR c d) (h3 : sqR a b ≠ sqR c d) :
    checkM (sqR a b) (sqR c d) 0 false = 0 ∧ textS (sqR a b) (sqR c d) 0 false = ⟨#[a, b, c, d]⟩ := by
  obtain ⟨s1, s2⟩ := sqR_bd a b h1
  obtain ⟨t1, t2⟩ := sqR_bd c d h2
  have hc : checkM (sqR a b) (sqR c d) 0 false = 0 := (checkM_zero _ _ _ _).2 ⟨⟨h2, t1⟩, .inl ⟨rfl, h1, s1, h3⟩⟩
  refine ⟨hc, ?_⟩
  rw [textS_list hc]
  unfold textL
  rw [if_pos rfl, s2, t2]
  rfl
theorem yes_go5 (a b c d e : UInt8) (he : (e.toNat : Int) = 43) (h1 : 0 ≤ sqR a b) (h2 : 0 ≤ sqR c d) (h3 : sqR a b ≠ sqR c d) :
    checkM (sqR a b) (sqR c d) 0 true = 0 ∧ textS (sqR a b) (sqR c d) 0 true = ⟨#[a, b, c, d, e]⟩ := by
  obtain ⟨s1, s2⟩ := sqR_bd a b h1
  obtain ⟨t1, t2⟩ := sqR_bd c d h2
  have hc : checkM (sqR a b) (sqR c d) 0 true = 0 := (checkM_zero _ _ _ _).2 ⟨⟨h2, t1⟩, .inl ⟨rfl, h1, s1, h3⟩⟩
  refine ⟨hc, ?_⟩
  rw [textS_list hc]
  unfold textL
  rw [if_pos rfl, s2, t2, show e = 43 from UInt8.toNat_inj.1 (by show e.toNat = 43; omega)]
  rfl
/-- Either the reference reads a move whose name the text is, or the text is no name and it says so. -/
theorem refParse_any (s : ByteArray) (hs : s.size ≤ 9223372036854775807) :
    (∃ (f t d : Int) (p : Bool), checkM f t d p = 0 ∧ textS f t d p = s ∧ 0 ≤ d ∧ d ≤ 7 ∧ ∀ w, Calls Try.prog 14 #[.string s] w fun e w' => e = .returned (.tuple #[.agg #[.int .i64 f, .int .i64 t, .int .i64 d, .bool p], .int .i64 0]) ∧ Below w.heap.size w w') ∨
    (NoName s ∧ ∀ w, Calls Try.prog 14 #[.string s] w fun e w' => e = .returned (.tuple #[.agg #[.int .i64 0, .int .i64 0, .int .i64 0, .bool false], .int .i64 70]) ∧ Below w.heap.size w w') := by
  by_cases h4 : s.size = 4
  · obtain ⟨⟨l⟩⟩ := s
    obtain ⟨a, b, c, d, rfl⟩ : ∃ a b c d, l = [a, b, c, d] := by
      have hl : l.length = 4 := h4
      match l, hl with
      | [a, b, c, d], _ => exact ⟨a, b, c, d, rfl⟩
    by_cases hb : (b.toNat : Int) = 42
    · by_cases h : findF kindsS a.toNat < 0 ∨ sqR c d < 0
      · exact .inr ⟨noName_star4 a b c d hb h, fun w => refParse_star4_no a b c d hb h w⟩
      · obtain ⟨y1, y2, y3⟩ := yes_star4 a b c d hb (by omega) (by omega)
        exact .inl ⟨_, _, _, _, y2, y3, by omega, by omega, fun w => refParse_star4_yes a b c d hb (by omega) y1 (by omega) w⟩
    · by_cases h : sqR a b < 0 ∨ sqR c d < 0 ∨ sqR a b = sqR c d
      · exact .inr ⟨noName_go4 a b c d hb h, fun w => refParse_go4_no a b c d hb h w⟩
      · obtain ⟨y1, y2⟩ := yes_go4 a b c d (by omega) (by omega) (by omega)
        exact .inl ⟨_, _, _, _, y1, y2, by omega, by omega, fun w => refParse_go4_yes a b c d hb (by omega) (by omega) (by omega) w⟩
  · by_cases h5 : s.size = 5
    · obtain ⟨⟨l⟩⟩ := s
      obtain ⟨a, b, c, d, e, rfl⟩ : ∃ a b c d e, l = [a, b, c, d, e] := by
        have hl : l.length = 5 := h5
        match l, hl with
        | [a, b, c, d, e], _ => exact ⟨a, b, c, d, e, rfl⟩
      by_cases hb : (b.toNat : Int) = 42
      · exact .inr ⟨noName_star5 a b c d e hb, fun w => refParse_star5 a b c d e hb w⟩
      · by_cases h : sqR a b < 0 ∨ sqR c d < 0 ∨ sqR a b = sqR c d
        · exact .inr ⟨noName_go5 a b c d e hb (by omega), fun w => refParse_go5_no a b c d e hb h w⟩
        · by_cases he : (e.toNat : Int) = 43
          · obtain ⟨y1, y2⟩ := yes_go5 a b c d e he (by omega) (by omega) (by omega)
            exact .inl ⟨_, _, _, _, y1, y2, by omega, by omega, fun w => refParse_go5_yes a b c d e hb he (by omega) (by omega) (by omega) w⟩
          · exact .inr ⟨noName_go5 a b c d e hb (by omega), fun w => refParse_go5_tail a b c d e hb he (by omega) (by omega) (by omega) w⟩
    · exact .inr ⟨noName_size h4 h5, fun w => refParse_size s h4 h5 hs w⟩
end Go.Proofs.Ytfemicpfkgecbaa
