/-
  The walk of the law MoveLonger: for every move and every text it returns true.
-/
import Derived.Test.YtfemicpfkgecbaaMvNames
import Derived.Test.YtfemicpfkgecbaaMvName
import Derived.OpenShut
namespace Go.Proofs.Ytfemicpfkgecbaa.moveLonger
open Go.RowKit
set_option linter.unusedVariables false
set_option linter.unusedSimpArgs false

theorem app_list (a b : ByteArray) : (a ++ b).data.toList = a.data.toList ++ b.data.toList := by
  rw [ByteArray.data_append, Array.toList_append]
theorem longer_none (f t d : Int) (p : Bool) (more : ByteArray) (hc : checkM f t d p = 0) (hm : more.data.toList ≠ []) (h : ¬ (d = 0 ∧ p = false ∧ more.data.toList = [43])) : NoName (textS f t d p ++ more) := by
  intro f' t' d' p' hc' e
  have hl : textL f' t' d' p' = textL f t d p ++ more.data.toList := by
    have := congrArg (fun s : ByteArray => s.data.toList) e
    simp only [app_list, textS_list hc, textS_list hc'] at this
    simpa using this
  generalize more.data.toList = l at *
  have hcc := (checkM_zero f t d p).1 hc
  have hcc' := (checkM_zero f' t' d' p').1 hc'
  cases l with
  | nil => exact hm rfl
  | cons c l =>
    rcases name_shape hc' with ⟨hd', a', b', c', e', h1', h2', h3'⟩ | ⟨hd', c', e', h2', h3'⟩
    · rw [h3'] at hl
      rcases name_shape hc with ⟨hd, a, b, x, y, h1, h2, h3⟩ | ⟨hd, x, y, h2, h3⟩
      · rw [h3] at hl
        cases p'
        · cases p <;> simp at hl
        · cases p
          · simp at hl
            obtain ⟨-, -, -, -, h5, h6⟩ := hl
            exact h ⟨hd, rfl, by rw [← h5, h6]⟩
          · simp at hl
      · rw [h3] at hl
        cases p'
        · simp at hl
        · simp at hl
          obtain ⟨-, rfl, -⟩ := hl
          exact rank_not_star f' (by omega) (by omega) _ _ h1' rfl
    · rw [h3'] at hl
      rcases name_shape hc with ⟨hd, a, b, x, y, h1, h2, h3⟩ | ⟨hd, x, y, h2, h3⟩
      · rw [h3] at hl
        cases p <;> simp at hl
      · rw [h3] at hl
        simp at hl
theorem longer_up (f t : Int) (hc : checkM f t 0 false = 0) : checkM f t 0 true = 0 ∧ textS f t 0 false ++ ⟨#[43]⟩ = textS f t 0 true := by
  have h := (checkM_zero f t 0 false).1 hc
  have hc' : checkM f t 0 true = 0 := (checkM_zero f t 0 true).2 ⟨h.1, .inl (by omega)⟩
  refine ⟨hc', ?_⟩
  rw [← text_go f t 0 false hc rfl rfl, ← text_up f t 0 true hc' rfl rfl]
theorem three_none (x : ByteArray) (h : 4 ≤ x.size) : (x.extract 0 3).size = 3 ∧ NoName (x.extract 0 3) := by
  have e : (x.extract 0 3).size = 3 := by
    rw [ByteArray.size_extract]
    omega
  exact ⟨e, noName_size (by omega) (by omega)⟩
theorem text_four (f t d : Int) (p : Bool) (hc : checkM f t d p = 0) : 4 ≤ (textS f t d p).size ∧ (textS f t d p).toList.isEmpty = false := by
  rw [textS_list hc, ByteArray.toList_mk]
  rcases name_shape hc with ⟨hd, a, b, x, y, h1, h2, h3⟩ | ⟨hd, x, y, h2, h3⟩
  · rw [h3]
    cases p
    · exact ⟨Nat.le_refl _, rfl⟩
    · exact ⟨by show 4 ≤ 5; omega, rfl⟩
  · rw [h3]
    exact ⟨Nat.le_refl _, rfl⟩
set_option maxHeartbeats 1000000 in
theorem walk_not (f t d : Int) (p : Bool) (m : ByteArray) (hd0 : -9223372036854775808 ≤ d) (hd1 : d ≤ 9223372036854775807) (hc : checkM f t d p ≠ 0) (w : World) :
    Calls Try.prog 7 #[.agg #[.int .i64 f, .int .i64 t, .int .i64 d, .bool p], .string m] w fun e w' => e = .returned (.bool true) ∧ Below w.heap.size w w' := by
  have N := Lib.hid (fun W => names_mv W)
  have T := Lib.hid (fun W => text_mv f t d p W hd0 hd1)
  rw [show textS f t d p = ⟨#[]⟩ from if_neg hc] at T
  clear hc hd0 hd1
  go_enter Try.func7, Try.ntmps7
  go_wp2_with (first
    | (go_at_call 8; refine (N.out _).mono ?_; rintro e w1 ⟨rfl, hb1⟩; obtain ⟨hc1, hf1⟩ := bcells hb1; have z1 := sz1 hb1; have HB := Lib.hid (bthen (ball (bref w) _) hb1))
    | (go_at_call 9; refine (T.out _).mono ?_; rintro e w2 ⟨rfl, hb2⟩; obtain ⟨hc2, hf2⟩ := bcells hb2; have z2 := Nat.lt_of_lt_of_le z1 hb2.size; have HB := Lib.hid (bthen HB.out hb2)))
  go_ret
  exact ⟨rfl, HB.out⟩
set_option maxHeartbeats 1000000 in
theorem walk_empty (f t d : Int) (p : Bool) (m : ByteArray) (hd0 : -9223372036854775808 ≤ d) (hd1 : d ≤ 9223372036854775807) (hc : checkM f t d p = 0) (w : World) :
    Calls Try.prog 7 #[.agg #[.int .i64 f, .int .i64 t, .int .i64 d, .bool p], .string ⟨#[]⟩] w fun e w' => e = .returned (.bool true) ∧ Below w.heap.size w w' := by
  have N := Lib.hid (fun W => names_mv W)
  have T := Lib.hid (fun W => text_mv f t d p W hd0 hd1)
  have hx := (text_four f t d p hc).2
  generalize textS f t d p = x at T hx
  clear hc hd0 hd1
  go_enter Try.func7, Try.ntmps7
  go_wp2_with (first
    | (go_at_call 8; refine (N.out _).mono ?_; rintro e w1 ⟨rfl, hb1⟩; obtain ⟨hc1, hf1⟩ := bcells hb1; have z1 := sz1 hb1; have HB := Lib.hid (bthen (ball (bref w) _) hb1))
    | (go_at_call 9; refine (T.out _).mono ?_; rintro e w2 ⟨rfl, hb2⟩; obtain ⟨hc2, hf2⟩ := bcells hb2; have z2 := Nat.lt_of_lt_of_le z1 hb2.size; have HB := Lib.hid (bthen HB.out hb2)))
  go_ret
  exact ⟨rfl, HB.out⟩
set_option maxHeartbeats 1000000 in
theorem walk_long (f t d : Int) (p : Bool) (m : ByteArray) (hd0 : -9223372036854775808 ≤ d) (hd1 : d ≤ 9223372036854775807) (hc : checkM f t d p = 0) (hm : m.toList.isEmpty = false) (hl : 100 < m.size) (w : World) :
    Calls Try.prog 7 #[.agg #[.int .i64 f, .int .i64 t, .int .i64 d, .bool p], .string m] w fun e w' => e = .returned (.bool true) ∧ Below w.heap.size w w' := by
  have N := Lib.hid (fun W => names_mv W)
  have T := Lib.hid (fun W => text_mv f t d p W hd0 hd1)
  have hx := (text_four f t d p hc).2
  generalize textS f t d p = x at T hx
  clear hc hd0 hd1
  go_enter Try.func7, Try.ntmps7
  go_wp2_with (first
    | (go_at_call 8; refine (N.out _).mono ?_; rintro e w1 ⟨rfl, hb1⟩; obtain ⟨hc1, hf1⟩ := bcells hb1; have z1 := sz1 hb1; have HB := Lib.hid (bthen (ball (bref w) _) hb1))
    | (go_at_call 9; refine (T.out _).mono ?_; rintro e w2 ⟨rfl, hb2⟩; obtain ⟨hc2, hf2⟩ := bcells hb2; have z2 := Nat.lt_of_lt_of_le z1 hb2.size; have HB := Lib.hid (bthen HB.out hb2)))
  go_ret
  exact ⟨rfl, HB.out⟩
set_option maxHeartbeats 1000000 in
theorem walk_drop (f t d : Int) (p : Bool) (m : ByteArray) (hd0 : -9223372036854775808 ≤ d) (hd1 : d ≤ 9223372036854775807) (hc : checkM f t d p = 0) (hm : m.toList.isEmpty = false) (hl : m.size ≤ 100) (hm0 : m.data.toList ≠ []) (hd : d ≠ 0) (w : World) :
    Calls Try.prog 7 #[.agg #[.int .i64 f, .int .i64 t, .int .i64 d, .bool p], .string m] w fun e w' => e = .returned (.bool true) ∧ Below w.heap.size w w' := by
  have N := Lib.hid (fun W => names_mv W)
  have T := Lib.hid (fun W => text_mv f t d p W hd0 hd1)
  have bd : (d == 0) = false := by simpa using hd
  have hn := longer_none f t d p m hc hm0 (fun h => hd h.1)
  clear hd
  obtain ⟨x4, hx⟩ := text_four _ _ _ _ hc
  have x5 := textS_size f t d p
  have P := Lib.hid (fun W => parse_bad (textS f t d p ++ m) (by rw [ByteArray.size_append]; omega) hn W)
  obtain ⟨x3, n3⟩ := three_none _ x4
  have P3 := Lib.hid (fun W => parse_bad _ (by omega) n3 W)
  clear hn n3 hm0
  generalize textS f t d p = x at *
  have s1 : ¬ 9223372036854775807 < x.size + m.size := by omega
  have s2 : ¬ 100 < m.size := by omega
  have s3 : 3 ≤ x.size := by omega
  have s4 : (3 : Int) ≤ x.size := by omega
  clear hc hd0 hd1 x3 x4 x5 hl
  go_enter Try.func7, Try.ntmps7
  go_wp2_with (first
    | (go_at_call 8; refine (N.out _).mono ?_; rintro e w1 ⟨rfl, hb1⟩; obtain ⟨hc1, hf1⟩ := bcells hb1; have z1 := sz1 hb1; have HB := Lib.hid (bthen (ball (bref w) _) hb1))
    | (go_at_call 9; refine (T.out _).mono ?_; rintro e w2 ⟨rfl, hb2⟩; obtain ⟨hc2, hf2⟩ := bcells hb2; have z2 := Nat.lt_of_lt_of_le z1 hb2.size; have HB := Lib.hid (bthen HB.out hb2))
    | (go_at_call_of 13 (x.extract 0 3); refine (P3.out _).mono ?_; rintro e w4 ⟨rfl, hb4⟩; have HB := Lib.hid (bthen (ball HB.out _) hb4))
    | (go_at_call 13; refine (P.out _).mono ?_; rintro e w3 ⟨rfl, hb3⟩; obtain ⟨hc3, hf3⟩ := bcells hb3; have z3 := Nat.lt_of_lt_of_le z2 hb3.size; have HB := Lib.hid (bthen HB.out hb3)))
  go_ret
  exact ⟨rfl, HB.out⟩
set_option maxHeartbeats 1000000 in
theorem walk_up (f t d : Int) (p : Bool) (m : ByteArray) (hd0 : -9223372036854775808 ≤ d) (hd1 : d ≤ 9223372036854775807) (hc : checkM f t d p = 0) (hm : m.toList.isEmpty = false) (hl : m.size ≤ 100) (hm0 : m.data.toList ≠ []) (hd : d = 0) (hp : p = true) (w : World) :
    Calls Try.prog 7 #[.agg #[.int .i64 f, .int .i64 t, .int .i64 d, .bool p], .string m] w fun e w' => e = .returned (.bool true) ∧ Below w.heap.size w w' := by
  have N := Lib.hid (fun W => names_mv W)
  have T := Lib.hid (fun W => text_mv f t d p W hd0 hd1)
  have hn := longer_none f t d p m hc hm0 (fun h => by rw [hp] at h; exact absurd h.2.1 (by decide))
  subst hd hp
  obtain ⟨x4, hx⟩ := text_four _ _ _ _ hc
  have x5 := textS_size f t 0 true
  have P := Lib.hid (fun W => parse_bad (textS f t 0 true ++ m) (by rw [ByteArray.size_append]; omega) hn W)
  obtain ⟨x3, n3⟩ := three_none _ x4
  have P3 := Lib.hid (fun W => parse_bad _ (by omega) n3 W)
  clear hn n3 hm0
  generalize textS f t 0 true = x at *
  have s1 : ¬ 9223372036854775807 < x.size + m.size := by omega
  have s2 : ¬ 100 < m.size := by omega
  have s3 : 3 ≤ x.size := by omega
  have s4 : (3 : Int) ≤ x.size := by omega
  clear hc hd0 hd1 x3 x4 x5 hl
  go_enter Try.func7, Try.ntmps7
  go_wp2_with (first
    | (go_at_call 8; refine (N.out _).mono ?_; rintro e w1 ⟨rfl, hb1⟩; obtain ⟨hc1, hf1⟩ := bcells hb1; have z1 := sz1 hb1; have HB := Lib.hid (bthen (ball (bref w) _) hb1))
    | (go_at_call 9; refine (T.out _).mono ?_; rintro e w2 ⟨rfl, hb2⟩; obtain ⟨hc2, hf2⟩ := bcells hb2; have z2 := Nat.lt_of_lt_of_le z1 hb2.size; have HB := Lib.hid (bthen HB.out hb2))
    | (go_at_call_of 13 (x.extract 0 3); refine (P3.out _).mono ?_; rintro e w4 ⟨rfl, hb4⟩; have HB := Lib.hid (bthen (ball HB.out _) hb4))
    | (go_at_call 13; refine (P.out _).mono ?_; rintro e w3 ⟨rfl, hb3⟩; obtain ⟨hc3, hf3⟩ := bcells hb3; have z3 := Nat.lt_of_lt_of_le z2 hb3.size; have HB := Lib.hid (bthen HB.out hb3)))
  go_ret
  exact ⟨rfl, HB.out⟩
set_option maxHeartbeats 1000000 in
theorem walk_more (f t d : Int) (p : Bool) (m : ByteArray) (hd0 : -9223372036854775808 ≤ d) (hd1 : d ≤ 9223372036854775807) (hc : checkM f t d p = 0) (hm : m.toList.isEmpty = false) (hl : m.size ≤ 100) (hm0 : m.data.toList ≠ []) (hd : d = 0) (hp : p = false) (h43 : m.data.toList ≠ [43]) (w : World) :
    Calls Try.prog 7 #[.agg #[.int .i64 f, .int .i64 t, .int .i64 d, .bool p], .string m] w fun e w' => e = .returned (.bool true) ∧ Below w.heap.size w w' := by
  have N := Lib.hid (fun W => names_mv W)
  have T := Lib.hid (fun W => text_mv f t d p W hd0 hd1)
  have hn := longer_none f t d p m hc hm0 (fun h => h43 h.2.2)
  have e1 : (m.toList == [43]) = false := by
    rw [show m.toList = m.data.toList from ByteArray.toList_mk m.data.toList]
    simpa using h43
  subst hd hp
  clear h43
  obtain ⟨x4, hx⟩ := text_four _ _ _ _ hc
  have x5 := textS_size f t 0 false
  have P := Lib.hid (fun W => parse_bad (textS f t 0 false ++ m) (by rw [ByteArray.size_append]; omega) hn W)
  obtain ⟨x3, n3⟩ := three_none _ x4
  have P3 := Lib.hid (fun W => parse_bad _ (by omega) n3 W)
  clear hn n3 hm0
  generalize textS f t 0 false = x at *
  have s1 : ¬ 9223372036854775807 < x.size + m.size := by omega
  have s2 : ¬ 100 < m.size := by omega
  have s3 : 3 ≤ x.size := by omega
  have s4 : (3 : Int) ≤ x.size := by omega
  clear hc hd0 hd1 x3 x4 x5 hl
  go_enter Try.func7, Try.ntmps7
  go_wp2_with (first
    | (go_at_call 8; refine (N.out _).mono ?_; rintro e w1 ⟨rfl, hb1⟩; obtain ⟨hc1, hf1⟩ := bcells hb1; have z1 := sz1 hb1; have HB := Lib.hid (bthen (ball (bref w) _) hb1))
    | (go_at_call 9; refine (T.out _).mono ?_; rintro e w2 ⟨rfl, hb2⟩; obtain ⟨hc2, hf2⟩ := bcells hb2; have z2 := Nat.lt_of_lt_of_le z1 hb2.size; have HB := Lib.hid (bthen HB.out hb2))
    | (go_at_call_of 13 (x.extract 0 3); refine (P3.out _).mono ?_; rintro e w4 ⟨rfl, hb4⟩; have HB := Lib.hid (bthen (ball HB.out _) hb4))
    | (go_at_call 13; refine (P.out _).mono ?_; rintro e w3 ⟨rfl, hb3⟩; obtain ⟨hc3, hf3⟩ := bcells hb3; have z3 := Nat.lt_of_lt_of_le z2 hb3.size; have HB := Lib.hid (bthen HB.out hb3)))
  go_ret
  exact ⟨rfl, HB.out⟩
set_option maxHeartbeats 1000000 in
theorem walk_plus (f t : Int) (hc : checkM f t 0 false = 0) (w : World) :
    Calls Try.prog 7 #[.agg #[.int .i64 f, .int .i64 t, .int .i64 0, .bool false], .string ⟨#[43]⟩] w fun e w' => e = .returned (.bool true) ∧ Below w.heap.size w w' := by
  have N := Lib.hid (fun W => names_mv W)
  have T := Lib.hid (fun W => text_mv f t 0 false W (by omega) (by omega))
  obtain ⟨x4, hx⟩ := text_four _ _ _ _ hc
  have x5 := textS_size f t 0 false
  obtain ⟨u1, u2⟩ := longer_up f t hc
  have P := Lib.hid (fun W => parse_good f t 0 true u1 W)
  rw [← u2] at P
  generalize textS f t 0 false = x at *
  have s1 : ¬ 9223372036854775807 < x.size + 1 := by omega
  have ef : (f == f) = true := by simp
  have et : (t == t) = true := by simp
  clear hc x4 x5 u1 u2
  go_enter Try.func7, Try.ntmps7
  go_wp2_with (first
    | (go_at_call 8; refine (N.out _).mono ?_; rintro e w1 ⟨rfl, hb1⟩; obtain ⟨hc1, hf1⟩ := bcells hb1; have z1 := sz1 hb1; have HB := Lib.hid (bthen (ball (bref w) _) hb1))
    | (go_at_call 9; refine (T.out _).mono ?_; rintro e w2 ⟨rfl, hb2⟩; obtain ⟨hc2, hf2⟩ := bcells hb2; have z2 := Nat.lt_of_lt_of_le z1 hb2.size; have HB := Lib.hid (bthen HB.out hb2))
    | (go_at_call 13; refine (P.out _).mono ?_; rintro e w3 ⟨rfl, hb3⟩; obtain ⟨hc3, hf3⟩ := bcells hb3; have z3 := Nat.lt_of_lt_of_le z2 hb3.size; have HB := Lib.hid (bthen HB.out hb3)))
  go_ret
  exact ⟨rfl, ball (HB.out.setCell (by simp) _) _⟩
theorem walk (f t d : Int) (p : Bool) (m : ByteArray) (wf : (Lit.int .i64 f).wf = true) (wt : (Lit.int .i64 t).wf = true) (wd : (Lit.int .i64 d).wf = true) (hs : m.size ≤ maxLen) (w : World) :
    Calls Try.prog 7 #[.agg #[.int .i64 f, .int .i64 t, .int .i64 d, .bool p], .string m] w fun e w' => e = .returned (.bool true) ∧ Below w.heap.size w w' := by
  have bd := bounds_i64 wd
  by_cases hc : checkM f t d p = 0
  · have el : m.toList = m.data.toList := ByteArray.toList_mk m.data.toList
    by_cases hm : m.data.toList = []
    · have : m = ⟨#[]⟩ := ByteArray.ext (Array.toList_inj.1 hm)
      subst this
      exact walk_empty f t d p ⟨#[]⟩ bd.1 bd.2 hc w
    · have hm1 : m.toList.isEmpty = false := by
        rw [el]
        cases h : m.data.toList with
        | nil => exact absurd h hm
        | cons _ _ => rfl
      by_cases hl : m.size ≤ 100
      · by_cases hd : d = 0
        · cases hp : p
          · subst hp
            by_cases h43 : m.data.toList = [43]
            · have : m = ⟨#[43]⟩ := ByteArray.ext (Array.toList_inj.1 h43)
              subst this hd
              exact walk_plus f t hc w
            · exact walk_more f t d false m bd.1 bd.2 hc hm1 hl hm hd rfl h43 w
          · subst hp
            exact walk_up f t d true m bd.1 bd.2 hc hm1 hl hm hd rfl w
        · exact walk_drop f t d p m bd.1 bd.2 hc hm1 hl hm hd w
      · exact walk_long f t d p m bd.1 bd.2 hc hm1 (by omega) w
  · exact walk_not f t d p m bd.1 bd.2 hc w
end Go.Proofs.Ytfemicpfkgecbaa.moveLonger
