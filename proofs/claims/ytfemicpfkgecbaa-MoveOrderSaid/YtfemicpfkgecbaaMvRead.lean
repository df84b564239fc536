/-
  What move.read returns for every text: the squares and the kind that its first five signs name.
-/
import Derived.Test.YtfemicpfkgecbaaMv1
import Derived.Laws.RangeAny
namespace Go.Proofs.Ytfemicpfkgecbaa
open Go.RowKit
set_option linter.unusedVariables false
set_option linter.unusedSimpArgs false

theorem msq_any (a b : Int) (ha : 0 ≤ a) (ha1 : a ≤ 2147483647) (hb : 0 ≤ b) (hb1 : b ≤ 2147483647) (w : World) :
    Calls Try.prog 37 #[.int .i32 a, .int .i32 b] w fun e w' => e = .returned (.int .i64 (sqOf a b)) ∧ w = w' := by
  have S := Lib.hid (fun W => square_any (a - 49) (b - 97) W)
  rw [show squareF (a - 49) (b - 97) = sqOf a b from rfl] at S
  generalize sqOf a b = q at S
  go_enter Try.func37, Try.ntmps37
  go_wp2_with (go_at_call 45; refine (S.out _).mono ?_; rintro e w1 ⟨rfl, rfl⟩)
  go_ret
  exact ⟨rfl, rfl⟩

/-- The signs that were read so far; 0: none. -/
def gk (l : List Int) (k i : Nat) : Int := if i < k then l.getD i 0 else 0
theorem gk_all {l : List Int} {k i : Nat} (h : l.drop k = []) : gk l k i = l.getD i 0 := by
  unfold gk
  split
  · rfl
  · have := List.drop_eq_nil_iff.1 h
    rw [List.getD_eq_getElem?_getD, List.getElem?_eq_none (by omega)]
    rfl
theorem gk_five {l : List Int} {i : Nat} (h : i < 5) : gk l 5 i = l.getD i 0 := if_pos h
theorem gk_end {l : List Int} {k i : Nat} {r : Int} (h : l.drop k = [] ∨ k = 5) (hi : i < 5) (e : l.getD i 0 = r) : gk l k i = r := by
  rcases h with h | rfl
  · rw [gk_all h, e]
  · rw [gk_five hi, e]
theorem gk_next {l : List Int} {k : Nat} {r : Int} {rs : List Int} (h : l.drop k = r :: rs) : gk l (k + 1) k = r := by
  unfold gk
  rw [if_pos (by omega), List.getD_eq_getElem?_getD]
  have : l[k]? = some r := by
    have := congrArg (fun x => x[0]?) h
    simpa using this
  rw [this]
  rfl
theorem gk_same {l : List Int} {k i : Nat} (h : i ≠ k) : gk l (k + 1) i = gk l k i := by
  unfold gk
  by_cases hi : i < k
  · rw [if_pos hi, if_pos (by omega)]
  · rw [if_neg hi, if_neg (by omega)]
theorem runes_bd : ∀ (s : ByteArray) (l : List Int) (pos : Nat), RunesAt s l pos → ∀ i, 0 ≤ l.getD i 0 ∧ l.getD i 0 ≤ 2147483647
  | s, [], pos, _, i => by simp
  | s, r :: rs, pos, h, 0 => by
    have := decode_le s pos
    rw [List.getD_cons_zero, ← h.2.1]
    omega
  | s, r :: rs, pos, h, i + 1 => by
    rw [List.getD_cons_succ]
    exact runes_bd s rs _ h.2.2 i
theorem runes_of (s : ByteArray) : ∀ (n pos : Nat), s.size - pos ≤ n → ∃ l, RunesAt s l pos
  | 0, pos, h => ⟨[], by unfold RunesAt; omega⟩
  | n + 1, pos, h => by
    by_cases hp : pos < s.size
    · have hw := width_pos s pos hp
      obtain ⟨l, hl⟩ := runes_of s n (pos + (Utf8.decode s pos).2) (by omega)
      exact ⟨_ :: l, hp, rfl, hl⟩
    · exact ⟨[], hp⟩

/-- What stands in the memory of the call: the result, the signs, the place in the text. -/
def rdW (w : World) (s : ByteArray) (l : List Int) (k pos : Nat) : World :=
  (((w.alloc (.cells #[.int .i64 0, .int .i64 0, .int .i64 0, .bool false] 23)).alloc (.cells #[.int .i32 (gk l k 0), .int .i32 (gk l k 1), .int .i32 (gk l k 2), .int .i32 (gk l k 3), .int .i32 (gk l k 4)] 59)).alloc (.stringIter s pos))
theorem parseF_bd (x : Int) (b : Bool) : -128 ≤ parseF x b ∧ parseF x b ≤ 127 := by
  unfold parseF
  have h0 := letterK_le 0 x b
  have h1 := letterK_le 1 x b
  unfold ofF
  split
  · split
    · omega
    · split
      · omega
      · split <;> (try split) <;> omega
  · split
    · omega
    · split <;> (try split) <;> omega
theorem two_size (w : World) (A B : Obj) : ((w.alloc A).alloc B).heap.size = w.heap.size + 2 := by simp
theorem next_end2 (w : World) (A B : Obj) (s : ByteArray) (pos : Nat) (ty : TypeId) (h : ¬ pos < s.size) :
    (Instr.next (.pointer (some ⟨w.heap.size + 2, 0, none⟩)) true ty).run Try.prog (((w.alloc A).alloc B).alloc (.stringIter s pos)) = .ok (.tuple #[.bool false]) (((w.alloc A).alloc B).alloc (.stringIter s pos)) := by
  have h1 := run_next_end (P := Try.prog) ((w.alloc A).alloc B) s pos ty h
  rw [two_size] at h1
  exact h1
theorem next_any2 (w : World) (A B : Obj) (s : ByteArray) (pos : Nat) (ty : TypeId) (h : pos < s.size) :
    (Instr.next (.pointer (some ⟨w.heap.size + 2, 0, none⟩)) true ty).run Try.prog (((w.alloc A).alloc B).alloc (.stringIter s pos)) = .ok (.tuple #[.bool true, .int .i64 pos, .int .i32 (Utf8.decode s pos).1]) (((w.alloc A).alloc B).alloc (.stringIter s (pos + (Utf8.decode s pos).2))) := by
  have h1 := run_next_any (P := Try.prog) ((w.alloc A).alloc B) s pos ty h
  rw [two_size] at h1
  exact h1
theorem mv_cells {W : World} {b : Nat} {x0 x1 x2 x3 : Value} (h : W.heap[b]? = some (.cells #[x0, x1, x2, x3] 23)) :
    W.cell? ⟨b, 0, none⟩ = some x0 ∧ W.cell? ⟨b, 1, none⟩ = some x1 ∧ W.cell? ⟨b, 2, none⟩ = some x2 ∧ W.cell? ⟨b, 3, none⟩ = some x3 := by
  refine ⟨?_, ?_, ?_, ?_⟩ <;> simp [World.cell?, h]
theorem ip2 (w : World) (A B : Obj) (s : ByteArray) (p : Nat) : (((w.alloc A).alloc B).alloc (.stringIter s p)).iterPos (w.heap.size + 2) = p := by
  have h := World.iterPos_iter ((w.alloc A).alloc B) s p
  rw [two_size] at h
  exact h
theorem gk_step {l : List Int} {k : Nat} {r : Int} {rs : List Int} (h : l.drop k = r :: rs) (i : Nat) : gk l (k + 1) i = if i = k then r else gk l k i := by
  by_cases e : i = k
  · rw [if_pos e, e]; exact gk_next h
  · rw [if_neg e]; exact gk_same e
theorem three_row (w : World) (A B C : Obj) : (((w.alloc A).alloc B).alloc C).heap[w.heap.size]? = some A := by
  show (((w.heap.push A).push B).push C)[w.heap.size]? = some A
  simp [Array.getElem?_push]
  omega
theorem mv_row4 {W : World} {b : Nat} {x0 x1 x2 x3 : Value} (h : W.heap[b]? = some (.cells #[x0, x1, x2, x3] 23)) (y0 y1 y2 y3 : Value) :
    ((((W.setCell ⟨b, 0, none⟩ y0).setCell ⟨b, 1, none⟩ y1).setCell ⟨b, 2, none⟩ y2).setCell ⟨b, 3, none⟩ y3).heap[b]? = some (.cells #[y0, y1, y2, y3] 23) := by
  rw [heap_setCell_same _ _ _ _ _ _ (heap_setCell_same _ _ _ _ _ _ (heap_setCell_same _ _ _ _ _ _ (heap_setCell_same _ _ _ _ _ _ h)))]
  rfl
set_option maxHeartbeats 4000000 in
theorem read_drop (s : ByteArray) (l : List Int) (r0 r1 r2 r3 r4 : Int) (hr : RunesAt s l 0) (hs : s.size ≤ 9223372036854775807) (e0 : l.getD 0 0 = r0) (e1 : l.getD 1 0 = r1) (e2 : l.getD 2 0 = r2) (e3 : l.getD 3 0 = r3) (e4 : l.getD 4 0 = r4) (hx : r1 = 42) (w : World) :
    Calls Try.prog 23 #[.string s] w fun e w' => e = .returned (.agg #[.int .i64 0, .int .i64 (sqOf r2 r3), .int .i64 (kindF (parseF r0 false)), .bool false]) ∧ Below w.heap.size w w' := by
  have bd := runes_bd s l 0 hr
  have b0 := bd 0
  have b1 := bd 1
  have b2 := bd 2
  have b3 := bd 3
  rw [e0] at b0
  rw [e1] at b1
  rw [e2] at b2
  rw [e3] at b3
  have SQ := Lib.hid (fun W => msq_any r2 r3 b2.1 b2.2 b3.1 b3.2 W)
  have PA := Lib.hid (fun W => parse_any r0 false W)
  have KI := Lib.hid (fun W => kind_any (parseF r0 false) W (parseF_bd _ _).1 (parseF_bd _ _).2)
  have BX := Lib.hid (show (r1 == 42) = true by simpa using hx)
  have EE := Lib.hid (And.intro e0 (And.intro e1 (And.intro e2 (And.intro e3 e4))))
  clear bd hx b0 b1 b2 b3 e0 e1 e2 e3 e4
  go_enter Try.func23, Try.ntmps23
  go_wp2
  go_loopw [4] (fun n w' => ∃ (k pos : Nat) (rs : List Int), k ≤ 5 ∧ n = .int .i64 k ∧ RunesAt s rs pos ∧ l.drop k = rs ∧ w' = rdW w s l k pos) (fun _ w' => s.size - w'.iterPos (w.heap.size + 2))
  case atStart => exact ⟨0, 0, l, by omega, rfl, hr, rfl, rfl⟩
  case round =>
    clear hr
    obtain ⟨k, pos, rs, hk, rfl, hrs, hd, rfl⟩ := hrel
    unfold rdW
    cases rs with
    | nil =>
      have hnx := fun A B ty => next_end2 w A B s pos ty hrs
      rw [gk_end (.inl hd) (by omega) EE.out.1, gk_end (.inl hd) (by omega) EE.out.2.1, gk_end (.inl hd) (by omega) EE.out.2.2.1, gk_end (.inl hd) (by omega) EE.out.2.2.2.1, gk_end (.inl hd) (by omega) EE.out.2.2.2.2]
      clear hrs hd EE hk
      have bx := BX.out
      go_wp2_with (first
        | (go_at_call 37; refine (SQ.out _).mono ?_; rintro e w1 ⟨rfl, rfl⟩)
        | (go_at_call 39; refine (PA.out _).mono ?_; rintro e w2 ⟨rfl, hb2⟩; obtain ⟨hc2, hf2⟩ := bcells hb2; have z2 : w.heap.size < w2.heap.size := by (have := hb2.size; simp at this; omega))
        | (go_at_call 38; refine (KI.out _).mono ?_; rintro e w3 ⟨rfl, rfl⟩))
      have R2 := hb2.block w.heap.size (by simp; omega)
      have R4 := mv_row4 (R2.trans (three_row _ _ _ _)) (.int .i64 0) (.int .i64 (sqOf r2 r3)) (.int .i64 (kindF (parseF r0 false))) (.bool false)
      obtain ⟨q0, q1, q2, q3⟩ := mv_cells R4
      have HB := Lib.hid (((((bthen (ball (ball (ball (bref w) _) _) _) hb2).setCell (p := ⟨w.heap.size, 0, none⟩) (by simp) (.int .i64 0)).setCell (p := ⟨w.heap.size, 1, none⟩) (by simp) (.int .i64 (sqOf r2 r3))).setCell (p := ⟨w.heap.size, 2, none⟩) (by simp) (.int .i64 (kindF (parseF r0 false)))).setCell (p := ⟨w.heap.size, 3, none⟩) (by simp) (.bool false))
      clear hc2 hf2 hb2 R2 R4
      generalize (((w2.setCell ⟨w.heap.size, 0, none⟩ (.int .i64 0)).setCell ⟨w.heap.size, 1, none⟩ (.int .i64 (sqOf r2 r3))).setCell ⟨w.heap.size, 2, none⟩ (.int .i64 (kindF (parseF r0 false)))).setCell ⟨w.heap.size, 3, none⟩ (.bool false) = W4 at *
      exact bodyPost_ret (v := .agg #[.int .i64 0, .int .i64 (sqOf r2 r3), .int .i64 (kindF (parseF r0 false)), .bool false]) (by simp [results, Try.results23, go_sem, q0, q1, q2, q3]) rfl ⟨rfl, HB.out⟩
    | cons r rs =>
      obtain ⟨h1, h2, h3⟩ := hrs
      have hnx := fun A B ty => next_any2 w A B s pos ty h1
      rw [h2] at hnx
      have hwd := width_pos s pos h1
      generalize hq : pos + (Utf8.decode s pos).2 = pos' at hnx h3
      have hlt : pos < pos' := by omega
      by_cases h5 : k = 5
      · subst h5
        rw [gk_end (.inr rfl) (by omega) EE.out.1, gk_end (.inr rfl) (by omega) EE.out.2.1, gk_end (.inr rfl) (by omega) EE.out.2.2.1, gk_end (.inr rfl) (by omega) EE.out.2.2.2.1, gk_end (.inr rfl) (by omega) EE.out.2.2.2.2]
        clear hd EE hk hq hwd h2 h3 hlt
        have bx := BX.out
        go_wp2_with (first
          | (go_at_call 37; refine (SQ.out _).mono ?_; rintro e w1 ⟨rfl, rfl⟩)
          | (go_at_call 39; refine (PA.out _).mono ?_; rintro e w2 ⟨rfl, hb2⟩; obtain ⟨hc2, hf2⟩ := bcells hb2; have z2 : w.heap.size < w2.heap.size := by (have := hb2.size; simp at this; omega))
          | (go_at_call 38; refine (KI.out _).mono ?_; rintro e w3 ⟨rfl, rfl⟩))
        have R2 := hb2.block w.heap.size (by simp; omega)
        have R4 := mv_row4 (R2.trans (three_row _ _ _ _)) (.int .i64 0) (.int .i64 (sqOf r2 r3)) (.int .i64 (kindF (parseF r0 false))) (.bool false)
        obtain ⟨q0, q1, q2, q3⟩ := mv_cells R4
        have HB := Lib.hid (((((bthen (ball (ball (ball (bref w) _) _) _) hb2).setCell (p := ⟨w.heap.size, 0, none⟩) (by simp) (.int .i64 0)).setCell (p := ⟨w.heap.size, 1, none⟩) (by simp) (.int .i64 (sqOf r2 r3))).setCell (p := ⟨w.heap.size, 2, none⟩) (by simp) (.int .i64 (kindF (parseF r0 false)))).setCell (p := ⟨w.heap.size, 3, none⟩) (by simp) (.bool false))
        clear hc2 hf2 hb2 R2 R4
        generalize (((w2.setCell ⟨w.heap.size, 0, none⟩ (.int .i64 0)).setCell ⟨w.heap.size, 1, none⟩ (.int .i64 (sqOf r2 r3))).setCell ⟨w.heap.size, 2, none⟩ (.int .i64 (kindF (parseF r0 false)))).setCell ⟨w.heap.size, 3, none⟩ (.bool false) = W4 at *
        exact bodyPost_ret (v := .agg #[.int .i64 0, .int .i64 (sqOf r2 r3), .int .i64 (kindF (parseF r0 false)), .bool false]) (by simp [results, Try.results23, go_sem, q0, q1, q2, q3]) rfl ⟨rfl, HB.out⟩
      · have EI := Lib.hid (fun i => gk_step hd i)
        have HD := Lib.hid (show l.drop (k + 1) = rs by rw [← List.drop_drop, hd]; rfl)
        have H3 := Lib.hid h3
        clear hd EE hq hwd h2 h3 SQ BX PA KI
        obtain rfl | rfl | rfl | rfl | rfl : k = 0 ∨ k = 1 ∨ k = 2 ∨ k = 3 ∨ k = 4 := by omega
        all_goals
          go_wp2
          go_roundw
          case rel => exact ⟨_, pos', rs, by omega, by go_num, H3.out, HD.out, by rw [EI.out 0, EI.out 1, EI.out 2, EI.out 3, EI.out 4]; rfl⟩
          case measure => rw [ip2, ip2]; omega
set_option maxHeartbeats 4000000 in
theorem read_go (s : ByteArray) (l : List Int) (r0 r1 r2 r3 r4 : Int) (hr : RunesAt s l 0) (hs : s.size ≤ 9223372036854775807) (e0 : l.getD 0 0 = r0) (e1 : l.getD 1 0 = r1) (e2 : l.getD 2 0 = r2) (e3 : l.getD 3 0 = r3) (e4 : l.getD 4 0 = r4) (hx : r1 ≠ 42) (w : World) :
    Calls Try.prog 23 #[.string s] w fun e w' => e = .returned (.agg #[.int .i64 (sqOf r0 r1), .int .i64 (sqOf r2 r3), .int .i64 0, .bool (r4 == 43)]) ∧ Below w.heap.size w w' := by
  have bd := runes_bd s l 0 hr
  have b0 := bd 0
  have b1 := bd 1
  have b2 := bd 2
  have b3 := bd 3
  rw [e0] at b0
  rw [e1] at b1
  rw [e2] at b2
  rw [e3] at b3
  have SQ := Lib.hid (fun W => msq_any r2 r3 b2.1 b2.2 b3.1 b3.2 W)
  have SR := Lib.hid (fun W => msq_any r0 r1 b0.1 b0.2 b1.1 b1.2 W)
  have BX := Lib.hid (show (r1 == 42) = false by simpa using hx)
  have EE := Lib.hid (And.intro e0 (And.intro e1 (And.intro e2 (And.intro e3 e4))))
  clear bd hx b0 b1 b2 b3 e0 e1 e2 e3 e4
  go_enter Try.func23, Try.ntmps23
  go_wp2
  go_loopw [4] (fun n w' => ∃ (k pos : Nat) (rs : List Int), k ≤ 5 ∧ n = .int .i64 k ∧ RunesAt s rs pos ∧ l.drop k = rs ∧ w' = rdW w s l k pos) (fun _ w' => s.size - w'.iterPos (w.heap.size + 2))
  case atStart => exact ⟨0, 0, l, by omega, rfl, hr, rfl, rfl⟩
  case round =>
    clear hr
    obtain ⟨k, pos, rs, hk, rfl, hrs, hd, rfl⟩ := hrel
    unfold rdW
    cases rs with
    | nil =>
      have hnx := fun A B ty => next_end2 w A B s pos ty hrs
      rw [gk_end (.inl hd) (by omega) EE.out.1, gk_end (.inl hd) (by omega) EE.out.2.1, gk_end (.inl hd) (by omega) EE.out.2.2.1, gk_end (.inl hd) (by omega) EE.out.2.2.2.1, gk_end (.inl hd) (by omega) EE.out.2.2.2.2]
      clear hrs hd EE hk
      have bx := BX.out
      go_wp2_with (first
        | (go_at_call 37; refine (SQ.out _).mono ?_; rintro e w1 ⟨rfl, rfl⟩))
      go_region_with (go_at_call 37; refine (SR.out _).mono ?_; rintro e w1 ⟨rfl, rfl⟩)
      all_goals
        go_wp2
        exact bodyPost_ret (v := .agg #[.int .i64 (sqOf r0 r1), .int .i64 (sqOf r2 r3), .int .i64 0, .bool (r4 == 43)]) (by simp [results, Try.results23, go_sem]) rfl ⟨rfl, (ball (ball (ball (bref w) _) _) _).drew⟩
    | cons r rs =>
      obtain ⟨h1, h2, h3⟩ := hrs
      have hnx := fun A B ty => next_any2 w A B s pos ty h1
      rw [h2] at hnx
      have hwd := width_pos s pos h1
      generalize hq : pos + (Utf8.decode s pos).2 = pos' at hnx h3
      have hlt : pos < pos' := by omega
      by_cases h5 : k = 5
      · subst h5
        rw [gk_end (.inr rfl) (by omega) EE.out.1, gk_end (.inr rfl) (by omega) EE.out.2.1, gk_end (.inr rfl) (by omega) EE.out.2.2.1, gk_end (.inr rfl) (by omega) EE.out.2.2.2.1, gk_end (.inr rfl) (by omega) EE.out.2.2.2.2]
        clear hd EE hk hq hwd h2 h3 hlt
        have bx := BX.out
        go_wp2_with (first
          | (go_at_call 37; refine (SQ.out _).mono ?_; rintro e w1 ⟨rfl, rfl⟩))
        go_region_with (go_at_call 37; refine (SR.out _).mono ?_; rintro e w1 ⟨rfl, rfl⟩)
        all_goals
          go_wp2
          exact bodyPost_ret (v := .agg #[.int .i64 (sqOf r0 r1), .int .i64 (sqOf r2 r3), .int .i64 0, .bool (r4 == 43)]) (by simp [results, Try.results23, go_sem]) rfl ⟨rfl, (ball (ball (ball (bref w) _) _) _).drew⟩
      · have EI := Lib.hid (fun i => gk_step hd i)
        have HD := Lib.hid (show l.drop (k + 1) = rs by rw [← List.drop_drop, hd]; rfl)
        have H3 := Lib.hid h3
        clear hd EE hq hwd h2 h3 SQ BX SR
        obtain rfl | rfl | rfl | rfl | rfl : k = 0 ∨ k = 1 ∨ k = 2 ∨ k = 3 ∨ k = 4 := by omega
        all_goals
          go_wp2
          go_roundw
          case rel => exact ⟨_, pos', rs, by omega, by go_num, H3.out, HD.out, by rw [EI.out 0, EI.out 1, EI.out 2, EI.out 3, EI.out 4]; rfl⟩
          case measure => rw [ip2, ip2]; omega
end Go.Proofs.Ytfemicpfkgecbaa
