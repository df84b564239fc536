/-
  What move.Parse returns: the move whose name the text is, or that there is none.
-/
import Derived.Test.YtfemicpfkgecbaaMvRead
namespace Go.Proofs.Ytfemicpfkgecbaa
open Go.RowKit
set_option linter.unusedVariables false
set_option linter.unusedSimpArgs false

theorem bytes_eq (a b : ByteArray) : (a.toList == b.toList) = decide (a = b) := by
  rw [Bool.eq_iff_iff, beq_iff_eq, decide_eq_true_eq]
  constructor
  · intro h
    apply ByteArray.ext
    apply Array.toList_inj.1
    have e : ∀ x : ByteArray, x.toList = x.data.toList := fun x => ByteArray.toList_mk x.data.toList
    rw [e, e] at h
    exact h
  · rintro rfl; rfl
theorem one_row (w : World) (A : Obj) : (w.alloc A).heap[w.heap.size]? = some A := by
  show (w.heap.push A)[w.heap.size]? = some A
  simp
theorem old_row (w : World) (A : Obj) (k : Nat) (h : k < w.heap.size) : (w.alloc A).heap[k]? = w.heap[k]? := by
  show (w.heap.push A)[k]? = _
  rw [Array.getElem?_push, if_neg (by omega)]
theorem row1 {w w1 : World} {A : Obj} (hb : Below (w.alloc A).heap.size (w.alloc A) w1) : w1.heap[w.heap.size]? = some A :=
  (hb.block _ (show w.heap.size < (w.alloc A).heap.size by simp)).trans (one_row w A)
theorem row3 {w w1 : World} {k : Nat} {o : Obj} (hk : k < w.heap.size) (h : w.heap[k]? = some o) (hb : Below w.heap.size w w1) : w1.heap[k]? = some o :=
  (hb.block _ hk).trans h
theorem row2 {w w1 : World} {A : Obj} {k : Nat} {o : Obj} (hk : k < w.heap.size) (h : w.heap[k]? = some o) (hb : Below (w.alloc A).heap.size (w.alloc A) w1) : w1.heap[k]? = some o :=
  (hb.block _ (show k < (w.alloc A).heap.size by simp; omega)).trans ((old_row w A k hk).trans h)
theorem sz1 {w w1 : World} {A : Obj} (hb : Below (w.alloc A).heap.size (w.alloc A) w1) : w.heap.size < w1.heap.size := by
  have := hb.size
  simp at this
  omega
set_option maxHeartbeats 2000000 in
theorem parse_yes (s : ByteArray) (f t d : Int) (p : Bool) (hd0 : 0 ≤ d) (hd1 : d ≤ 15) (hr : ∀ W, Calls Try.prog 23 #[.string s] W fun e w' => e = .returned (.agg #[.int .i64 f, .int .i64 t, .int .i64 d, .bool p]) ∧ Below W.heap.size W w')
    (hc : checkM f t d p = 0) (ht : textS f t d p = s) (w : World) :
    Calls Try.prog 13 #[.string s] w fun e w' => e = .returned (.tuple #[.agg #[.int .i64 f, .int .i64 t, .int .i64 d, .bool p], .int .i64 0]) ∧ Below w.heap.size w w' := by
  have R := Lib.hid hr
  have C := Lib.hid (fun W => check_mv f t d p W)
  rw [hc] at C
  have T := Lib.hid (fun W => text_mv f t d p W (by omega) (by omega))
  rw [ht] at T
  have b1 : (s.toList == s.toList) = true := by simp
  have b2 : (s.toList != s.toList) = false := by simp
  clear hr hc ht hd0 hd1
  go_enter Try.func13, Try.ntmps13
  go_wp2_with (first
    | (go_at_call 23; refine (R.out _).mono ?_; rintro e w1 ⟨rfl, hb1⟩; obtain ⟨hc1, hf1⟩ := bcells hb1; have z1 := sz1 hb1; have HB1 := Lib.hid (bthen (ball (bref w) _) hb1); have R1 := Lib.hid (row1 hb1))
    | (go_at_call 11; refine (C.out _).mono ?_; rintro e w2 ⟨rfl, hb2⟩; obtain ⟨hc2, hf2⟩ := bcells hb2; have z2 := sz1 hb2; have z12 := Nat.lt_trans z1 z2; have HB2 := Lib.hid (bthen (ball HB1.out _) hb2); have R2 := Lib.hid (row2 z1 R1.out hb2))
    | (go_at_call 9; refine (T.out _).mono ?_; rintro e w3 ⟨rfl, hb3⟩; obtain ⟨hc3, hf3⟩ := bcells hb3; have z3 := Nat.lt_of_lt_of_le z2 hb3.size; have HB3 := Lib.hid (bthen HB2.out hb3); have R3 := Lib.hid (row3 z12 R2.out hb3)))
  have R4 := mv_row4 R3.out (.int .i64 f) (.int .i64 t) (.int .i64 d) (.bool p)
  obtain ⟨q0, q1, q2, q3⟩ := mv_cells R4
  have HB := Lib.hid ((((HB3.out.setCell (p := ⟨w.heap.size, 0, none⟩) (by simp) (.int .i64 f)).setCell (p := ⟨w.heap.size, 1, none⟩) (by simp) (.int .i64 t)).setCell (p := ⟨w.heap.size, 2, none⟩) (by simp) (.int .i64 d)).setCell (p := ⟨w.heap.size, 3, none⟩) (by simp) (.bool p))
  clear hc1 hf1 hb1 hc2 hf2 hb2 hc3 hf3 hb3 R4
  generalize (((w3.setCell ⟨w.heap.size, 0, none⟩ (.int .i64 f)).setCell ⟨w.heap.size, 1, none⟩ (.int .i64 t)).setCell ⟨w.heap.size, 2, none⟩ (.int .i64 d)).setCell ⟨w.heap.size, 3, none⟩ (.bool p) = W4 at *
  exact bodyPost_ret (v := .tuple #[.agg #[.int .i64 f, .int .i64 t, .int .i64 d, .bool p], .int .i64 0]) (by simp [results, Try.results13, go_sem, q0, q1, q2, q3]) rfl ⟨rfl, HB.out⟩
set_option maxHeartbeats 2000000 in
theorem parse_no1 (s : ByteArray) (f t d : Int) (p : Bool) (hd0 : 0 ≤ d) (hd1 : d ≤ 15) (hr : ∀ W, Calls Try.prog 23 #[.string s] W fun e w' => e = .returned (.agg #[.int .i64 f, .int .i64 t, .int .i64 d, .bool p]) ∧ Below W.heap.size W w')
    (hc : checkM f t d p ≠ 0) (w : World) :
    Calls Try.prog 13 #[.string s] w fun e w' => e = .returned (.tuple #[.agg #[.int .i64 0, .int .i64 0, .int .i64 0, .bool false], .int .i64 70]) ∧ Below w.heap.size w w' := by
  have R := Lib.hid hr
  have C := Lib.hid (fun W => check_mv f t d p W)
  have b1 : (checkM f t d p != 0) = true := by simpa using hc
  generalize checkM f t d p = v at C b1
  clear hr hc hd0 hd1
  go_enter Try.func13, Try.ntmps13
  go_wp2_with (first
    | (go_at_call 23; refine (R.out _).mono ?_; rintro e w1 ⟨rfl, hb1⟩; obtain ⟨hc1, hf1⟩ := bcells hb1; have z1 := sz1 hb1; have HB1 := Lib.hid (bthen (ball (bref w) _) hb1); have R1 := Lib.hid (row1 hb1))
    | (go_at_call 11; refine (C.out _).mono ?_; rintro e w2 ⟨rfl, hb2⟩; obtain ⟨hc2, hf2⟩ := bcells hb2; have z2 := sz1 hb2; have z12 := Nat.lt_trans z1 z2; have HB2 := Lib.hid (bthen (ball HB1.out _) hb2); have R2 := Lib.hid (row2 z1 R1.out hb2)))
  have R4 := mv_row4 R2.out (.int .i64 0) (.int .i64 0) (.int .i64 0) (.bool false)
  obtain ⟨q0, q1, q2, q3⟩ := mv_cells R4
  have HB := Lib.hid ((((HB2.out.setCell (p := ⟨w.heap.size, 0, none⟩) (by simp) (.int .i64 0)).setCell (p := ⟨w.heap.size, 1, none⟩) (by simp) (.int .i64 0)).setCell (p := ⟨w.heap.size, 2, none⟩) (by simp) (.int .i64 0)).setCell (p := ⟨w.heap.size, 3, none⟩) (by simp) (.bool false))
  clear hc1 hf1 hb1 hc2 hf2 hb2 R4
  generalize (((w2.setCell ⟨w.heap.size, 0, none⟩ (.int .i64 0)).setCell ⟨w.heap.size, 1, none⟩ (.int .i64 0)).setCell ⟨w.heap.size, 2, none⟩ (.int .i64 0)).setCell ⟨w.heap.size, 3, none⟩ (.bool false) = W4 at *
  exact bodyPost_ret (v := .tuple #[.agg #[.int .i64 0, .int .i64 0, .int .i64 0, .bool false], .int .i64 70]) (by simp [results, Try.results13, go_sem, q0, q1, q2, q3]) rfl ⟨rfl, HB.out⟩
set_option maxHeartbeats 2000000 in
theorem parse_no2 (s : ByteArray) (f t d : Int) (p : Bool) (hd0 : 0 ≤ d) (hd1 : d ≤ 15) (hr : ∀ W, Calls Try.prog 23 #[.string s] W fun e w' => e = .returned (.agg #[.int .i64 f, .int .i64 t, .int .i64 d, .bool p]) ∧ Below W.heap.size W w')
    (hc : checkM f t d p = 0) (ht : textS f t d p ≠ s) (w : World) :
    Calls Try.prog 13 #[.string s] w fun e w' => e = .returned (.tuple #[.agg #[.int .i64 0, .int .i64 0, .int .i64 0, .bool false], .int .i64 70]) ∧ Below w.heap.size w w' := by
  have R := Lib.hid hr
  have C := Lib.hid (fun W => check_mv f t d p W)
  rw [hc] at C
  have T := Lib.hid (fun W => text_mv f t d p W (by omega) (by omega))
  have b1 : ((textS f t d p).toList == s.toList) = false := by rw [bytes_eq, decide_eq_false ht]
  have b2 : ((textS f t d p).toList != s.toList) = true := by rw [bne, b1]; rfl
  generalize textS f t d p = x at T b1 b2
  clear hr hc ht hd0 hd1
  go_enter Try.func13, Try.ntmps13
  go_wp2_with (first
    | (go_at_call 23; refine (R.out _).mono ?_; rintro e w1 ⟨rfl, hb1⟩; obtain ⟨hc1, hf1⟩ := bcells hb1; have z1 := sz1 hb1; have HB1 := Lib.hid (bthen (ball (bref w) _) hb1); have R1 := Lib.hid (row1 hb1))
    | (go_at_call 11; refine (C.out _).mono ?_; rintro e w2 ⟨rfl, hb2⟩; obtain ⟨hc2, hf2⟩ := bcells hb2; have z2 := sz1 hb2; have z12 := Nat.lt_trans z1 z2; have HB2 := Lib.hid (bthen (ball HB1.out _) hb2); have R2 := Lib.hid (row2 z1 R1.out hb2))
    | (go_at_call 9; refine (T.out _).mono ?_; rintro e w3 ⟨rfl, hb3⟩; obtain ⟨hc3, hf3⟩ := bcells hb3; have z3 := Nat.lt_of_lt_of_le z2 hb3.size; have HB3 := Lib.hid (bthen HB2.out hb3); have R3 := Lib.hid (row3 z12 R2.out hb3)))
  have R4 := mv_row4 R3.out (.int .i64 0) (.int .i64 0) (.int .i64 0) (.bool false)
  obtain ⟨q0, q1, q2, q3⟩ := mv_cells R4
  have HB := Lib.hid ((((HB3.out.setCell (p := ⟨w.heap.size, 0, none⟩) (by simp) (.int .i64 0)).setCell (p := ⟨w.heap.size, 1, none⟩) (by simp) (.int .i64 0)).setCell (p := ⟨w.heap.size, 2, none⟩) (by simp) (.int .i64 0)).setCell (p := ⟨w.heap.size, 3, none⟩) (by simp) (.bool false))
  clear hc1 hf1 hb1 hc2 hf2 hb2 hc3 hf3 hb3 R4
  generalize (((w3.setCell ⟨w.heap.size, 0, none⟩ (.int .i64 0)).setCell ⟨w.heap.size, 1, none⟩ (.int .i64 0)).setCell ⟨w.heap.size, 2, none⟩ (.int .i64 0)).setCell ⟨w.heap.size, 3, none⟩ (.bool false) = W4 at *
  exact bodyPost_ret (v := .tuple #[.agg #[.int .i64 0, .int .i64 0, .int .i64 0, .bool false], .int .i64 70]) (by simp [results, Try.results13, go_sem, q0, q1, q2, q3]) rfl ⟨rfl, HB.out⟩

/-- A text that is no move's name. -/
def NoName (s : ByteArray) : Prop := ∀ (f t d : Int) (p : Bool), checkM f t d p = 0 → textS f t d p ≠ s
theorem parse_bad (s : ByteArray) (hs : s.size ≤ 9223372036854775807) (h : NoName s) (w : World) :
    Calls Try.prog 13 #[.string s] w fun e w' => e = .returned (.tuple #[.agg #[.int .i64 0, .int .i64 0, .int .i64 0, .bool false], .int .i64 70]) ∧ Below w.heap.size w w' := by
  obtain ⟨l, hl⟩ := runes_of s s.size 0 (by omega)
  by_cases hx : l.getD 1 0 = 42
  · have hr := fun W => read_drop s l _ _ _ _ _ hl hs rfl rfl rfl rfl rfl hx W
    have hk := kindF_le (parseF (l.getD 0 0) false)
    by_cases hc : checkM 0 (sqOf (l.getD 2 0) (l.getD 3 0)) (kindF (parseF (l.getD 0 0) false)) false = 0
    · exact parse_no2 s _ _ _ _ hk.1 hk.2 hr hc (h _ _ _ _ hc) w
    · exact parse_no1 s _ _ _ _ hk.1 hk.2 hr hc w
  · have hr := fun W => read_go s l _ _ _ _ _ hl hs rfl rfl rfl rfl rfl hx W
    by_cases hc : checkM (sqOf (l.getD 0 0) (l.getD 1 0)) (sqOf (l.getD 2 0) (l.getD 3 0)) 0 (l.getD 4 0 == 43) = 0
    · exact parse_no2 s _ _ _ _ (by omega) (by omega) hr hc (h _ _ _ _ hc) w
    · exact parse_no1 s _ _ _ _ (by omega) (by omega) hr hc w
end Go.Proofs.Ytfemicpfkgecbaa
