/-
  The order of moves: the program's Compare, and the reference's Less.
-/
import Derived.Test.YtfemicpfkgecbaaMvNames
import Derived.Test.YtfemicpfkgecbaaMvRef3
namespace Go.Proofs.Ytfemicpfkgecbaa
open Go.RowKit
set_option linter.unusedVariables false
set_option linter.unusedSimpArgs false

def cmpI (x y : Int) : Int := if x < y then -1 else if y < x then 1 else 0
def nextO (o x y : Int) : Int := if o = 0 then cmpI x y else o
theorem nan_any (x : Int) (w : World) : Calls Try.prog 40 #[.int .i64 x] w fun e w' => e = .returned (.bool false) ∧ w = w' := by
  have b : (x != x) = false := by simp
  go_enter Try.func40, Try.ntmps40
  go_wp2
  go_ret
  exact ⟨rfl, rfl⟩
theorem cmp_any (x y : Int) (w : World) : Calls Try.prog 29 #[.int .i64 x, .int .i64 y] w fun e w' => e = .returned (.int .i64 (cmpI x y)) ∧ w = w' := by
  have N := Lib.hid nan_any
  unfold cmpI
  by_cases h1 : x < y
  · rw [if_pos h1]
    go_enter Try.func29, Try.ntmps29
    go_wp2_with (go_at_call 40; refine (N.out _ _).mono ?_; rintro e w1 ⟨rfl, rfl⟩)
    go_ret
    exact ⟨rfl, rfl⟩
  · rw [if_neg h1]
    by_cases h2 : y < x
    · rw [if_pos h2]
      go_enter Try.func29, Try.ntmps29
      go_wp2_with (go_at_call 40; refine (N.out _ _).mono ?_; rintro e w1 ⟨rfl, rfl⟩)
      go_ret
      exact ⟨rfl, rfl⟩
    · rw [if_neg h2]
      go_enter Try.func29, Try.ntmps29
      go_wp2_with (go_at_call 40; refine (N.out _ _).mono ?_; rintro e w1 ⟨rfl, rfl⟩)
      go_ret
      exact ⟨rfl, rfl⟩
/-- What a call does that changes one variable alone. -/
def Turned (b : Nat) (v : Value) (T : TypeId) (w w' : World) : Prop :=
  w'.heap[b]? = some (.cells #[v] T) ∧ (∀ k, k ≠ b → k < w.heap.size → w'.heap[k]? = w.heap[k]?) ∧ w.heap.size ≤ w'.heap.size ∧ ∀ (B : Nat) (w0 : World), Below B w0 w → B ≤ b → Below B w0 w'
theorem by_any (o x y : Int) (b : Nat) (w : World) (h : w.heap[b]? = some (.cells #[.int .i64 o] 3)) :
    Calls Try.prog 28 #[.int .i64 x, .int .i64 y, .pointer (some ⟨b, 0, none⟩)] w fun e w' => e = .returned (.tuple #[]) ∧ Turned b (.int .i64 (nextO o x y)) 3 w w' := by
  have c0 : w.cell? ⟨b, 0, none⟩ = some (.int .i64 o) := by simp [World.cell?, h]
  have f0 : w.frozen? ⟨b, 0, none⟩ = false := frozen_of_row _ _ _ _ _ h
  have H := Lib.hid h
  have C := Lib.hid (fun W => cmp_any x y W)
  by_cases ho : o = 0
  · have e : nextO o x y = cmpI x y := if_pos ho
    rw [e]
    subst ho
    clear h e
    generalize cmpI x y = v at *
    go_enter Try.func28, Try.ntmps28
    go_wp2_with (go_at_call 29; refine (C.out _).mono ?_; rintro e w1 ⟨rfl, rfl⟩)
    go_end0
    refine ⟨rfl, ?_, ?_, ?_, ?_⟩
    · rw [heap_setCell_same _ _ _ _ _ _ H.out]; rfl
    · intro k hk hl
      exact heap_setCell_other _ _ _ _ hk
    · simp
    · intro B w0 hb hB
      exact hb.setCell hB _
  · have e : nextO o x y = o := if_neg ho
    rw [e]
    have b0 : (o == 0) = false := by simpa using ho
    clear h e ho
    go_enter Try.func28, Try.ntmps28
    go_wp2
    go_end0
    exact ⟨rfl, H.out, fun _ _ _ => rfl, Nat.le_refl _, fun _ _ h _ => h⟩

def rankP (p : Bool) : Int := if p = true then 1 else 0
theorem behind_any (f t d : Int) (p : Bool) (w : World) : Calls Try.prog 30 #[.agg #[.int .i64 f, .int .i64 t, .int .i64 d, .bool p]] w fun e w' => e = .returned (.int .i64 (rankP p)) ∧ Below w.heap.size w w' := by
  cases p
  all_goals
    go_enter Try.func30, Try.ntmps30
    go_wp2
    go_ret
    exact ⟨rfl, ball (bref w) _⟩
/-- The order of two moves. -/
def ordM (f t d : Int) (p : Bool) (f' t' d' : Int) (p' : Bool) : Int := nextO (nextO (nextO (nextO 0 d d') f f') t t') (rankP p) (rankP p')
theorem Turned.cell {b : Nat} {v : Value} {T : TypeId} {w w' : World} (h : Turned b v T w w') : w'.cell? ⟨b, 0, none⟩ = some v := by simp [World.cell?, h.1]
theorem Turned.rowR {b : Nat} {v : Value} {T : TypeId} {w w' : World} (h : Turned b v T w w') {k : Nat} {o : Obj} (hk : k ≠ b) (hl : k < w.heap.size) (hr : w.heap[k]? = some o) : w'.heap[k]? = some o := (h.2.1 k hk hl).trans hr
theorem lt_of_row {w : World} {k : Nat} {o : Obj} (h : w.heap[k]? = some o) : k < w.heap.size := (Array.getElem?_eq_some_iff.1 h).1
theorem three_row1 (w : World) (A B C : Obj) : (((w.alloc A).alloc B).alloc C).heap[w.heap.size + 1]? = some B := by
  show (((w.heap.push A).push B).push C)[w.heap.size + 1]? = some B
  rw [Array.getElem?_push, if_neg (by simp), Array.getElem?_push, if_pos (by simp)]
theorem three_row2 (w : World) (A B C : Obj) : (((w.alloc A).alloc B).alloc C).heap[w.heap.size + 1 + 1]? = some C := by
  show (((w.heap.push A).push B).push C)[w.heap.size + 1 + 1]? = some C
  rw [Array.getElem?_push, if_pos (by simp)]

/-- The two moves that were handed over, and the order so far. -/
def Ord3 (w : World) (A B : Obj) (o : Int) (W : World) : Prop :=
  Below w.heap.size w W ∧ W.heap[w.heap.size]? = some A ∧ W.heap[w.heap.size + 1]? = some B ∧ W.heap[w.heap.size + 1 + 1]? = some (.cells #[.int .i64 o] 3)
theorem Ord3.start (w : World) (A B : Obj) : Ord3 w A B 0 (((w.alloc A).alloc B).alloc (.cells #[.int .i64 0] 3)) :=
  ⟨ball (ball (ball (bref w) _) _) _, three_row _ _ _ _, three_row1 _ _ _ _, three_row2 _ _ _ _⟩
theorem Ord3.turn {w W W' : World} {A B : Obj} {o x y : Int} (h : Ord3 w A B o W) (k : Turned (w.heap.size + 1 + 1) (.int .i64 (nextO o x y)) 3 W W') : Ord3 w A B (nextO o x y) W' :=
  ⟨k.2.2.2 _ _ h.1 (by omega), k.rowR (by omega) (lt_of_row h.2.1) h.2.1, k.rowR (by omega) (lt_of_row h.2.2.1) h.2.2.1, k.1⟩
theorem Ord3.grow {w W W' : World} {A B : Obj} {o : Int} (h : Ord3 w A B o W) (hb : Below W.heap.size W W') : Ord3 w A B o W' :=
  ⟨bthen h.1 hb, row3 (lt_of_row h.2.1) h.2.1 hb, row3 (lt_of_row h.2.2.1) h.2.2.1 hb, row3 (lt_of_row h.2.2.2) h.2.2.2 hb⟩
theorem Ord3.drew {w W : World} {A B : Obj} {o : Int} (h : Ord3 w A B o W) : Ord3 w A B o W.drew := ⟨h.1.drew, h.2.1, h.2.2.1, h.2.2.2⟩

set_option maxHeartbeats 4000000 in
theorem compare_mv (f t d : Int) (p : Bool) (f' t' d' : Int) (p' : Bool) (w : World) :
    Calls Try.prog 17 #[.agg #[.int .i64 f, .int .i64 t, .int .i64 d, .bool p], .agg #[.int .i64 f', .int .i64 t', .int .i64 d', .bool p']] w fun e w' => e = .returned (.int .i64 (ordM f t d p f' t' d' p')) ∧ Below w.heap.size w w' := by
  have BY := Lib.hid by_any
  have B1 := Lib.hid (fun W => behind_any f t d p W)
  have B2 := Lib.hid (fun W => behind_any f' t' d' p' W)
  unfold ordM
  generalize rankP p = r at *
  generalize rankP p' = r' at *
  have H := Lib.hid (Ord3.start w (.cells #[.int .i64 f, .int .i64 t, .int .i64 d, .bool p] 23) (.cells #[.int .i64 f', .int .i64 t', .int .i64 d', .bool p'] 23))
  go_enter Try.func17, Try.ntmps17
  go_wp2_with fail
  refine (BY.out 0 d d' _ _ H.out.2.2.2).mono ?_
  rintro e w1 ⟨rfl, ht⟩
  have H1 := Lib.hid (H.out.turn ht)
  obtain ⟨a0, a1, a2, a3⟩ := mv_cells H1.out.2.1
  obtain ⟨b0, b1, b2, b3⟩ := mv_cells H1.out.2.2.1
  clear ht H
  go_wp2_with fail
  refine (BY.out _ f f' _ _ H1.out.2.2.2).mono ?_
  rintro e w2 ⟨rfl, ht⟩
  have H2 := Lib.hid (H1.out.turn ht)
  clear a0 a1 a2 a3 b0 b1 b2 b3 ht H1
  obtain ⟨a0, a1, a2, a3⟩ := mv_cells H2.out.2.1
  obtain ⟨b0, b1, b2, b3⟩ := mv_cells H2.out.2.2.1
  go_wp2_with fail
  refine (BY.out _ t t' _ _ H2.out.2.2.2).mono ?_
  rintro e w3 ⟨rfl, ht⟩
  have H3 := Lib.hid (H2.out.turn ht)
  clear a0 a1 a2 a3 b0 b1 b2 b3 ht H2
  obtain ⟨a0, a1, a2, a3⟩ := mv_cells H3.out.2.1
  obtain ⟨b0, b1, b2, b3⟩ := mv_cells H3.out.2.2.1
  generalize hO : nextO (nextO (nextO 0 d d') f f') t t' = o at *
  have HO := Lib.hid hO
  clear hO
  go_wp2_with fail
  go_region_with (first
    | (go_at_call_of 30 (Value.int .i64 f); refine (B1.out _).mono ?_; rintro e w4 ⟨rfl, hb4⟩; have H4 := Lib.hid (H3.out.drew.grow hb4); obtain ⟨p0, p1, p2, p3⟩ := mv_cells H4.out.2.2.1)
    | (go_at_call_of 30 (Value.int .i64 f'); refine (B2.out _).mono ?_; rintro e w5 ⟨rfl, hb5⟩; have H5 := Lib.hid (H4.out.grow hb5))
    | (go_at_call 28; refine (BY.out o r r' _ _ H5.out.2.2.2).mono ?_; rintro e w6 ⟨rfl, ht⟩; have H6 := Lib.hid (H5.out.turn ht); have c6 := ht.cell; clear ht))
  all_goals
    go_wp2
    go_ret
    exact ⟨by rw [HO.out]; rfl, H6.out.1⟩
end Go.Proofs.Ytfemicpfkgecbaa
