/-
  The walk of the law MoveOrder: for every three moves it returns true.
-/
import Derived.Test.YtfemicpfkgecbaaMvLess
import Derived.OpenShut
namespace Go.Proofs.Ytfemicpfkgecbaa
open Go.RowKit
set_option linter.unusedVariables false
set_option linter.unusedSimpArgs false

theorem refLess_mv (f t d : Int) (p : Bool) (f' t' d' : Int) (p' : Bool) (w : World) :
    Calls Try.prog 18 #[.agg #[.int .i64 f, .int .i64 t, .int .i64 d, .bool p], .agg #[.int .i64 f', .int .i64 t', .int .i64 d', .bool p']] w fun e w' => e = .returned (.bool (lessM f t d p f' t' d' p')) ∧ Below w.heap.size w w' := by
  unfold lessM
  by_cases hd : d = d'
  · rw [if_pos hd]
    have b1 : (d != d') = false := by simpa using hd
    clear hd
    by_cases hf : f = f'
    · rw [if_pos hf]
      have b2 : (f != f') = false := by simpa using hf
      clear hf
      by_cases ht : t = t'
      · rw [if_pos ht]
        have b3 : (t != t') = false := by simpa using ht
        clear ht
        cases p
        all_goals
          go_enter Try.func18, Try.ntmps18
          go_wp2
          go_ret
          exact ⟨rfl, ball (ball (bref w) _) _⟩
      · rw [if_neg ht]
        have b3 : (t != t') = true := by simpa using ht
        clear ht
        go_enter Try.func18, Try.ntmps18
        go_wp2
        go_ret
        exact ⟨rfl, ball (ball (bref w) _) _⟩
    · rw [if_neg hf]
      have b2 : (f != f') = true := by simpa using hf
      clear hf
      go_enter Try.func18, Try.ntmps18
      go_wp2
      go_ret
      exact ⟨rfl, ball (ball (bref w) _) _⟩
  · rw [if_neg hd]
    have b1 : (d != d') = true := by simpa using hd
    clear hd
    go_enter Try.func18, Try.ntmps18
    go_wp2
    go_ret
    exact ⟨rfl, ball (ball (bref w) _) _⟩

namespace moveOrder
/-- Three moves that were handed over. -/
def Mv3 (w : World) (A B C : Obj) (W : World) : Prop :=
  Below w.heap.size w W ∧ W.heap[w.heap.size]? = some A ∧ W.heap[w.heap.size + 1]? = some B ∧ W.heap[w.heap.size + 1 + 1]? = some C
theorem Mv3.start (w : World) (A B C : Obj) : Mv3 w A B C (((w.alloc A).alloc B).alloc C) :=
  ⟨ball (ball (ball (bref w) _) _) _, three_row _ _ _ _, three_row1 _ _ _ _, three_row2 _ _ _ _⟩
theorem Mv3.grow {w W W' : World} {A B C : Obj} (h : Mv3 w A B C W) (hb : Below W.heap.size W W') : Mv3 w A B C W' :=
  ⟨bthen h.1 hb, row3 (lt_of_row h.2.1) h.2.1 hb, row3 (lt_of_row h.2.2.1) h.2.2.1 hb, row3 (lt_of_row h.2.2.2) h.2.2.2 hb⟩
theorem neg1 : (-(-1) : Int) = 1 := by decide
/-- The contracts that the walk asks for, their results under names. -/
structure Facts (f t d : Int) (p : Bool) (f' t' d' : Int) (p' : Bool) (f'' t'' d'' : Int) (p'' : Bool) (n m q s : Int) (x y z : Bool) : Prop where
  ab : ∀ W, Calls Try.prog 17 #[.agg #[.int .i64 f, .int .i64 t, .int .i64 d, .bool p], .agg #[.int .i64 f', .int .i64 t', .int .i64 d', .bool p']] W fun e w' => e = .returned (.int .i64 n) ∧ Below W.heap.size W w'
  ba : ∀ W, Calls Try.prog 17 #[.agg #[.int .i64 f', .int .i64 t', .int .i64 d', .bool p'], .agg #[.int .i64 f, .int .i64 t, .int .i64 d, .bool p]] W fun e w' => e = .returned (.int .i64 m) ∧ Below W.heap.size W w'
  bc : ∀ W, Calls Try.prog 17 #[.agg #[.int .i64 f', .int .i64 t', .int .i64 d', .bool p'], .agg #[.int .i64 f'', .int .i64 t'', .int .i64 d'', .bool p'']] W fun e w' => e = .returned (.int .i64 q) ∧ Below W.heap.size W w'
  ac : ∀ W, Calls Try.prog 17 #[.agg #[.int .i64 f, .int .i64 t, .int .i64 d, .bool p], .agg #[.int .i64 f'', .int .i64 t'', .int .i64 d'', .bool p'']] W fun e w' => e = .returned (.int .i64 s) ∧ Below W.heap.size W w'
  lab : ∀ W, Calls Try.prog 18 #[.agg #[.int .i64 f, .int .i64 t, .int .i64 d, .bool p], .agg #[.int .i64 f', .int .i64 t', .int .i64 d', .bool p']] W fun e w' => e = .returned (.bool x) ∧ Below W.heap.size W w'
  lba : ∀ W, Calls Try.prog 18 #[.agg #[.int .i64 f', .int .i64 t', .int .i64 d', .bool p'], .agg #[.int .i64 f, .int .i64 t, .int .i64 d, .bool p]] W fun e w' => e = .returned (.bool y) ∧ Below W.heap.size W w'
  eq : ∀ W, (Op.equalIn 10000 23 (.agg #[.int .i64 f, .int .i64 t, .int .i64 d, .bool p]) (.agg #[.int .i64 f', .int .i64 t', .int .i64 d', .bool p'])).run Try.prog W = .ok z W
set_option maxHeartbeats 4000000 in
theorem walk_lt_yes (f t d : Int) (p : Bool) (f' t' d' : Int) (p' : Bool) (f'' t'' d'' : Int) (p'' : Bool) (q s : Int) (F : Facts f t d p f' t' d' p' f'' t'' d'' p'' (-1) 1 q s true false false) (hq : q ≤ 0) (hs : s ≤ 0) (w : World) :
    Calls Try.prog 6 #[.agg #[.int .i64 f, .int .i64 t, .int .i64 d, .bool p], .agg #[.int .i64 f', .int .i64 t', .int .i64 d', .bool p'], .agg #[.int .i64 f'', .int .i64 t'', .int .i64 d'', .bool p'']] w fun e w' => e = .returned (.bool true) ∧ Below w.heap.size w w' := by
  have N := Lib.hid (fun W => names_mv W)
  have AB := Lib.hid F.ab
  have BA := Lib.hid F.ba
  have BC := Lib.hid F.bc
  have AC := Lib.hid F.ac
  have LAB := Lib.hid F.lab
  have LBA := Lib.hid F.lba
  have EQ := F.eq
  clear F
  have H := Lib.hid (Mv3.start w (.cells #[.int .i64 f, .int .i64 t, .int .i64 d, .bool p] 23) (.cells #[.int .i64 f', .int .i64 t', .int .i64 d', .bool p'] 23) (.cells #[.int .i64 f'', .int .i64 t'', .int .i64 d'', .bool p''] 23))
  go_enter Try.func6, Try.ntmps6
  go_wp2_with fail
  refine (N.out _).mono ?_
  rintro e w1 ⟨rfl, hb⟩
  have H := Lib.hid (H.out.grow hb)
  obtain ⟨a0, a1, a2, a3⟩ := mv_cells H.out.2.1
  obtain ⟨b0, b1, b2, b3⟩ := mv_cells H.out.2.2.1
  obtain ⟨c0, c1, c2, c3⟩ := mv_cells H.out.2.2.2
  go_wp2_with fail
  refine (AB.out _).mono ?_
  rintro e w2 ⟨rfl, hb⟩
  have H := Lib.hid (H.out.grow hb)
  clear a0 a1 a2 a3 b0 b1 b2 b3 c0 c1 c2 c3
  obtain ⟨a0, a1, a2, a3⟩ := mv_cells H.out.2.1
  obtain ⟨b0, b1, b2, b3⟩ := mv_cells H.out.2.2.1
  obtain ⟨c0, c1, c2, c3⟩ := mv_cells H.out.2.2.2
  go_wp2_with fail
  refine (LAB.out _).mono ?_
  rintro e w3 ⟨rfl, hb⟩
  have H := Lib.hid (H.out.grow hb)
  clear a0 a1 a2 a3 b0 b1 b2 b3 c0 c1 c2 c3
  obtain ⟨a0, a1, a2, a3⟩ := mv_cells H.out.2.1
  obtain ⟨b0, b1, b2, b3⟩ := mv_cells H.out.2.2.1
  obtain ⟨c0, c1, c2, c3⟩ := mv_cells H.out.2.2.2
  go_wp2_with fail
  refine (LBA.out _).mono ?_
  rintro e w4 ⟨rfl, hb⟩
  have H := Lib.hid (H.out.grow hb)
  clear a0 a1 a2 a3 b0 b1 b2 b3 c0 c1 c2 c3
  obtain ⟨a0, a1, a2, a3⟩ := mv_cells H.out.2.1
  obtain ⟨b0, b1, b2, b3⟩ := mv_cells H.out.2.2.1
  obtain ⟨c0, c1, c2, c3⟩ := mv_cells H.out.2.2.2
  go_wp2_with fail
  refine (BA.out _).mono ?_
  rintro e w5 ⟨rfl, hb⟩
  have H := Lib.hid (H.out.grow hb)
  clear a0 a1 a2 a3 b0 b1 b2 b3 c0 c1 c2 c3
  obtain ⟨a0, a1, a2, a3⟩ := mv_cells H.out.2.1
  obtain ⟨b0, b1, b2, b3⟩ := mv_cells H.out.2.2.1
  obtain ⟨c0, c1, c2, c3⟩ := mv_cells H.out.2.2.2
  go_wp2_with fail
  refine (BC.out _).mono ?_
  rintro e w6 ⟨rfl, hb⟩
  have H := Lib.hid (H.out.grow hb)
  clear a0 a1 a2 a3 b0 b1 b2 b3 c0 c1 c2 c3
  obtain ⟨a0, a1, a2, a3⟩ := mv_cells H.out.2.1
  obtain ⟨b0, b1, b2, b3⟩ := mv_cells H.out.2.2.1
  obtain ⟨c0, c1, c2, c3⟩ := mv_cells H.out.2.2.2
  go_wp2_with fail
  refine (AC.out _).mono ?_
  rintro e w7 ⟨rfl, hb⟩
  have H := Lib.hid (H.out.grow hb)
  clear a0 a1 a2 a3 b0 b1 b2 b3 c0 c1 c2 c3
  obtain ⟨a0, a1, a2, a3⟩ := mv_cells H.out.2.1
  obtain ⟨b0, b1, b2, b3⟩ := mv_cells H.out.2.2.1
  obtain ⟨c0, c1, c2, c3⟩ := mv_cells H.out.2.2.2
  go_wp2_with fail
  go_ret
  exact ⟨rfl, H.out.1⟩
  
set_option maxHeartbeats 4000000 in
theorem walk_lt_no (f t d : Int) (p : Bool) (f' t' d' : Int) (p' : Bool) (f'' t'' d'' : Int) (p'' : Bool) (q s : Int) (F : Facts f t d p f' t' d' p' f'' t'' d'' p'' (-1) 1 q s true false false) (hq : ¬ q ≤ 0) (w : World) :
    Calls Try.prog 6 #[.agg #[.int .i64 f, .int .i64 t, .int .i64 d, .bool p], .agg #[.int .i64 f', .int .i64 t', .int .i64 d', .bool p'], .agg #[.int .i64 f'', .int .i64 t'', .int .i64 d'', .bool p'']] w fun e w' => e = .returned (.bool true) ∧ Below w.heap.size w w' := by
  have N := Lib.hid (fun W => names_mv W)
  have AB := Lib.hid F.ab
  have BA := Lib.hid F.ba
  have BC := Lib.hid F.bc
  have AC := Lib.hid F.ac
  have LAB := Lib.hid F.lab
  have LBA := Lib.hid F.lba
  have EQ := F.eq
  clear F
  have H := Lib.hid (Mv3.start w (.cells #[.int .i64 f, .int .i64 t, .int .i64 d, .bool p] 23) (.cells #[.int .i64 f', .int .i64 t', .int .i64 d', .bool p'] 23) (.cells #[.int .i64 f'', .int .i64 t'', .int .i64 d'', .bool p''] 23))
  go_enter Try.func6, Try.ntmps6
  go_wp2_with fail
  refine (N.out _).mono ?_
  rintro e w1 ⟨rfl, hb⟩
  have H := Lib.hid (H.out.grow hb)
  obtain ⟨a0, a1, a2, a3⟩ := mv_cells H.out.2.1
  obtain ⟨b0, b1, b2, b3⟩ := mv_cells H.out.2.2.1
  obtain ⟨c0, c1, c2, c3⟩ := mv_cells H.out.2.2.2
  go_wp2_with fail
  refine (AB.out _).mono ?_
  rintro e w2 ⟨rfl, hb⟩
  have H := Lib.hid (H.out.grow hb)
  clear a0 a1 a2 a3 b0 b1 b2 b3 c0 c1 c2 c3
  obtain ⟨a0, a1, a2, a3⟩ := mv_cells H.out.2.1
  obtain ⟨b0, b1, b2, b3⟩ := mv_cells H.out.2.2.1
  obtain ⟨c0, c1, c2, c3⟩ := mv_cells H.out.2.2.2
  go_wp2_with fail
  refine (LAB.out _).mono ?_
  rintro e w3 ⟨rfl, hb⟩
  have H := Lib.hid (H.out.grow hb)
  clear a0 a1 a2 a3 b0 b1 b2 b3 c0 c1 c2 c3
  obtain ⟨a0, a1, a2, a3⟩ := mv_cells H.out.2.1
  obtain ⟨b0, b1, b2, b3⟩ := mv_cells H.out.2.2.1
  obtain ⟨c0, c1, c2, c3⟩ := mv_cells H.out.2.2.2
  go_wp2_with fail
  refine (LBA.out _).mono ?_
  rintro e w4 ⟨rfl, hb⟩
  have H := Lib.hid (H.out.grow hb)
  clear a0 a1 a2 a3 b0 b1 b2 b3 c0 c1 c2 c3
  obtain ⟨a0, a1, a2, a3⟩ := mv_cells H.out.2.1
  obtain ⟨b0, b1, b2, b3⟩ := mv_cells H.out.2.2.1
  obtain ⟨c0, c1, c2, c3⟩ := mv_cells H.out.2.2.2
  go_wp2_with fail
  refine (BA.out _).mono ?_
  rintro e w5 ⟨rfl, hb⟩
  have H := Lib.hid (H.out.grow hb)
  clear a0 a1 a2 a3 b0 b1 b2 b3 c0 c1 c2 c3
  obtain ⟨a0, a1, a2, a3⟩ := mv_cells H.out.2.1
  obtain ⟨b0, b1, b2, b3⟩ := mv_cells H.out.2.2.1
  obtain ⟨c0, c1, c2, c3⟩ := mv_cells H.out.2.2.2
  go_wp2_with fail
  refine (BC.out _).mono ?_
  rintro e w6 ⟨rfl, hb⟩
  have H := Lib.hid (H.out.grow hb)
  clear a0 a1 a2 a3 b0 b1 b2 b3 c0 c1 c2 c3
  obtain ⟨a0, a1, a2, a3⟩ := mv_cells H.out.2.1
  obtain ⟨b0, b1, b2, b3⟩ := mv_cells H.out.2.2.1
  obtain ⟨c0, c1, c2, c3⟩ := mv_cells H.out.2.2.2
  go_wp2_with fail
  go_ret
  exact ⟨rfl, H.out.1⟩
  
set_option maxHeartbeats 4000000 in
theorem walk_eq_yes (f t d : Int) (p : Bool) (f' t' d' : Int) (p' : Bool) (f'' t'' d'' : Int) (p'' : Bool) (q s : Int) (F : Facts f t d p f' t' d' p' f'' t'' d'' p'' 0 0 q s false false true) (hq : q ≤ 0) (hs : s ≤ 0) (w : World) :
    Calls Try.prog 6 #[.agg #[.int .i64 f, .int .i64 t, .int .i64 d, .bool p], .agg #[.int .i64 f', .int .i64 t', .int .i64 d', .bool p'], .agg #[.int .i64 f'', .int .i64 t'', .int .i64 d'', .bool p'']] w fun e w' => e = .returned (.bool true) ∧ Below w.heap.size w w' := by
  have N := Lib.hid (fun W => names_mv W)
  have AB := Lib.hid F.ab
  have BA := Lib.hid F.ba
  have BC := Lib.hid F.bc
  have AC := Lib.hid F.ac
  have LAB := Lib.hid F.lab
  have LBA := Lib.hid F.lba
  have EQ := F.eq
  clear F
  have H := Lib.hid (Mv3.start w (.cells #[.int .i64 f, .int .i64 t, .int .i64 d, .bool p] 23) (.cells #[.int .i64 f', .int .i64 t', .int .i64 d', .bool p'] 23) (.cells #[.int .i64 f'', .int .i64 t'', .int .i64 d'', .bool p''] 23))
  go_enter Try.func6, Try.ntmps6
  go_wp2_with fail
  refine (N.out _).mono ?_
  rintro e w1 ⟨rfl, hb⟩
  have H := Lib.hid (H.out.grow hb)
  obtain ⟨a0, a1, a2, a3⟩ := mv_cells H.out.2.1
  obtain ⟨b0, b1, b2, b3⟩ := mv_cells H.out.2.2.1
  obtain ⟨c0, c1, c2, c3⟩ := mv_cells H.out.2.2.2
  go_wp2_with fail
  refine (AB.out _).mono ?_
  rintro e w2 ⟨rfl, hb⟩
  have H := Lib.hid (H.out.grow hb)
  clear a0 a1 a2 a3 b0 b1 b2 b3 c0 c1 c2 c3
  obtain ⟨a0, a1, a2, a3⟩ := mv_cells H.out.2.1
  obtain ⟨b0, b1, b2, b3⟩ := mv_cells H.out.2.2.1
  obtain ⟨c0, c1, c2, c3⟩ := mv_cells H.out.2.2.2
  go_wp2_with fail
  refine (LAB.out _).mono ?_
  rintro e w3 ⟨rfl, hb⟩
  have H := Lib.hid (H.out.grow hb)
  clear a0 a1 a2 a3 b0 b1 b2 b3 c0 c1 c2 c3
  obtain ⟨a0, a1, a2, a3⟩ := mv_cells H.out.2.1
  obtain ⟨b0, b1, b2, b3⟩ := mv_cells H.out.2.2.1
  obtain ⟨c0, c1, c2, c3⟩ := mv_cells H.out.2.2.2
  go_wp2_with fail
  refine (LBA.out _).mono ?_
  rintro e w4 ⟨rfl, hb⟩
  have H := Lib.hid (H.out.grow hb)
  clear a0 a1 a2 a3 b0 b1 b2 b3 c0 c1 c2 c3
  obtain ⟨a0, a1, a2, a3⟩ := mv_cells H.out.2.1
  obtain ⟨b0, b1, b2, b3⟩ := mv_cells H.out.2.2.1
  obtain ⟨c0, c1, c2, c3⟩ := mv_cells H.out.2.2.2
  go_wp2_with fail
  refine (BA.out _).mono ?_
  rintro e w5 ⟨rfl, hb⟩
  have H := Lib.hid (H.out.grow hb)
  clear a0 a1 a2 a3 b0 b1 b2 b3 c0 c1 c2 c3
  obtain ⟨a0, a1, a2, a3⟩ := mv_cells H.out.2.1
  obtain ⟨b0, b1, b2, b3⟩ := mv_cells H.out.2.2.1
  obtain ⟨c0, c1, c2, c3⟩ := mv_cells H.out.2.2.2
  go_wp2_with fail
  refine (BC.out _).mono ?_
  rintro e w6 ⟨rfl, hb⟩
  have H := Lib.hid (H.out.grow hb)
  clear a0 a1 a2 a3 b0 b1 b2 b3 c0 c1 c2 c3
  obtain ⟨a0, a1, a2, a3⟩ := mv_cells H.out.2.1
  obtain ⟨b0, b1, b2, b3⟩ := mv_cells H.out.2.2.1
  obtain ⟨c0, c1, c2, c3⟩ := mv_cells H.out.2.2.2
  go_wp2_with fail
  refine (AC.out _).mono ?_
  rintro e w7 ⟨rfl, hb⟩
  have H := Lib.hid (H.out.grow hb)
  clear a0 a1 a2 a3 b0 b1 b2 b3 c0 c1 c2 c3
  obtain ⟨a0, a1, a2, a3⟩ := mv_cells H.out.2.1
  obtain ⟨b0, b1, b2, b3⟩ := mv_cells H.out.2.2.1
  obtain ⟨c0, c1, c2, c3⟩ := mv_cells H.out.2.2.2
  go_wp2_with fail
  go_ret
  exact ⟨rfl, H.out.1⟩
  
set_option maxHeartbeats 4000000 in
theorem walk_eq_no (f t d : Int) (p : Bool) (f' t' d' : Int) (p' : Bool) (f'' t'' d'' : Int) (p'' : Bool) (q s : Int) (F : Facts f t d p f' t' d' p' f'' t'' d'' p'' 0 0 q s false false true) (hq : ¬ q ≤ 0) (w : World) :
    Calls Try.prog 6 #[.agg #[.int .i64 f, .int .i64 t, .int .i64 d, .bool p], .agg #[.int .i64 f', .int .i64 t', .int .i64 d', .bool p'], .agg #[.int .i64 f'', .int .i64 t'', .int .i64 d'', .bool p'']] w fun e w' => e = .returned (.bool true) ∧ Below w.heap.size w w' := by
  have N := Lib.hid (fun W => names_mv W)
  have AB := Lib.hid F.ab
  have BA := Lib.hid F.ba
  have BC := Lib.hid F.bc
  have AC := Lib.hid F.ac
  have LAB := Lib.hid F.lab
  have LBA := Lib.hid F.lba
  have EQ := F.eq
  clear F
  have H := Lib.hid (Mv3.start w (.cells #[.int .i64 f, .int .i64 t, .int .i64 d, .bool p] 23) (.cells #[.int .i64 f', .int .i64 t', .int .i64 d', .bool p'] 23) (.cells #[.int .i64 f'', .int .i64 t'', .int .i64 d'', .bool p''] 23))
  go_enter Try.func6, Try.ntmps6
  go_wp2_with fail
  refine (N.out _).mono ?_
  rintro e w1 ⟨rfl, hb⟩
  have H := Lib.hid (H.out.grow hb)
  obtain ⟨a0, a1, a2, a3⟩ := mv_cells H.out.2.1
  obtain ⟨b0, b1, b2, b3⟩ := mv_cells H.out.2.2.1
  obtain ⟨c0, c1, c2, c3⟩ := mv_cells H.out.2.2.2
  go_wp2_with fail
  refine (AB.out _).mono ?_
  rintro e w2 ⟨rfl, hb⟩
  have H := Lib.hid (H.out.grow hb)
  clear a0 a1 a2 a3 b0 b1 b2 b3 c0 c1 c2 c3
  obtain ⟨a0, a1, a2, a3⟩ := mv_cells H.out.2.1
  obtain ⟨b0, b1, b2, b3⟩ := mv_cells H.out.2.2.1
  obtain ⟨c0, c1, c2, c3⟩ := mv_cells H.out.2.2.2
  go_wp2_with fail
  refine (LAB.out _).mono ?_
  rintro e w3 ⟨rfl, hb⟩
  have H := Lib.hid (H.out.grow hb)
  clear a0 a1 a2 a3 b0 b1 b2 b3 c0 c1 c2 c3
  obtain ⟨a0, a1, a2, a3⟩ := mv_cells H.out.2.1
  obtain ⟨b0, b1, b2, b3⟩ := mv_cells H.out.2.2.1
  obtain ⟨c0, c1, c2, c3⟩ := mv_cells H.out.2.2.2
  go_wp2_with fail
  refine (LBA.out _).mono ?_
  rintro e w4 ⟨rfl, hb⟩
  have H := Lib.hid (H.out.grow hb)
  clear a0 a1 a2 a3 b0 b1 b2 b3 c0 c1 c2 c3
  obtain ⟨a0, a1, a2, a3⟩ := mv_cells H.out.2.1
  obtain ⟨b0, b1, b2, b3⟩ := mv_cells H.out.2.2.1
  obtain ⟨c0, c1, c2, c3⟩ := mv_cells H.out.2.2.2
  go_wp2_with fail
  refine (BA.out _).mono ?_
  rintro e w5 ⟨rfl, hb⟩
  have H := Lib.hid (H.out.grow hb)
  clear a0 a1 a2 a3 b0 b1 b2 b3 c0 c1 c2 c3
  obtain ⟨a0, a1, a2, a3⟩ := mv_cells H.out.2.1
  obtain ⟨b0, b1, b2, b3⟩ := mv_cells H.out.2.2.1
  obtain ⟨c0, c1, c2, c3⟩ := mv_cells H.out.2.2.2
  go_wp2_with fail
  refine (BC.out _).mono ?_
  rintro e w6 ⟨rfl, hb⟩
  have H := Lib.hid (H.out.grow hb)
  clear a0 a1 a2 a3 b0 b1 b2 b3 c0 c1 c2 c3
  obtain ⟨a0, a1, a2, a3⟩ := mv_cells H.out.2.1
  obtain ⟨b0, b1, b2, b3⟩ := mv_cells H.out.2.2.1
  obtain ⟨c0, c1, c2, c3⟩ := mv_cells H.out.2.2.2
  go_wp2_with fail
  go_ret
  exact ⟨rfl, H.out.1⟩
  
set_option maxHeartbeats 4000000 in
theorem walk_gt (f t d : Int) (p : Bool) (f' t' d' : Int) (p' : Bool) (f'' t'' d'' : Int) (p'' : Bool) (q s : Int) (F : Facts f t d p f' t' d' p' f'' t'' d'' p'' 1 (-1) q s false true false)  (w : World) :
    Calls Try.prog 6 #[.agg #[.int .i64 f, .int .i64 t, .int .i64 d, .bool p], .agg #[.int .i64 f', .int .i64 t', .int .i64 d', .bool p'], .agg #[.int .i64 f'', .int .i64 t'', .int .i64 d'', .bool p'']] w fun e w' => e = .returned (.bool true) ∧ Below w.heap.size w w' := by
  have N := Lib.hid (fun W => names_mv W)
  have AB := Lib.hid F.ab
  have BA := Lib.hid F.ba
  have BC := Lib.hid F.bc
  have AC := Lib.hid F.ac
  have LAB := Lib.hid F.lab
  have LBA := Lib.hid F.lba
  have EQ := F.eq
  clear F
  have H := Lib.hid (Mv3.start w (.cells #[.int .i64 f, .int .i64 t, .int .i64 d, .bool p] 23) (.cells #[.int .i64 f', .int .i64 t', .int .i64 d', .bool p'] 23) (.cells #[.int .i64 f'', .int .i64 t'', .int .i64 d'', .bool p''] 23))
  go_enter Try.func6, Try.ntmps6
  go_wp2_with fail
  refine (N.out _).mono ?_
  rintro e w1 ⟨rfl, hb⟩
  have H := Lib.hid (H.out.grow hb)
  obtain ⟨a0, a1, a2, a3⟩ := mv_cells H.out.2.1
  obtain ⟨b0, b1, b2, b3⟩ := mv_cells H.out.2.2.1
  obtain ⟨c0, c1, c2, c3⟩ := mv_cells H.out.2.2.2
  go_wp2_with fail
  refine (AB.out _).mono ?_
  rintro e w2 ⟨rfl, hb⟩
  have H := Lib.hid (H.out.grow hb)
  clear a0 a1 a2 a3 b0 b1 b2 b3 c0 c1 c2 c3
  obtain ⟨a0, a1, a2, a3⟩ := mv_cells H.out.2.1
  obtain ⟨b0, b1, b2, b3⟩ := mv_cells H.out.2.2.1
  obtain ⟨c0, c1, c2, c3⟩ := mv_cells H.out.2.2.2
  go_wp2_with fail
  refine (LAB.out _).mono ?_
  rintro e w3 ⟨rfl, hb⟩
  have H := Lib.hid (H.out.grow hb)
  clear a0 a1 a2 a3 b0 b1 b2 b3 c0 c1 c2 c3
  obtain ⟨a0, a1, a2, a3⟩ := mv_cells H.out.2.1
  obtain ⟨b0, b1, b2, b3⟩ := mv_cells H.out.2.2.1
  obtain ⟨c0, c1, c2, c3⟩ := mv_cells H.out.2.2.2
  go_wp2_with fail
  refine (LBA.out _).mono ?_
  rintro e w4 ⟨rfl, hb⟩
  have H := Lib.hid (H.out.grow hb)
  clear a0 a1 a2 a3 b0 b1 b2 b3 c0 c1 c2 c3
  obtain ⟨a0, a1, a2, a3⟩ := mv_cells H.out.2.1
  obtain ⟨b0, b1, b2, b3⟩ := mv_cells H.out.2.2.1
  obtain ⟨c0, c1, c2, c3⟩ := mv_cells H.out.2.2.2
  go_wp2_with fail
  refine (BA.out _).mono ?_
  rintro e w5 ⟨rfl, hb⟩
  have H := Lib.hid (H.out.grow hb)
  clear a0 a1 a2 a3 b0 b1 b2 b3 c0 c1 c2 c3
  obtain ⟨a0, a1, a2, a3⟩ := mv_cells H.out.2.1
  obtain ⟨b0, b1, b2, b3⟩ := mv_cells H.out.2.2.1
  obtain ⟨c0, c1, c2, c3⟩ := mv_cells H.out.2.2.2
  go_wp2_with fail
  go_ret
  exact ⟨rfl, H.out.1⟩
  
theorem walk (f t d : Int) (p : Bool) (f' t' d' : Int) (p' : Bool) (f'' t'' d'' : Int) (p'' : Bool) (wf : (Lit.int .i64 f).wf = true) (wt : (Lit.int .i64 t).wf = true) (wd : (Lit.int .i64 d).wf = true) (wf' : (Lit.int .i64 f').wf = true) (wt' : (Lit.int .i64 t').wf = true) (wd' : (Lit.int .i64 d').wf = true) (wf'' : (Lit.int .i64 f'').wf = true) (wt'' : (Lit.int .i64 t'').wf = true) (wd'' : (Lit.int .i64 d'').wf = true) (w : World) :
    Calls Try.prog 6 #[.agg #[.int .i64 f, .int .i64 t, .int .i64 d, .bool p], .agg #[.int .i64 f', .int .i64 t', .int .i64 d', .bool p'], .agg #[.int .i64 f'', .int .i64 t'', .int .i64 d'', .bool p'']] w fun e w' => e = .returned (.bool true) ∧ Below w.heap.size w w' := by
  have F : Facts f t d p f' t' d' p' f'' t'' d'' p'' _ _ _ _ _ _ _ := ⟨fun W => compare_mv f t d p f' t' d' p' W, fun W => compare_mv f' t' d' p' f t d p W, fun W => compare_mv f' t' d' p' f'' t'' d'' p'' W, fun W => compare_mv f t d p f'' t'' d'' p'' W, fun W => refLess_mv f t d p f' t' d' p' W, fun W => refLess_mv f' t' d' p' f t d p W, fun W => mv_eq f t d p f' t' d' p' W⟩
  rw [less_spec, less_spec] at F
  have o1 := ord_spec f t d p f' t' d' p'
  have o2 := ord_spec f' t' d' p' f t d p
  have o3 := ord_spec f' t' d' p' f'' t'' d'' p''
  have o4 := ord_spec f t d p f'' t'' d'' p''
  generalize ordM f t d p f' t' d' p' = n at *
  generalize ordM f' t' d' p' f t d p = m at *
  generalize ordM f' t' d' p' f'' t'' d'' p'' = q at *
  generalize ordM f t d p f'' t'' d'' p'' = s at *
  have z0 : (f == f' && (t == t' && (d == d' && p == p'))) = decide (d = d' ∧ f = f' ∧ t = t' ∧ rankP p = rankP p') := by
    rw [Bool.eq_iff_iff, decide_eq_true_eq]
    simp only [Bool.and_eq_true, beq_iff_eq]
    constructor
    · rintro ⟨rfl, rfl, rfl, rfl⟩; exact ⟨rfl, rfl, rfl, rfl⟩
    · rintro ⟨h1, h2, h3, h4⟩; exact ⟨h2, h3, h1, rank_inj h4⟩
  rw [z0] at F
  clear z0
  rcases o1 with ⟨rfl, h⟩ | ⟨rfl, h⟩ | ⟨rfl, h⟩
  · obtain rfl : m = 1 := by omega
    rw [decide_eq_true h, decide_eq_false (by omega), decide_eq_false (by omega)] at F
    by_cases hq : q ≤ 0
    · exact walk_lt_yes _ _ _ _ _ _ _ _ _ _ _ _ q s F hq (by omega) w
    · exact walk_lt_no _ _ _ _ _ _ _ _ _ _ _ _ q s F hq w
  · obtain rfl : m = 0 := by omega
    rw [decide_eq_false (by omega), decide_eq_false (by omega), decide_eq_true h] at F
    by_cases hq : q ≤ 0
    · exact walk_eq_yes _ _ _ _ _ _ _ _ _ _ _ _ q s F hq (by omega) w
    · exact walk_eq_no _ _ _ _ _ _ _ _ _ _ _ _ q s F hq w
  · obtain rfl : m = -1 := by omega
    rw [decide_eq_false (by omega), decide_eq_true (by omega), decide_eq_false (by omega)] at F
    exact walk_gt _ _ _ _ _ _ _ _ _ _ _ _ q s F w
end moveOrder
end Go.Proofs.Ytfemicpfkgecbaa
