/-
  Boards as lists of numbers: the sets of squares that a position's pieces give; plain facts (no program is named here).
-/
import Derived.Test.YtilhicohfnaclaaDoorFns
import Derived.Test.YtilhicohfnaclaaDoorSetAll
import Derived.Test.YtilhicohfnaclaaDoorPosC
namespace Go.Proofs.YtilhicohfnaclaaDoor
open Go.RowKit
set_option linter.unusedVariables false
set_option linter.unusedSimpArgs false

theorem kind_side (x : Int) : (kindF x = 0 ∧ sideF x = -1) ∨ (1 ≤ x ∧ x ≤ 15 ∧ kindF x = x ∧ sideF x = 0) ∨ (17 ≤ x ∧ x ≤ 31 ∧ kindF x = x - 16 ∧ sideF x = 1) := by
  have h := rawF_cases (cutF x)
  unfold kindF sideF
  by_cases h0 : rawF (cutF x) = 0
  · rw [if_pos h0, if_pos h0]; exact .inl ⟨rfl, rfl⟩
  · rw [if_neg h0, if_neg h0]
    unfold cutF at *
    by_cases h16 : 16 ≤ x
    · rw [if_pos h16] at h h0 ⊢
      rw [if_pos h16]
      omega
    · rw [if_neg h16] at h h0 ⊢
      rw [if_neg h16]
      omega
theorem kind_zero : kindF 0 = 0 := by decide
theorem side_zero : sideF 0 = -1 := by decide

/-- The squares below k on which stands what fits. -/
def whereN (z : List Int) (f : Int → Bool) : Nat → Nat
  | 0 => 0
  | k + 1 => whereN z f k ||| (if f (at8 z k) then 2 ^ k else 0)
theorem where_test (z : List Int) (f : Int → Bool) : ∀ k i, (whereN z f k).testBit i = (decide (i < k) && f (at8 z i))
  | 0, i => by simp [whereN]
  | k + 1, i => by
    unfold whereN
    rw [Nat.testBit_or, where_test z f k i]
    by_cases h : i = k
    · subst h
      by_cases hf : f (at8 z i) = true
      · rw [if_pos hf, Nat.testBit_two_pow_self, hf]
        simp
      · rw [if_neg hf]
        simp [hf]
    · have e : (if f (at8 z k) = true then 2 ^ k else 0).testBit i = false := by
        split
        · rw [Nat.testBit_two_pow_of_ne (fun e => h e.symm)]
        · rw [Nat.zero_testBit]
      rw [e, Bool.or_false]
      by_cases hk : i < k
      · simp [hk, show i < k + 1 by omega]
      · simp [hk, show ¬ i < k + 1 by omega]
theorem where_sq (z : List Int) (f : Int → Bool) : Sq (whereN z f 81) := by
  unfold Sq
  rw [pow81]
  apply Nat.lt_of_not_le
  intro h
  obtain ⟨i, hi, ht⟩ := Nat.exists_ge_and_testBit_of_ge_two_pow h
  rw [where_test] at ht
  simp at ht
  omega
theorem where_congr (z z' : List Int) (f f' : Int → Bool) (h : ∀ i, i < 81 → f (at8 z i) = f' (at8 z' i)) : whereN z f 81 = whereN z' f' 81 := by
  apply Nat.eq_of_testBit_eq
  intro i
  rw [where_test, where_test]
  by_cases hi : i < 81
  · rw [h i hi]
  · simp [hi]
theorem oneN_test (q i : Nat) (hq : q < 81) : (oneN q).testBit i = decide (i = q) := by
  unfold oneN
  rw [if_pos (by omega), Int.toNat_natCast]
  by_cases h : i = q
  · subst h; simp
  · rw [Nat.testBit_two_pow_of_ne (fun e => h e.symm)]; simp [h]
theorem test_minus' (n m i : Nat) : (minusN n m).testBit i = (n.testBit i && !m.testBit i) := by
  unfold minusN
  rw [Nat.testBit_xor, Nat.testBit_and]
  cases n.testBit i <;> cases m.testBit i <;> rfl
theorem where_put (z : List Int) (f : Int → Bool) (q : Nat) (v : Int) (hq : q < 81) (hz : z.length = 98) (hv : f v = true) : whereN (z.set q v) f 81 = whereN z f 81 ||| oneN q := by
  apply Nat.eq_of_testBit_eq
  intro i
  rw [where_test, Nat.testBit_or, where_test, oneN_test q i hq, at8_set z q v i (by omega)]
  by_cases h : i = q
  · subst h; simp [hv, hq]
  · simp [h]
theorem where_gone (z : List Int) (f : Int → Bool) (q : Nat) (v : Int) (hq : q < 81) (hz : z.length = 98) (hv : f v = false) : whereN (z.set q v) f 81 = minusN (whereN z f 81) (oneN q) := by
  apply Nat.eq_of_testBit_eq
  intro i
  rw [where_test, test_minus', where_test, oneN_test q i hq, at8_set z q v i (by omega)]
  by_cases h : i = q
  · subst h; simp [hv]
  · simp [h]
theorem where_same (z : List Int) (f : Int → Bool) (q : Nat) (v : Int) (hq : q < 81) (hz : z.length = 98) (hv : f v = f (at8 z q)) : whereN (z.set q v) f 81 = whereN z f 81 := by
  refine where_congr _ _ _ _ fun i hi => ?_
  rw [at8_set z q v i (by omega)]
  by_cases h : i = q
  · subst h; rw [if_pos rfl, hv]
  · rw [if_neg h]

def pieceB (x : Int) (y : Int) : Bool := decide (y = x) && !decide (kindF x = 0)
def sideB (s : Int) (y : Int) : Bool := decide (sideF y = s)
def pieceN (z : List Int) (x : Int) : Nat := whereN z (pieceB x) 81
def sideN (z : List Int) (s : Int) : Nat := whereN z (sideB s) 81
theorem pieceN_sq (z : List Int) (x : Int) : Sq (pieceN z x) := where_sq _ _
theorem sideN_sq (z : List Int) (s : Int) : Sq (sideN z s) := where_sq _ _
/-- The thirty-four sets of a board: one for each number of a piece, one for each side. -/
def setAt (z : List Int) (i : Nat) : Nat := if i < 32 then pieceN z i else sideN z ((i : Int) - 32)
theorem setAt_sq (z : List Int) (i : Nat) : Sq (setAt z i) := by
  unfold setAt
  split
  · exact pieceN_sq _ _
  · exact sideN_sq _ _
def upd (S : Nat → Nat) (i n : Nat) : Nat → Nat := fun j => if j = i then n else S j
theorem upd_at (S : Nat → Nat) (i n : Nat) : upd S i n i = n := if_pos rfl
theorem upd_ne (S : Nat → Nat) (i n j : Nat) (h : j ≠ i) : upd S i n j = S j := if_neg h

/-- Each number on the board is a piece's, or 0. -/
def Clean (z : List Int) : Prop := ∀ q, q < 81 → kindF (at8 z q) = 0 → at8 z q = 0
theorem clean_set {z : List Int} (h : Clean z) (hz : z.length = 98) (q : Nat) (v : Int) (hv : kindF v = 0 → v = 0) : Clean (z.set q v) := by
  intro i hi hk
  by_cases hq : q < 98
  · rw [at8_set z q v i (by omega)] at hk ⊢
    by_cases e : i = q
    · rw [if_pos e] at hk ⊢; exact hv hk
    · rw [if_neg e] at hk ⊢; exact h i hi hk
  · rw [List.set_eq_of_length_le (by omega)] at hk ⊢
    exact h i hi hk
/-- A piece is taken off: its own set and its side's lose the square. -/
theorem set_clear (z : List Int) (q : Nat) (hq : q < 81) (hz : z.length = 98) (x s : Nat) (hx : at8 z q = x) (hs : sideF x = s) :
    ∀ i, i < 34 → upd (upd (setAt z) x (minusN (setAt z x) (oneN q))) (32 + s) (minusN (setAt z (32 + s)) (oneN q)) i = setAt (z.set q 0) i := by
  intro i hi
  have hk := kind_side x
  have hxs : (1 ≤ x ∧ x ≤ 15 ∧ s = 0) ∨ (17 ≤ x ∧ x ≤ 31 ∧ s = 1) := by omega
  have kx : kindF x ≠ 0 := by omega
  by_cases h1 : i = 32 + s
  · subst h1
    rw [upd_at]
    unfold setAt
    rw [if_neg (by omega), if_neg (by omega)]
    unfold sideN
    rw [where_gone z _ q 0 hq hz (by unfold sideB; rw [side_zero]; simp; omega)]
  · rw [upd_ne _ _ _ _ h1]
    by_cases h2 : i = x
    · subst h2
      rw [upd_at]
      unfold setAt
      rw [if_pos (by omega), if_pos (by omega)]
      unfold pieceN
      rw [where_gone z _ q 0 hq hz (by unfold pieceB; simp; omega)]
    · rw [upd_ne _ _ _ _ h2]
      unfold setAt
      by_cases h3 : i < 32
      · rw [if_pos h3, if_pos h3]
        unfold pieceN
        rw [where_same z _ q 0 hq hz]
        rw [hx]
        unfold pieceB
        by_cases h0 : i = 0
        · subst h0; simp [kind_zero]
        · have e1 : decide ((0 : Int) = (i : Int)) = false := decide_eq_false (by omega)
          have e2 : decide ((x : Int) = (i : Int)) = false := decide_eq_false (by omega)
          rw [e1, e2]
      · rw [if_neg h3, if_neg h3]
        unfold sideN
        rw [where_same z _ q 0 hq hz]
        rw [hx]
        unfold sideB
        rw [side_zero, hs]
        have e1 : decide ((-1 : Int) = (i : Int) - 32) = false := decide_eq_false (by omega)
        have e2 : decide ((s : Int) = (i : Int) - 32) = false := decide_eq_false (by omega)
        rw [e1, e2]
/-- A piece is put where nothing stands. -/
theorem set_put (z : List Int) (q : Nat) (hq : q < 81) (hz : z.length = 98) (h0 : at8 z q = 0) (x s : Nat) (hs : sideF x = s) :
    ∀ i, i < 34 → upd (upd (setAt z) x (setAt z x ||| oneN q)) (32 + s) (setAt z (32 + s) ||| oneN q) i = setAt (z.set q x) i := by
  intro i hi
  have hk := kind_side x
  have hxs : (1 ≤ x ∧ x ≤ 15 ∧ s = 0) ∨ (17 ≤ x ∧ x ≤ 31 ∧ s = 1) := by omega
  have kx : kindF x ≠ 0 := by omega
  by_cases h1 : i = 32 + s
  · subst h1
    rw [upd_at]
    unfold setAt
    rw [if_neg (by omega), if_neg (by omega)]
    unfold sideN
    rw [where_put z _ q x hq hz (by unfold sideB; rw [hs]; exact decide_eq_true (by omega))]
  · rw [upd_ne _ _ _ _ h1]
    by_cases h2 : i = x
    · subst h2
      rw [upd_at]
      unfold setAt
      rw [if_pos (by omega), if_pos (by omega)]
      unfold pieceN
      rw [where_put z _ q i hq hz (by unfold pieceB; simp [kx])]
    · rw [upd_ne _ _ _ _ h2]
      unfold setAt
      by_cases h3 : i < 32
      · rw [if_pos h3, if_pos h3]
        unfold pieceN
        rw [where_same z _ q x hq hz]
        rw [h0]
        unfold pieceB
        by_cases h0 : i = 0
        · subst h0; simp [kind_zero]
        · have e1 : decide ((0 : Int) = (i : Int)) = false := decide_eq_false (by omega)
          have e2 : decide ((x : Int) = (i : Int)) = false := decide_eq_false (by omega)
          rw [e1, e2]
      · rw [if_neg h3, if_neg h3]
        unfold sideN
        rw [where_same z _ q x hq hz]
        rw [h0]
        unfold sideB
        rw [side_zero, hs]
        have e1 : decide ((-1 : Int) = (i : Int) - 32) = false := decide_eq_false (by omega)
        have e2 : decide ((s : Int) = (i : Int) - 32) = false := decide_eq_false (by omega)
        rw [e1, e2]

/-! The cells of a board: the position's ninety-eight, then two words for each set. -/
def wordV (S : Nat → Nat) (j : Nat) : Value := .int .u64 (if j % 2 = 0 then loW (S (j / 2)) else hiW (S (j / 2)))
def brdC (z : List Int) (S : Nat → Nat) : List Value := posC z ++ (List.range 68).map (wordV S)
theorem brdC_len (z : List Int) (S : Nat → Nat) (hz : z.length = 98) : (brdC z S).length = 166 := by
  unfold brdC
  rw [List.length_append, posC_len, hz, List.length_map, List.length_range]
theorem brdC_pos (z : List Int) (S : Nat → Nat) (hz : z.length = 98) (j : Nat) (hj : j < 98) : (brdC z S)[j]? = some (.int .i8 (at8 z j)) := by
  unfold brdC
  rw [List.getElem?_append_left (by rw [posC_len]; omega)]
  exact posC_get z j (by omega)
theorem brdC_word (z : List Int) (S : Nat → Nat) (hz : z.length = 98) (j : Nat) (hj : j < 68) : (brdC z S)[98 + j]? = some (wordV S j) := by
  unfold brdC
  rw [List.getElem?_append_right (by rw [posC_len]; omega), posC_len, hz, Nat.add_sub_cancel_left, List.getElem?_map, List.getElem?_range hj]
  rfl
theorem brdC_lo (z : List Int) (S : Nat → Nat) (hz : z.length = 98) (i : Nat) (hi : i < 34) : (brdC z S)[98 + i * 2]? = some (.int .u64 (loW (S i))) := by
  rw [brdC_word z S hz _ (by omega)]
  unfold wordV
  rw [if_pos (by omega), Nat.mul_div_cancel _ (by omega)]
theorem brdC_hi (z : List Int) (S : Nat → Nat) (hz : z.length = 98) (i : Nat) (hi : i < 34) : (brdC z S)[98 + i * 2 + 1]? = some (.int .u64 (hiW (S i))) := by
  rw [Nat.add_assoc, brdC_word z S hz _ (by omega)]
  unfold wordV
  rw [if_neg (by omega), show (i * 2 + 1) / 2 = i by omega]
theorem brdC_congr (z : List Int) (S S' : Nat → Nat) (h : ∀ i, i < 34 → S i = S' i) : brdC z S = brdC z S' := by
  unfold brdC
  congr 1
  apply List.map_congr_left
  intro j hj
  unfold wordV
  rw [h (j / 2) (by have := List.mem_range.1 hj; omega)]
theorem brdC_setP (z : List Int) (S : Nat → Nat) (hz : z.length = 98) (j : Nat) (hj : j < 98) (v : Int) : (brdC z S).set j (.int .i8 v) = brdC (z.set j v) S := by
  unfold brdC
  rw [List.set_append_left _ _ (by rw [posC_len]; omega)]
  unfold posC
  rw [List.map_set]
theorem brdC_setW (z : List Int) (S : Nat → Nat) (hz : z.length = 98) (i : Nat) (hi : i < 34) (n : Nat) : ((brdC z S).set (98 + i * 2) (.int .u64 (loW n))).set (98 + i * 2 + 1) (.int .u64 (hiW n)) = brdC z (upd S i n) := by
  apply List.ext_getElem?
  intro j
  rw [List.getElem?_set, List.getElem?_set, List.length_set, brdC_len z S hz]
  by_cases h98 : j < 98
  · rw [if_neg (by omega), if_neg (by omega), brdC_pos z S hz j h98, brdC_pos z _ hz j h98]
  · obtain ⟨k, rfl⟩ : ∃ k, j = 98 + k := ⟨j - 98, by omega⟩
    by_cases hk : k < 68
    · rw [brdC_word z S hz k hk, brdC_word z _ hz k hk]
      unfold wordV
      by_cases h1 : k = i * 2 + 1
      · subst h1
        rw [if_pos (by omega), if_pos (by omega), if_neg (by omega), show (i * 2 + 1) / 2 = i by omega, upd_at]
      · rw [if_neg (by omega)]
        by_cases h2 : k = i * 2
        · subst h2
          rw [if_pos rfl, if_pos (by omega), if_pos (by omega), Nat.mul_div_cancel _ (by omega), upd_at]
        · rw [if_neg (by omega), upd_ne _ _ _ _ (by omega)]
    · rw [if_neg (by omega), if_neg (by omega), List.getElem?_eq_none (by rw [brdC_len z S hz]; omega), List.getElem?_eq_none (by rw [brdC_len z _ hz]; omega)]

/-! What a call leaves as it was, but for one block that it may write. -/
structure But (b : Nat) (w w' : World) : Prop where
  os : w'.os = w.os
  tape : w'.tape = w.tape
  output : w'.output = w.output
  size : w.heap.size ≤ w'.heap.size
  block : ∀ k, k < w.heap.size → k ≠ b → w'.heap[k]? = w.heap[k]?
theorem But.refl (b : Nat) (w : World) : But b w w := ⟨rfl, rfl, rfl, Nat.le_refl _, fun _ _ _ => rfl⟩
theorem But.of {b : Nat} {w w' : World} (h : Below w.heap.size w w') : But b w w' := ⟨h.os, h.tape, h.output, h.size, fun k hk _ => h.block k hk⟩
theorem But.trans {b : Nat} {x y w : World} (h : But b x y) (k : But b y w) : But b x w :=
  ⟨k.os.trans h.os, k.tape.trans h.tape, k.output.trans h.output, Nat.le_trans h.size k.size, fun i hi hb => (k.block i (Nat.lt_of_lt_of_le hi h.size) hb).trans (h.block i hi hb)⟩
theorem But.setCell {b : Nat} {x w : World} (h : But b x w) (p : Addr) (hp : p.block = b) (v : Value) : But b x (w.setCell p v) :=
  h.trans ⟨rfl, rfl, rfl, by simp [World.setCell], fun k _ hk => Below.heap_setCell _ _ _ _ (by rw [hp]; exact hk)⟩
theorem But.drew {b : Nat} {x w : World} (h : But b x w) : But b x w.drew := ⟨h.os, h.tape, h.output, h.size, h.block⟩
theorem But.below {b B : Nat} {w w' : World} (h : But b w w') (hB : B ≤ b) (hw : B ≤ w.heap.size) : Below B w w' :=
  ⟨h.os, h.tape, h.output, h.size, fun k hk => h.block k (by omega) (by omega)⟩
theorem But.cell {b : Nat} {w w' : World} (h : But b w w') {p : Addr} (hp : p.block < w.heap.size) (hb : p.block ≠ b) : w'.cell? p = w.cell? p := World.cell?_of_block (w := w) (h.block p.block hp hb)
theorem But.frozen {b : Nat} {w w' : World} (h : But b w w') {p : Addr} (hp : p.block < w.heap.size) (hb : p.block ≠ b) : w'.frozen? p = w.frozen? p := World.frozen?_of_block (w := w) (h.block p.block hp hb)
end Go.Proofs.YtilhicohfnaclaaDoor
