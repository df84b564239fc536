/-
  Drops: the document's Moves, and where the sets say that a kind may be dropped.
-/
import Derived.Test.YtilhicohfnaclaaDoorGen5
import Derived.Test.YtilhicohfnaclaaDoorRefCan
namespace Go.Proofs.YtilhicohfnaclaaDoor
open Go.RowKit
set_option maxRecDepth 100000
set_option linter.unusedVariables false
set_option linter.unusedSimpArgs false

theorem onI_zero (z : List Int) (x : Int) (f : Nat) : ∀ r, onI z x f r = 0 ↔ ∀ i, i < r → at8 z (9 * f + i) ≠ x
  | 0 => ⟨fun _ i hi => by omega, fun _ => by unfold onI; simp⟩
  | r + 1 => by
    have ih := onI_zero z x f r
    have hb := (onI_bd z x f r).1
    rw [onI_step]
    by_cases h : at8 z (9 * f + r) = x
    · rw [if_pos h]
      constructor
      · intro e; omega
      · intro e; exact absurd h (e r (by omega))
    · rw [if_neg h, Int.add_zero, ih]
      constructor
      · intro e i hi
        by_cases e2 : i = r
        · subst e2; exact h
        · exact e i (by omega)
      · exact fun e i hi => e i (by omega)
theorem filesP_test (l : List Int) (i : Nat) : ∀ k, k ≤ l.length → ((filesP l k).testBit i = true ↔ ∃ j, ∃ h : j < l.length, j < k ∧ (ofN (fileL (l[j] / 9) 9)).testBit i = true)
  | 0, _ => by
    rw [filesP_zero, Nat.zero_testBit]
    constructor
    · intro h; cases h
    · rintro ⟨j, -, h, -⟩; omega
  | k + 1, hk => by
    rw [filesP_step l k hk, Nat.testBit_or, Bool.or_eq_true, filesP_test l i k (by omega)]
    constructor
    · rintro (⟨j, hj, h1, h2⟩ | h)
      · exact ⟨j, hj, by omega, h2⟩
      · exact ⟨k, hk, by omega, h⟩
    · rintro ⟨j, hj, h1, h2⟩
      by_cases e : j = k
      · subst e; exact .inr h2
      · exact .inl ⟨j, hj, by omega, h2⟩
theorem fileL_test (f : Nat) (hf : f < 9) (i : Nat) (hi : i < 81) : (ofN (fileL (f : Int) 9)).testBit i = decide (i / 9 = f) := by
  rw [ofN_test, decide_eq_decide]
  unfold fileL
  rw [List.mem_map]
  constructor
  · rintro ⟨⟨r, hr, e⟩, -⟩
    have hr9 := List.mem_range.1 hr
    rw [show squareF (f : Int) (r : Int) = f * 9 + r from if_pos (by omega)] at e
    omega
  · intro e
    refine ⟨⟨i % 9, List.mem_range.2 (Nat.mod_lt _ (by omega)), ?_⟩, hi⟩
    rw [show squareF (f : Int) ((i % 9 : Nat) : Int) = f * 9 + (i % 9 : Nat) from if_pos (by omega)]
    omega
theorem files_test (z : List Int) (s : Int) (hs : s = 0 ∨ s = 1) (q : Nat) (hq : q < 81) : (filesN (pieceN z (ofF s 1))).testBit q = !decide (onI z (ofF s 1) (q / 9) 9 = 0) := by
  unfold filesN
  rw [Bool.eq_iff_iff, filesP_test _ _ _ (Nat.le_refl _), Bool.not_eq_true', decide_eq_false_iff_not, onI_zero]
  have hk1 : kindF (ofF s 1) = 1 := by
    rw [of_at s 1 hs (by decide)]
    exact (kind_at s 1 hs (by omega) (by omega)).1
  have hp : ∀ i, i < 81 → ((pieceN z (ofF s 1)).testBit i = true ↔ at8 z i = ofF s 1) := by
    intro i hi
    unfold pieceN pieceB
    rw [where_test, decide_eq_true hi, hk1]
    simp
  constructor
  · rintro ⟨j, hj, -, h⟩ hn
    have hm := List.getElem_mem hj
    generalize (sqI (pieceN z (ofF s 1)))[j] = x at h hm
    have hx := sqI_in _ x hm
    obtain ⟨i, rfl⟩ : ∃ i : Nat, x = i := ⟨x.toNat, by omega⟩
    have hi := (mem_sqI _ _).1 hm
    rw [show (i : Int) / 9 = ((i / 9 : Nat) : Int) by omega, fileL_test (i / 9) (by omega) q hq, decide_eq_true_eq] at h
    refine hn (i % 9) (by omega) ?_
    rw [show 9 * (q / 9) + i % 9 = i by omega]
    exact (hp i hi.1).1 hi.2
  · intro hn
    have : ∃ r, r < 9 ∧ at8 z (9 * (q / 9) + r) = ofF s 1 := by
      apply Classical.byContradiction
      intro hc
      exact hn fun i hi e => hc ⟨i, hi, e⟩
    obtain ⟨r, hr, e⟩ := this
    have hi81 : 9 * (q / 9) + r < 81 := by omega
    have hm : ((9 * (q / 9) + r : Nat) : Int) ∈ sqI (pieceN z (ofF s 1)) := (mem_sqI _ _).2 ⟨hi81, (hp _ hi81).2 e⟩
    obtain ⟨j, hj, ej⟩ := List.getElem_of_mem hm
    refine ⟨j, hj, hj, ?_⟩
    rw [ej, show ((9 * (q / 9) + r : Nat) : Int) / 9 = ((q / 9 : Nat) : Int) by omega, fileL_test (q / 9) (by omega) q hq]
    exact decide_eq_true rfl
theorem taken_test (z : List Int) (hc : Clean z) (q : Nat) (hq : q < 81) : (takenN z).testBit q = !decide (at8 z q = 0) := by
  unfold takenN sideN
  rw [Nat.testBit_or, where_test, where_test, decide_eq_true hq]
  unfold sideB
  have h := hc q hq
  have hk := kind_side (at8 z q)
  by_cases h0 : at8 z q = 0
  · rw [h0, side_zero]; rfl
  · have : sideF (at8 z q) = 0 ∨ sideF (at8 z q) = 1 := by
      by_cases hk0 : kindF (at8 z q) = 0
      · exact absurd (h hk0) h0
      · omega
    rw [decide_eq_false h0]
    rcases this with e | e <;> rw [e] <;> rfl
/-- Whether a kind may be dropped on a square. -/
def dropB (z : List Int) (s k : Int) (q : Nat) : Bool := decide (at8 z q = 0) && (!deadF (16 * s + k) q && (!decide (k = 1) || decide (onI z (16 * s + k) (q / 9) 9 = 0)))
theorem free_test (z : List Int) (hc : Clean z) (s k : Int) (hs : s = 0 ∨ s = 1) (hk : 1 ≤ k ∧ k ≤ 7) (q : Nat) (hq : q < 81) : (freeN z s k).testBit q = dropB z s k q := by
  have hr : rawF k ≠ 0 := by have := rawF_cases k; omega
  have ho : ofF s k = 16 * s + k := of_at s k hs hr
  have hb : (freeB z s k).testBit q = (decide (at8 z q = 0) && !deadF (16 * s + k) q) := by
    unfold freeB
    rw [test_minus, test_minus, test_full, decide_eq_true hq, Bool.true_and, taken_test z hc q hq, Bool.not_not, dead_test _ q hq, ho]
  unfold freeN dropB
  rw [if_neg (by omega)]
  by_cases h1 : k = 1
  · subst h1
    rw [if_pos rfl, test_minus, hb, files_test z s hs q hq, Bool.not_not, ho, decide_eq_true rfl, Bool.not_true, Bool.false_or, Bool.and_assoc]
  · rw [if_neg h1, hb, decide_eq_false h1, Bool.not_false, Bool.true_or, Bool.and_true]

/-! The document's Moves, of drops. -/
theorem can_drop_side {z : List Int} {t d : Int} (h : canF z 0 t d false = true) (hd : d ≠ 0) : (at8 z 97 = 0 ∨ at8 z 97 = 1) ∧ (0 ≤ t ∧ t < 81) ∧ (1 ≤ d ∧ d ≤ 7) := by
  unfold canF at h
  by_cases hc : checkM 0 t d false = 0
  · have h2 := (checkM_zero 0 t d false).1 hc
    rw [if_pos hc] at h
    by_cases hs : at8 z 97 = 0 ∨ at8 z 97 = 1
    · exact ⟨hs, h2.1, by omega⟩
    · rw [if_neg hs] at h; cases h
  · rw [if_neg hc] at h; cases h
def dropM (z : List Int) (t d : Int) : Bool := canF z 0 t d false && (!deadF (16 * at8 z 97 + d) t && (!decide (d = 1) || decide (onI z (16 * at8 z 97 + d) (t.toNat / 9) 9 = 0)))
set_option maxHeartbeats 4000000 in
theorem refMoves_drop (z : List Int) (t d : Int) (hd : d ≠ 0) (hz : z.length = 98) (h8 : I8s z) (w : World) :
    Calls Tryd.prog 56 #[.agg (posC z).toArray, .agg #[.int .i64 0, .int .i64 t, .int .i64 d, .bool false]] w fun e w' => e = .returned (.bool (dropM z t d)) ∧ Below w.heap.size w w' := by
  have CA := Lib.hid (fun W => refCan_any z 0 t d false hz h8 W)
  have HP := Lib.hid (show PosAt ((w.alloc (.cells (posC z).toArray 28)).alloc (.cells #[.int .i64 0, .int .i64 t, .int .i64 d, .bool false] 70)) w.heap.size z from (PosAt.new w z).grow (ball (bref _) _))
  have HM := Lib.hid (show ((w.alloc (.cells (posC z).toArray 28)).alloc (.cells #[.int .i64 0, .int .i64 t, .int .i64 d, .bool false] 70)).heap[w.heap.size + 1]? = some (.cells #[.int .i64 0, .int .i64 t, .int .i64 d, .bool false] 70) by
    have := heap_alloc_new (w.alloc (.cells (posC z).toArray 28)) (.cells #[.int .i64 0, .int .i64 t, .int .i64 d, .bool false] 70)
    rwa [show (w.alloc (.cells (posC z).toArray 28)).heap.size = w.heap.size + 1 by simp] at this)
  have HB := Lib.hid (ball (ball (bref w) (.cells (posC z).toArray 28)) (.cells #[.int .i64 0, .int .i64 t, .int .i64 d, .bool false] 70))
  have HINF := Lib.hid (show (Tryd.prog.info? 28).map (·.size) = some (posC z).length by rw [posC_len, hz]; exact infoPos)
  have HML := Lib.hid (show w.heap.size + 1 < ((w.alloc (.cells (posC z).toArray 28)).alloc (.cells #[.int .i64 0, .int .i64 t, .int .i64 d, .bool false] 70)).heap.size by simp)
  unfold dropM
  by_cases hcan : canF z 0 t d false = true
  · rw [hcan] at CA ⊢
    obtain ⟨hs, ht, hdd⟩ := can_drop_side hcan hd
    have hyb : -128 ≤ 16 * at8 z 97 + d ∧ 16 * at8 z 97 + d ≤ 127 := by omega
    have DE := Lib.hid (fun W => refDead_any (16 * at8 z 97 + d) t hyb W)
    have ON := Lib.hid (fun W => refOn_any z hz h8 (16 * at8 z 97 + d) (t.toNat / 9) (by omega) W)
    have htd : ((t.toNat / 9 : Nat) : Int) = t / 9 := by omega
    rw [htd] at ON
    have c97 := HP.out.cell 97 (by omega)
    obtain ⟨m0, m1, m2, m3⟩ := mv_cells' HM.out
    have y1 : wrap64 (at8 z 97) = at8 z 97 := by unfold wrap64; omega
    have y2 : IntKind.i64.wrap (at8 z 97) = at8 z 97 := by rw [wrap_i64_eq]; exact y1
    have y3 : wrap64 (16 * at8 z 97) = 16 * at8 z 97 := by unfold wrap64; omega
    have y4 : IntKind.i64.wrap (16 * at8 z 97) = 16 * at8 z 97 := by rw [wrap_i64_eq]; exact y3
    have y5 : wrap64 (16 * at8 z 97 + d) = 16 * at8 z 97 + d := by unfold wrap64; omega
    have y6 : IntKind.i64.wrap (16 * at8 z 97 + d) = 16 * at8 z 97 + d := by rw [wrap_i64_eq]; exact y5
    have tq : Int.tdiv t 9 = t / 9 := Int.tdiv_eq_ediv_of_nonneg ht.1
    have bd0 : (d != 0) = true := by simpa using hd
    have hz98 := hz
    clear hcan hs hdd hyb hz h8 hd
    generalize deadF (16 * at8 z 97 + d) t = b1 at *
    generalize onI z (16 * at8 z 97 + d) (t.toNat / 9) 9 = n at *
    generalize hs97 : at8 z 97 = s at *
    have HS97 := Lib.hid hs97
    clear hs97
    generalize t / 9 = tf at *
    cases b1 with
    | true =>
      rw [Bool.not_true, Bool.false_and]
      go_enter Tryd.func56, Tryd.ntmps56
      go_upto_region 1 with fail
      generalize (w.alloc (.cells (posC z).toArray 28)).alloc (.cells #[.int .i64 0, .int .i64 t, .int .i64 d, .bool false] 70) = w0 at *
      go_upto_region 6 with (first
        | (refine wpList_load_mid rfl 28 _ rfl w.heap.size 0 rfl (posC z) _ HP.out.range Tryd.underlying28 rfl HINF.out ?_)
        | (go_at_call 57; refine (CA.out _).mono ?_; rintro e wc ⟨rfl, hb⟩; replace HP := Lib.hid (HP.out.grow hb); replace HM := Lib.hid ((hb.block _ HML.out).trans HM.out); clear c97 m0 m1 m2 m3; have c97 := HP.out.cell 97 (by omega); rw [HS97.out] at c97; obtain ⟨m0, m1, m2, m3⟩ := mv_cells' HM.out; replace HB := Lib.hid (bthen HB.out hb); clear hb))
      clear y1 y2 y3 y4 y5 y6 c97 CA
      go_wp2_with (first
        | (go_at_call 73; refine (DE.out _).mono ?_; rintro e wd ⟨rfl, rfl⟩)
        | (go_at_call 74; refine (ON.out _).mono ?_; rintro e we ⟨rfl, hb⟩; replace HB := Lib.hid (bthen HB.out hb); clear hb))
      go_ret
      exact ⟨by first | rfl | simp, HB.out⟩
    | false =>
      rw [Bool.not_false, Bool.true_and]
      by_cases h1 : d = 1
      · rw [decide_eq_true h1, Bool.not_true, Bool.false_or]
        have bd1 : (d != 1) = false := by simpa using h1
        clear h1
        by_cases hn : n = 0
        · rw [decide_eq_true hn]
          have bn : (n == 0) = true := by simpa using hn
          clear hn
          go_enter Tryd.func56, Tryd.ntmps56
          go_upto_region 1 with fail
          generalize (w.alloc (.cells (posC z).toArray 28)).alloc (.cells #[.int .i64 0, .int .i64 t, .int .i64 d, .bool false] 70) = w0 at *
          go_upto_region 6 with (first
            | (refine wpList_load_mid rfl 28 _ rfl w.heap.size 0 rfl (posC z) _ HP.out.range Tryd.underlying28 rfl HINF.out ?_)
            | (go_at_call 57; refine (CA.out _).mono ?_; rintro e wc ⟨rfl, hb⟩; replace HP := Lib.hid (HP.out.grow hb); replace HM := Lib.hid ((hb.block _ HML.out).trans HM.out); clear c97 m0 m1 m2 m3; have c97 := HP.out.cell 97 (by omega); rw [HS97.out] at c97; obtain ⟨m0, m1, m2, m3⟩ := mv_cells' HM.out; replace HB := Lib.hid (bthen HB.out hb); clear hb))
          clear y1 y2 y3 y4 y5 y6 c97 CA
          go_wp2_with (go_at_call 73; refine (DE.out _).mono ?_; rintro e wd ⟨rfl, rfl⟩)
          refine wp_load_mid _ _ rfl w.heap.size 0 rfl (posC z) _ HP.out.range Tryd.underlying28 rfl HINF.out ?_
          refine (by assumption : ∀ (a : Act) (w : World), wpList _ _ _ _ a w → _) _ _ ?_
          go_wp2_with (go_at_call 74; refine (ON.out _).mono ?_; rintro e we ⟨rfl, hb⟩; replace HB := Lib.hid (bthen HB.out hb); clear hb)
          go_ret
          exact ⟨by first | rfl | simp, HB.out⟩
        · rw [decide_eq_false hn]
          have bn : (n == 0) = false := by simpa using hn
          clear hn
          go_enter Tryd.func56, Tryd.ntmps56
          go_upto_region 1 with fail
          generalize (w.alloc (.cells (posC z).toArray 28)).alloc (.cells #[.int .i64 0, .int .i64 t, .int .i64 d, .bool false] 70) = w0 at *
          go_upto_region 6 with (first
            | (refine wpList_load_mid rfl 28 _ rfl w.heap.size 0 rfl (posC z) _ HP.out.range Tryd.underlying28 rfl HINF.out ?_)
            | (go_at_call 57; refine (CA.out _).mono ?_; rintro e wc ⟨rfl, hb⟩; replace HP := Lib.hid (HP.out.grow hb); replace HM := Lib.hid ((hb.block _ HML.out).trans HM.out); clear c97 m0 m1 m2 m3; have c97 := HP.out.cell 97 (by omega); rw [HS97.out] at c97; obtain ⟨m0, m1, m2, m3⟩ := mv_cells' HM.out; replace HB := Lib.hid (bthen HB.out hb); clear hb))
          clear y1 y2 y3 y4 y5 y6 c97 CA
          go_wp2_with (go_at_call 73; refine (DE.out _).mono ?_; rintro e wd ⟨rfl, rfl⟩)
          refine wp_load_mid _ _ rfl w.heap.size 0 rfl (posC z) _ HP.out.range Tryd.underlying28 rfl HINF.out ?_
          refine (by assumption : ∀ (a : Act) (w : World), wpList _ _ _ _ a w → _) _ _ ?_
          go_wp2_with (go_at_call 74; refine (ON.out _).mono ?_; rintro e we ⟨rfl, hb⟩; replace HB := Lib.hid (bthen HB.out hb); clear hb)
          go_ret
          exact ⟨by first | rfl | simp, HB.out⟩
      · rw [decide_eq_false h1, Bool.not_false, Bool.true_or]
        have bd1 : (d != 1) = true := by simpa using h1
        clear h1
        go_enter Tryd.func56, Tryd.ntmps56
        go_upto_region 1 with fail
        generalize (w.alloc (.cells (posC z).toArray 28)).alloc (.cells #[.int .i64 0, .int .i64 t, .int .i64 d, .bool false] 70) = w0 at *
        go_upto_region 6 with (first
          | (refine wpList_load_mid rfl 28 _ rfl w.heap.size 0 rfl (posC z) _ HP.out.range Tryd.underlying28 rfl HINF.out ?_)
          | (go_at_call 57; refine (CA.out _).mono ?_; rintro e wc ⟨rfl, hb⟩; replace HP := Lib.hid (HP.out.grow hb); replace HM := Lib.hid ((hb.block _ HML.out).trans HM.out); clear c97 m0 m1 m2 m3; have c97 := HP.out.cell 97 (by omega); rw [HS97.out] at c97; obtain ⟨m0, m1, m2, m3⟩ := mv_cells' HM.out; replace HB := Lib.hid (bthen HB.out hb); clear hb))
        clear y1 y2 y3 y4 y5 y6 c97 CA
        go_wp2_with (first
          | (go_at_call 73; refine (DE.out _).mono ?_; rintro e wd ⟨rfl, rfl⟩)
          | (go_at_call 74; refine (ON.out _).mono ?_; rintro e we ⟨rfl, hb⟩; replace HB := Lib.hid (bthen HB.out hb); clear hb))
        go_ret
        exact ⟨by first | rfl | simp, HB.out⟩
  · rw [Bool.not_eq_true] at hcan
    rw [hcan] at CA ⊢
    obtain ⟨m0, m1, m2, m3⟩ := mv_cells' HM.out
    clear hcan hz h8 hd
    go_enter Tryd.func56, Tryd.ntmps56
    go_upto_region 1 with fail
    generalize (w.alloc (.cells (posC z).toArray 28)).alloc (.cells #[.int .i64 0, .int .i64 t, .int .i64 d, .bool false] 70) = w0 at *
    go_wp2_with (first
      | (refine wpList_load_mid rfl 28 _ rfl w.heap.size 0 rfl (posC z) _ HP.out.range Tryd.underlying28 rfl HINF.out ?_)
      | (go_at_call 57; refine (CA.out _).mono ?_; rintro e w1 ⟨rfl, hb⟩))
    go_ret
    exact ⟨rfl, bthen HB.out hb⟩
end Go.Proofs.YtilhicohfnaclaaDoor
