/-
  Lists of moves: those onto some squares; the document's Same; rows appended.
-/
import Derived.Test.YtilhicohfnaclaaDoorGen5
namespace Go.Proofs.YtilhicohfnaclaaDoor
open Go.RowKit
set_option maxRecDepth 100000
set_option linter.unusedVariables false
set_option linter.unusedSimpArgs false

/-- Does a move go to one of some squares? -/
def ontoB (n : Nat) (m : Gv) : Bool := decide (0 ≤ m.t ∧ m.t < 81) && n.testBit m.t.toNat
theorem sqI_filter (a n : Nat) : (sqI a).filter (fun t => decide (0 ≤ t ∧ t < 81) && n.testBit t.toNat) = sqI (a &&& n) := by
  unfold sqI bitsL
  rw [List.filter_map, List.filter_filter]
  congr 1
  apply List.filter_congr
  intro i hi
  have h81 := List.mem_range.1 hi
  simp only [Function.comp, Int.toNat_natCast, Nat.testBit_and]
  rw [decide_eq_true (by omega), Bool.true_and, Bool.and_comm]
theorem addL_filter (x f t : Int) (n : Nat) : (addL x f t).filter (ontoB n) = if (decide (0 ≤ t ∧ t < 81) && n.testBit t.toNat) = true then addL x f t else [] := by
  unfold addL ontoB
  by_cases h : (decide (0 ≤ t ∧ t < 81) && n.testBit t.toNat) = true
  · rw [if_pos h]
    split <;> split <;> simp [h] <;> simpa using h
  · rw [if_neg h]
    split <;> split <;> simp [h] <;> simpa using h
theorem innG_filter (z : List Int) (f : Int) (n : Nat) : ∀ l : List Int, (innG z f l).filter (ontoB n) = innG z f (l.filter (fun t => decide (0 ≤ t ∧ t < 81) && n.testBit t.toNat))
  | [] => rfl
  | t :: l => by
    have ih := innG_filter z f n l
    show (addL (at8 z f.toNat) f t ++ innG z f l).filter (ontoB n) = _
    rw [List.filter_append, ih, addL_filter, List.filter_cons]
    by_cases h : (decide (0 ≤ t ∧ t < 81) && n.testBit t.toNat) = true
    · rw [if_pos h, if_pos h]
      rfl
    · rw [if_neg h, if_neg h]
      rfl
theorem open_and (z : List Int) (s : Int) (r n : Nat) (hr : Sq r) : (r &&& openN z s full) &&& n = r &&& openN z s n := by
  apply Nat.eq_of_testBit_eq
  intro i
  unfold openN
  rw [Nat.testBit_and, Nat.testBit_and, Nat.testBit_and, test_minus, test_minus, test_minus, test_minus, test_full]
  by_cases hi : i < 81
  · rw [decide_eq_true hi]
    cases r.testBit i <;> cases n.testBit i <;> cases (sideN z s).testBit i <;> cases (kingsN z).testBit i <;> rfl
  · rw [test_sq hr i (by omega)]
    rfl
theorem outG_filter (z : List Int) (s : Int) (n : Nat) : ∀ l : List Int, (outG z s full l).filter (ontoB n) = outG z s n l
  | [] => rfl
  | f :: l => by
    have ih := outG_filter z s n l
    show (innG z f (innL z s full f) ++ outG z s full l).filter (ontoB n) = innG z f (innL z s n f) ++ outG z s n l
    rw [List.filter_append, ih, innG_filter]
    congr 2
    unfold innL
    rw [sqI_filter, open_and z s _ n (rayN_sq _ _ _)]
theorem drpI_filter (k n : Nat) : ∀ l : List Int, (drpI k l).filter (ontoB n) = drpI k (l.filter (fun t => decide (0 ≤ t ∧ t < 81) && n.testBit t.toNat))
  | [] => rfl
  | t :: l => by
    have ih := drpI_filter k n l
    show ((⟨0, t, 1 + (k : Int), false⟩ : Gv) :: drpI k l).filter (ontoB n) = _
    rw [List.filter_cons, ih, List.filter_cons]
    by_cases h : (decide (0 ≤ t ∧ t < 81) && n.testBit t.toNat) = true
    · rw [if_pos h, if_pos (show ontoB n ⟨0, t, 1 + (k : Int), false⟩ = true from h)]
      rfl
    · rw [if_neg h, if_neg (show ¬ ontoB n ⟨0, t, 1 + (k : Int), false⟩ = true from h)]
theorem drpS_filter (z : List Int) (s : Int) (n k : Nat) : (drpS z s full k).filter (fun t => decide (0 ≤ t ∧ t < 81) && n.testBit t.toNat) = drpS z s n k := by
  unfold drpS
  split
  · rfl
  · rw [sqI_filter]
    congr 1
    apply Nat.eq_of_testBit_eq
    intro i
    rw [Nat.testBit_and, Nat.testBit_and, Nat.testBit_and, test_full]
    by_cases hi : i < 81
    · rw [decide_eq_true hi, Bool.and_true]
    · rw [test_sq (freeN_sq z s _) i (by omega)]
      rfl
theorem drpL_filter (z : List Int) (s : Int) (n : Nat) : ∀ k, (drpL z s full k).filter (ontoB n) = drpL z s n k
  | 0 => rfl
  | k + 1 => by rw [drpL_step, drpL_step, List.filter_append, drpL_filter z s n k, drpI_filter, drpS_filter]
/-- THE MOVES ONTO SOME SQUARES ARE JUST THOSE OF ALL THAT GO THERE. -/
theorem gen_filter (z : List Int) (s : Int) (n : Nat) : (genG z s).filter (ontoB n) = brdG z s n ++ drpG z s n := by
  unfold genG brdG drpG
  rw [List.filter_append, outG_filter, drpL_filter]

/-! The document's Same, of two rows with the same moves. -/
theorem infoMv4 : (Tryd.prog.info? 70).map (·.size) = some 4 := by kernel_rfl
set_option maxHeartbeats 4000000 in
theorem same_gen (L : List Gv) (hL : L.length ≤ 100000) (v1 v2 : Value) (B1 B2 : Nat) (w : World) (h1 : OwnG w B1 v1 L) (h2 : OwnG w B2 v2 L) :
    Calls Tryd.prog 47 #[v1, v2] w fun e w' => e = .returned (.bool true) ∧ Below w.heap.size w w' := by
  obtain ⟨ao1, cap1, rfl, hp1⟩ := h1.uni
  obtain ⟨ao2, cap2, rfl, hp2⟩ := h2.uni
  have HP1 := Lib.hid hp1
  have HP2 := Lib.hid hp2
  clear h1 h2 hp1 hp2
  go_enter Tryd.func47, Tryd.ntmps47
  go_wp2
  go_loopw [5] (fun i wr => ∃ j : Nat, j ≤ L.length ∧ i = .int .i64 j ∧ Below w.heap.size w wr) (fun i _ => L.length - (intOf i).toNat)
  case atStart => exact ⟨0, Nat.zero_le _, rfl, bref _⟩
  case round =>
    obtain ⟨j, hj, rfl, hW⟩ := hrel
    by_cases hlt : j < L.length
    · obtain ⟨g1, rfl, -, hg1, hc1⟩ := HP1.out (by omega)
      obtain ⟨g2, rfl, -, hg2, hc2⟩ := HP2.out (by omega)
      have R1 := Lib.hid (range_grow (hc1 j hlt) hg1 hW)
      have R2 := Lib.hid (range_grow (hc2 j hlt) hg2 hW)
      have HW := Lib.hid hW
      clear hc1 hc2 hW HP1 HP2
      generalize L[j] = m at *
      obtain ⟨f, t, d, p⟩ := m
      go_wp2_with fail
      refine wp_region_held_drew (S := fun W => Below wr.heap.size wr W ∧ W.rangeAt g1 (j * 4) [.int .i64 f, .int .i64 t, .int .i64 d, .bool p] ∧ W.rangeAt g2 (j * 4) [.int .i64 f, .int .i64 t, .int .i64 d, .bool p]) (by kernel_rfl) ?_ (fun hHeld => ?_)
      · exact ⟨(bref wr).drew, R1.out, R2.out⟩
      refine wpAnyH_take (i := 0) (v := ?v1) rfl (by kernel_rfl) (by kernel_rfl) (by kernel_rfl) (fun _ _ _ h => h) (Or.inl ⟨by rfl, ?y1⟩) (by assumption) ?r1
      case y1 => (intro w hSw; (go_simp <;> first | with_reducible rfl | (rw [if_pos (by omega)] <;> with_reducible rfl)))
      try simp only [Act.put, List.getElem_toArray, List.getElem_cons_zero, List.getElem_cons_succ, List.setIfInBounds_toArray, List.set_cons_zero, List.set_cons_succ]
      refine wpAnyH_take (i := 1) (v := ?v2) rfl (by kernel_rfl) (by kernel_rfl) (by kernel_rfl) (fun _ _ _ h => h) (Or.inl ⟨by rfl, ?y2⟩) (by assumption) ?r2
      case y2 => (intro w hSw; (go_simp <;> first | with_reducible rfl | (rw [if_pos (by omega)] <;> with_reducible rfl)))
      try simp only [Act.put, List.getElem_toArray, List.getElem_cons_zero, List.getElem_cons_succ, List.setIfInBounds_toArray, List.set_cons_zero, List.set_cons_succ]
      refine wpAnyH_take (i := 2) (v := ?v3) rfl (by kernel_rfl) (by kernel_rfl) (by kernel_rfl) (fun _ _ _ h => h) (Or.inl ⟨by rfl, ?y3⟩) (by assumption) ?r3
      case y3 => (intro w hSw; (go_simp <;> first | with_reducible rfl | (rw [if_pos (by omega)] <;> with_reducible rfl)))
      try simp only [Act.put, List.getElem_toArray, List.getElem_cons_zero, List.getElem_cons_succ, List.setIfInBounds_toArray, List.set_cons_zero, List.set_cons_succ]
      refine wpAnyH_take (i := 3) rfl (by kernel_rfl) (by kernel_rfl) (by kernel_rfl) (fun _ _ _ h => h) (yieldsIf_load_mid (by rfl) _ _ rfl _ _ rfl ([.int .i64 f, .int .i64 t, .int .i64 d, .bool p]) _ (fun w h => h.2.1) (Tryd.underlying70) rfl (infoMv4)) (by assumption) ?_
      try simp only [Act.put, List.getElem_toArray, List.getElem_cons_zero, List.getElem_cons_succ, List.setIfInBounds_toArray, List.set_cons_zero, List.set_cons_succ]
      refine wpAnyH_take (i := 4) (v := ?v4) rfl (by kernel_rfl) (by kernel_rfl) (by kernel_rfl) (fun _ _ _ h => h) (Or.inl ⟨by rfl, ?y4⟩) (by assumption) ?r4
      case y4 => (intro w hSw; (go_simp <;> first | with_reducible rfl | (rw [if_pos (by omega)] <;> with_reducible rfl)))
      try simp only [Act.put, List.getElem_toArray, List.getElem_cons_zero, List.getElem_cons_succ, List.setIfInBounds_toArray, List.set_cons_zero, List.set_cons_succ]
      refine wpAnyH_take (i := 5) (v := ?v5) rfl (by kernel_rfl) (by kernel_rfl) (by kernel_rfl) (fun _ _ _ h => h) (Or.inl ⟨by rfl, ?y5⟩) (by assumption) ?r5
      case y5 => (intro w hSw; (go_simp <;> first | with_reducible rfl | (rw [if_pos (by omega)] <;> with_reducible rfl)))
      try simp only [Act.put, List.getElem_toArray, List.getElem_cons_zero, List.getElem_cons_succ, List.setIfInBounds_toArray, List.set_cons_zero, List.set_cons_succ]
      refine wpAnyH_take (i := 6) (v := ?v6) rfl (by kernel_rfl) (by kernel_rfl) (by kernel_rfl) (fun _ _ _ h => h) (Or.inl ⟨by rfl, ?y6⟩) (by assumption) ?r6
      case y6 => (intro w hSw; (go_simp <;> first | with_reducible rfl | (rw [if_pos (by omega)] <;> with_reducible rfl)))
      try simp only [Act.put, List.getElem_toArray, List.getElem_cons_zero, List.getElem_cons_succ, List.setIfInBounds_toArray, List.set_cons_zero, List.set_cons_succ]
      refine wpAnyH_take (i := 7) rfl (by kernel_rfl) (by kernel_rfl) (by kernel_rfl) (fun _ _ _ h => h) (yieldsIf_load_mid (by rfl) _ _ rfl _ _ rfl ([.int .i64 f, .int .i64 t, .int .i64 d, .bool p]) _ (fun w h => h.2.2) (Tryd.underlying70) rfl (infoMv4)) (by assumption) ?_
      try simp only [Act.put, List.getElem_toArray, List.getElem_cons_zero, List.getElem_cons_succ, List.setIfInBounds_toArray, List.set_cons_zero, List.set_cons_succ]
      refine wpAnyH_take (i := 8) (v := ?v7) rfl (by kernel_rfl) (by kernel_rfl) (by kernel_rfl) (fun _ _ _ h => h) (Or.inl ⟨by rfl, ?y7⟩) (by assumption) ?r7
      case y7 => (intro w hSw; (go_simp <;> first | with_reducible rfl | (rw [if_pos (by omega)] <;> with_reducible rfl)))
      try simp only [Act.put, List.getElem_toArray, List.getElem_cons_zero, List.getElem_cons_succ, List.setIfInBounds_toArray, List.set_cons_zero, List.set_cons_succ]
      refine wpAnyH_done (by kernel_rfl) ?_ _
      go_wp2
      go_roundw
      case rel => exact ⟨j + 1, by omega, by go_num, HW.out.trans (hHeld.1.mono HW.out.size)⟩
      case measure => simp [intOf]; omega
    · obtain rfl : j = L.length := by omega
      go_wp2
      go_ret
      exact ⟨rfl, hW⟩
end Go.Proofs.YtilhicohfnaclaaDoor
