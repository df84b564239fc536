/-
  The document's answers on attacks: On, InCheck, Check.
-/
import Derived.Test.YtilhicohfnaclaaDoorAtkRef1
namespace Go.Proofs.YtilhicohfnaclaaDoor
open Go.RowKit
set_option maxRecDepth 100000
set_option linter.unusedVariables false
set_option linter.unusedSimpArgs false

/-- The cells of the document's set, as a list. -/
def arrL (n : Nat) : List Value := (List.range 81).map (fun q => Value.bool (decide (q < 81) && n.testBit q))
theorem arrL_arr (n : Nat) : (arrL n).toArray = arrP n 81 := rfl
theorem arrL_len (n : Nat) : (arrL n).length = 81 := by simp [arrL]
theorem row_range {w : World} {g : Nat} {l : List Value} {T : TypeId} {fr : Nat × Nat} (h : w.heap[g]? = some (.cells l.toArray T fr)) : w.rangeAt g 0 l := fun j v hv => by
  rw [Nat.zero_add, cell_of_row w g j _ _ _ h]
  simpa using hv
set_option maxHeartbeats 4000000 in
theorem refAt_in (z : List Int) (t : Nat) (s : Int) (n : Nat) (ht : t < 81) (hz : z.length = 98) (h8 : I8s z) (w : World) :
    Calls Tryd.prog 22 #[.agg (posC z).toArray, .int .i64 (t : Int), .int .i64 s, .agg (arrL n).toArray] w fun e w' => ∃ v, e = .returned v ∧ Own w' w.heap.size v (onL z t s n 81) ∧ Below w.heap.size w w' := by
  obtain ⟨i0, hi, hz0, hz1, hz2⟩ := info_parts infoInt
  have HP := Lib.hid (show PosAt ((w.alloc (.cells (posC z).toArray 28)).alloc (.cells (arrL n).toArray 42)) w.heap.size z from (PosAt.new w z).grow (ball (bref _) _))
  have R1 := Lib.hid (show ((w.alloc (.cells (posC z).toArray 28)).alloc (.cells (arrL n).toArray 42)).heap[w.heap.size + 1]? = some (.cells (arrL n).toArray 42) by
    have := heap_alloc_new (w.alloc (.cells (posC z).toArray 28)) (.cells (arrL n).toArray 42)
    rwa [show (w.alloc (.cells (posC z).toArray 28)).heap.size = w.heap.size + 1 by simp] at this)
  have HB0 := Lib.hid (ball (ball (bref w) (.cells (posC z).toArray 28)) (.cells (arrL n).toArray 42))
  have HSZ := Lib.hid (show ((w.alloc (.cells (posC z).toArray 28)).alloc (.cells (arrL n).toArray 42)).heap.size = w.heap.size + 2 by simp)
  have HINFA := Lib.hid (show (Tryd.prog.info? 42).map (·.size) = some (arrL n).length by rw [arrL_len]; kernel_rfl)
  have HZ := Lib.hid hz
  have H8 := Lib.hid h8
  clear hz h8
  have n1 : ¬ (t : Int) < 0 := by omega
  have n2 : ¬ 80 < (t : Int) := by omega
  go_enter Tryd.func22, Tryd.ntmps22
  go_upto_region 1 with fail
  generalize (w.alloc (.cells (posC z).toArray 28)).alloc (.cells (arrL n).toArray 42) = w2 at *
  go_wp2_with fail
  go_loopw [9, 10] (fun v i wr => ∃ k : Nat, k ≤ 81 ∧ i = .int .i64 k ∧ Own wr (w.heap.size + 2) v (onL z t s n k) ∧ Below (w.heap.size + 2) w2 wr ∧ w.heap.size + 2 ≤ wr.heap.size) (fun _ i _ => 81 - (intOf i).toNat)
  case atStart => exact ⟨0, by omega, rfl, World.ownsRow_nil _ _ _ _, Below.refl _ _, by have := HSZ.out; omega⟩
  case round =>
    obtain ⟨k, hk, rfl, hO, hW, hs⟩ := hrel
    have HO := Lib.hid hO
    have HW := Lib.hid hW
    by_cases hlt : k < 81
    · have hx := H8.out.at k
      have HC := Lib.hid ((hW.cell (p := ⟨w.heap.size, k, none⟩) (by show w.heap.size < _; omega)).trans (HP.out.cell k (by rw [HZ.out]; omega)))
      have HR := Lib.hid (show wr.rangeAt (w.heap.size + 1) 0 (arrL n) from row_range ((hW.block (w.heap.size + 1) (by omega)).trans R1.out))
      have HZS := Lib.hid (show w.heap.size < wr.heap.size by omega)
      have HGA := Lib.hid (show w.heap.size + 1 < wr.heap.size by omega)
      have HWI := Lib.hid (show IntKind.i64.wrap (at8 z k) = at8 z k by rw [wrap_i64_eq]; unfold wrap64; omega)
      have SI := Lib.hid (fun W => refSide_any (at8 z k) W hx.1 hx.2)
      have RE := Lib.hid (fun W => reaches_any (at8 z k) k t n hx.1 hx.2 ht W)
      rw [← arrL_arr] at RE
      have hst := onL_step z t s n k
      have hle := onL_len z t s n k
      have hb : onB z t s n k = (decide (sideF (at8 z k) = s) && reachF (at8 z k) k t n) := rfl
      clear hO hW hx
      by_cases hsd : sideF (at8 z k) = s
      · rw [decide_eq_true hsd, Bool.true_and] at hb
        have b0 : (sideF (at8 z k) == s) = true := by simpa using hsd
        by_cases hr : reachF (at8 z k) k t n = true
        · rw [hr] at RE hb
          rw [if_pos hb] at hst
          have HST := Lib.hid hst
          clear hst hb hr hsd
          generalize onL z t s n k = L1 at HST HO hle
          generalize sideF (at8 z k) = sd at SI b0
          generalize at8 z k = x at *
          go_wp2_with fail
          refine wp_region_held_drew (S := fun W => Below wr.heap.size wr W ∧ W.cell? ⟨w.heap.size, k, none⟩ = some (.int .i8 x) ∧ W.rangeAt (w.heap.size + 1) 0 (arrL n)) (by kernel_rfl) ?_ (fun hHeld => ?_)
          · exact ⟨(bref wr).drew, HC.out, HR.out⟩
          refine wpAnyH_take (i := 0) (v := ?v20) rfl (by kernel_rfl) (by kernel_rfl) (by kernel_rfl) (fun _ _ _ h => h) (Or.inl ⟨by rfl, ?y20⟩) (by assumption) ?r20
          case y20 => (intro w hSw; (go_simp <;> first | with_reducible rfl | (rw [if_pos (by omega)] <;> with_reducible rfl)))
          try simp only [Act.put, List.getElem_toArray, List.getElem_cons_zero, List.getElem_cons_succ, List.setIfInBounds_toArray, List.set_cons_zero, List.set_cons_succ]
          refine wpAnyH_take (i := 1) (v := ?v21) rfl (by kernel_rfl) (by kernel_rfl) (by kernel_rfl) (fun _ _ _ h => h) (Or.inl ⟨by rfl, ?y21⟩) (by assumption) ?r21
          case y21 => (intro w hSw; (go_simp <;> first | with_reducible rfl | (rw [if_pos (by omega)] <;> with_reducible rfl)))
          try simp only [Act.put, List.getElem_toArray, List.getElem_cons_zero, List.getElem_cons_succ, List.setIfInBounds_toArray, List.set_cons_zero, List.set_cons_succ]
          refine wpAnyH_take (i := 2) (v := ?v22) rfl (by kernel_rfl) (by kernel_rfl) (by kernel_rfl) (fun _ _ _ h => h) (Or.inl ⟨by rfl, ?y22⟩) (by assumption) ?r22
          case y22 => (intro w hSw; (go_simp <;> first | with_reducible rfl | (rw [if_pos (by omega)] <;> with_reducible rfl)))
          try simp only [Act.put, List.getElem_toArray, List.getElem_cons_zero, List.getElem_cons_succ, List.setIfInBounds_toArray, List.set_cons_zero, List.set_cons_succ]
          refine wpAnyH_take (i := 3) (v := ?v23) rfl (by kernel_rfl) (by kernel_rfl) (by kernel_rfl) (fun _ _ _ h => h) (Or.inl ⟨by rfl, ?y23⟩) (by assumption) ?r23
          case y23 => (intro w hSw; have c0 := hSw.2.1; (go_simp <;> first | with_reducible rfl | (rw [if_pos (by omega)] <;> with_reducible rfl)))
          try simp only [Act.put, List.getElem_toArray, List.getElem_cons_zero, List.getElem_cons_succ, List.setIfInBounds_toArray, List.set_cons_zero, List.set_cons_succ]
          refine wpAnyH_take (i := 4) (v := ?v24) rfl (by kernel_rfl) (by kernel_rfl) (by kernel_rfl) (fun _ _ _ h => h) (Or.inl ⟨by rfl, ?y24⟩) (by assumption) ?r24
          case y24 => (intro w hSw; have hwi := HWI.out; (go_simp <;> first | with_reducible rfl | (rw [if_pos (by omega)] <;> with_reducible rfl)))
          try simp only [Act.put, List.getElem_toArray, List.getElem_cons_zero, List.getElem_cons_succ, List.setIfInBounds_toArray, List.set_cons_zero, List.set_cons_succ]
          refine wpAnyH_take (i := 6) (v := ?v25) rfl (by kernel_rfl) (by kernel_rfl) (by kernel_rfl) (fun _ _ _ h => h) (Or.inl ⟨by rfl, ?y25⟩) (by assumption) ?r25
          case y25 => (intro w hSw; (go_simp <;> first | with_reducible rfl | (rw [if_pos (by omega)] <;> with_reducible rfl)))
          try simp only [Act.put, List.getElem_toArray, List.getElem_cons_zero, List.getElem_cons_succ, List.setIfInBounds_toArray, List.set_cons_zero, List.set_cons_succ]
          refine wpAnyH_ready (rs := [5]) (by kernel_rfl) (by simp) ?_
          refine AllReadyH.cons rfl (fun K hK => ?_) AllReadyH.nil
          rw [if_pos (by rfl)]
          go_simp
          go_at_call 35
          refine (SI.out _).mono ?_
          rintro e wo ⟨rfl, rfl⟩
          refine hK.out _ _ (hHeld) (fun hHeld => ?_)
          clear hK K
          try simp only [Act.put, List.getElem_toArray, List.getElem_cons_zero, List.getElem_cons_succ, List.setIfInBounds_toArray, List.set_cons_zero, List.set_cons_succ]
          refine wpAnyH_take (i := 7) (v := ?v26) rfl (by kernel_rfl) (by kernel_rfl) (by kernel_rfl) (fun _ _ _ h => h) (Or.inl ⟨by rfl, ?y26⟩) (by assumption) ?r26
          case y26 => (intro w hSw; (go_simp <;> first | with_reducible rfl | (rw [if_pos (by omega)] <;> with_reducible rfl)))
          try simp only [Act.put, List.getElem_toArray, List.getElem_cons_zero, List.getElem_cons_succ, List.setIfInBounds_toArray, List.set_cons_zero, List.set_cons_succ]
          refine wpAnyH_take (i := 8) (v := ?v27) rfl (by kernel_rfl) (by kernel_rfl) (by kernel_rfl) (fun _ _ _ h => h) (Or.inl ⟨by rfl, ?y27⟩) (by assumption) ?r27
          case y27 => (intro w hSw; (go_simp <;> first | with_reducible rfl | (rw [if_pos (by omega)] <;> with_reducible rfl)))
          try simp only [Act.put, List.getElem_toArray, List.getElem_cons_zero, List.getElem_cons_succ, List.setIfInBounds_toArray, List.set_cons_zero, List.set_cons_succ]
          refine wpAnyH_take (i := 9) (v := ?v28) rfl (by kernel_rfl) (by kernel_rfl) (by kernel_rfl) (fun _ _ _ h => h) (Or.inl ⟨by rfl, ?y28⟩) (by assumption) ?r28
          case y28 => (intro w hSw; (go_simp <;> first | with_reducible rfl | (rw [if_pos (by omega)] <;> with_reducible rfl)))
          try simp only [Act.put, List.getElem_toArray, List.getElem_cons_zero, List.getElem_cons_succ, List.setIfInBounds_toArray, List.set_cons_zero, List.set_cons_succ]
          refine wpAnyH_take (i := 10) (v := ?v29) rfl (by kernel_rfl) (by kernel_rfl) (by kernel_rfl) (fun _ _ _ h => h) (Or.inl ⟨by rfl, ?y29⟩) (by assumption) ?r29
          case y29 => (intro w hSw; (go_simp <;> first | with_reducible rfl | (rw [if_pos (by omega)] <;> with_reducible rfl)))
          try simp only [Act.put, List.getElem_toArray, List.getElem_cons_zero, List.getElem_cons_succ, List.setIfInBounds_toArray, List.set_cons_zero, List.set_cons_succ]
          refine wpAnyH_take (i := 11) (v := ?v30) rfl (by kernel_rfl) (by kernel_rfl) (by kernel_rfl) (fun _ _ _ h => h) (Or.inl ⟨by rfl, ?y30⟩) (by assumption) ?r30
          case y30 => (intro w hSw; (go_simp <;> first | with_reducible rfl | (rw [if_pos (by omega)] <;> with_reducible rfl)))
          try simp only [Act.put, List.getElem_toArray, List.getElem_cons_zero, List.getElem_cons_succ, List.setIfInBounds_toArray, List.set_cons_zero, List.set_cons_succ]
          refine wpAnyH_take (i := 12) (v := ?v31) rfl (by kernel_rfl) (by kernel_rfl) (by kernel_rfl) (fun _ _ _ h => h) (Or.inl ⟨by rfl, ?y31⟩) (by assumption) ?r31
          case y31 => (intro w hSw; have c0 := hSw.2.1; (go_simp <;> first | with_reducible rfl | (rw [if_pos (by omega)] <;> with_reducible rfl)))
          try simp only [Act.put, List.getElem_toArray, List.getElem_cons_zero, List.getElem_cons_succ, List.setIfInBounds_toArray, List.set_cons_zero, List.set_cons_succ]
          refine wpAnyH_take (i := 13) (v := ?v32) rfl (by kernel_rfl) (by kernel_rfl) (by kernel_rfl) (fun _ _ _ h => h) (Or.inl ⟨by rfl, ?y32⟩) (by assumption) ?r32
          case y32 => (intro w hSw; have hwi := HWI.out; (go_simp <;> first | with_reducible rfl | (rw [if_pos (by omega)] <;> with_reducible rfl)))
          try simp only [Act.put, List.getElem_toArray, List.getElem_cons_zero, List.getElem_cons_succ, List.setIfInBounds_toArray, List.set_cons_zero, List.set_cons_succ]
          refine wpAnyH_take (i := 14) (v := ?v33) rfl (by kernel_rfl) (by kernel_rfl) (by kernel_rfl) (fun _ _ _ h => h) (Or.inl ⟨by rfl, ?y33⟩) (by assumption) ?r33
          case y33 => (intro w hSw; (go_simp <;> first | with_reducible rfl | (rw [if_pos (by omega)] <;> with_reducible rfl)))
          try simp only [Act.put, List.getElem_toArray, List.getElem_cons_zero, List.getElem_cons_succ, List.setIfInBounds_toArray, List.set_cons_zero, List.set_cons_succ]
          refine wpAnyH_take (i := 15) (v := ?v34) rfl (by kernel_rfl) (by kernel_rfl) (by kernel_rfl) (fun _ _ _ h => h) (Or.inl ⟨by rfl, ?y34⟩) (by assumption) ?r34
          case y34 => (intro w hSw; (go_simp <;> first | with_reducible rfl | (rw [if_pos (by omega)] <;> with_reducible rfl)))
          try simp only [Act.put, List.getElem_toArray, List.getElem_cons_zero, List.getElem_cons_succ, List.setIfInBounds_toArray, List.set_cons_zero, List.set_cons_succ]
          refine wpAnyH_take (i := 16) rfl (by kernel_rfl) (by kernel_rfl) (by kernel_rfl) (fun _ _ _ h => h) (yieldsIf_load_mid (by rfl) _ _ rfl _ _ rfl (arrL n) _ (fun w h => h.2.2) (Tryd.underlying42) rfl (HINFA.out)) (by assumption) ?_
          try simp only [Act.put, List.getElem_toArray, List.getElem_cons_zero, List.getElem_cons_succ, List.setIfInBounds_toArray, List.set_cons_zero, List.set_cons_succ]
          refine wpAnyH_ready (rs := [17]) (by kernel_rfl) (by simp) ?_
          refine AllReadyH.cons rfl (fun K hK => ?_) AllReadyH.nil
          rw [if_pos (by rfl)]
          go_simp
          go_at_call 66
          refine (RE.out _).mono ?_
          rintro e wq ⟨rfl, hb⟩
          refine hK.out _ _ (⟨bthen hHeld.1 hb, (hb.cell (p := ⟨w.heap.size, k, none⟩) (Nat.lt_of_lt_of_le HZS.out hHeld.1.size)).trans hHeld.2.1, range_grow hHeld.2.2 (Nat.lt_of_lt_of_le HGA.out hHeld.1.size) hb⟩) (fun hHeld => ?_)
          clear hK K
          try simp only [Act.put, List.getElem_toArray, List.getElem_cons_zero, List.getElem_cons_succ, List.setIfInBounds_toArray, List.set_cons_zero, List.set_cons_succ]
          refine wpAnyH_take (i := 18) (v := ?v35) rfl (by kernel_rfl) (by kernel_rfl) (by kernel_rfl) (fun _ _ _ h => h) (Or.inl ⟨by rfl, ?y35⟩) (by assumption) ?r35
          case y35 => (intro w hSw; (go_simp <;> first | with_reducible rfl | (rw [if_pos (by omega)] <;> with_reducible rfl)))
          try simp only [Act.put, List.getElem_toArray, List.getElem_cons_zero, List.getElem_cons_succ, List.setIfInBounds_toArray, List.set_cons_zero, List.set_cons_succ]
          refine wpAnyH_done (by kernel_rfl) ?_ _
          go_wp2_with (at_builtin; refine wpList_append_own _ rfl _ _ 40 rfl (w.heap.size + 2) 3 i0 (.int .i64 0) 1 8 Tryd.underlying40 hi hz0 hz1 hz2 rfl (by decide) _ _ _ rfl ((HO.out.grow hHeld.1).alloc _) ⟨wq.heap.size, 0, none⟩ 1 1 [.int .i64 (k : Int)] rfl rfl ?c1 ?c2 ?c3 ?c4 ?c5 ?_)
          case c1 => exact (cell_one_new _ _ _)
          case c2 => simp [Value.oneCell']
          case c3 => simp [maxLen]; omega
          case c4 => first | omega | (simp; omega)
          case c5 => have := hHeld.1.size; first | omega | (simp; omega)
          intro v' w5 hown hgrow _
          have hB2 := ((HW.out.trans (hHeld.1.mono hs)).alloc (Nat.le_trans hs hHeld.1.size) _).grown hgrow (by have := hHeld.1.size; simp; omega) (fun b hb => (HO.out.lt b hb).1)
          have ho2 : Own w5 (w.heap.size + 2) v' (onL z t s n (k + 1)) := by
            rw [HST.out]
            unfold Own
            rw [List.length_append, List.map_append]
            exact hown
          have hs2 : w.heap.size + 2 ≤ w5.heap.size := by have := hgrow.size; have := hHeld.1.size; simp at *; omega
          have HB2 := Lib.hid hB2
          have HO2 := Lib.hid ho2
          clear hB2 ho2 hown hgrow HO HST HW hHeld
          go_wp2
          go_roundw
          case rel => exact ⟨k + 1, by omega, by go_num, HO2.out, HB2.out, hs2⟩
          case measure => simp [intOf]; omega
        · rw [Bool.not_eq_true] at hr
          rw [hr] at RE hb
          rw [if_neg (by rw [hb]; decide)] at hst
          have HST := Lib.hid hst
          clear hst hb hr hsd
          generalize sideF (at8 z k) = sd at SI b0
          generalize at8 z k = x at *
          go_wp2_with fail
          refine wp_region_held_drew (S := fun W => Below wr.heap.size wr W ∧ W.cell? ⟨w.heap.size, k, none⟩ = some (.int .i8 x) ∧ W.rangeAt (w.heap.size + 1) 0 (arrL n)) (by kernel_rfl) ?_ (fun hHeld => ?_)
          · exact ⟨(bref wr).drew, HC.out, HR.out⟩
          refine wpAnyH_take (i := 0) (v := ?v36) rfl (by kernel_rfl) (by kernel_rfl) (by kernel_rfl) (fun _ _ _ h => h) (Or.inl ⟨by rfl, ?y36⟩) (by assumption) ?r36
          case y36 => (intro w hSw; (go_simp <;> first | with_reducible rfl | (rw [if_pos (by omega)] <;> with_reducible rfl)))
          try simp only [Act.put, List.getElem_toArray, List.getElem_cons_zero, List.getElem_cons_succ, List.setIfInBounds_toArray, List.set_cons_zero, List.set_cons_succ]
          refine wpAnyH_take (i := 1) (v := ?v37) rfl (by kernel_rfl) (by kernel_rfl) (by kernel_rfl) (fun _ _ _ h => h) (Or.inl ⟨by rfl, ?y37⟩) (by assumption) ?r37
          case y37 => (intro w hSw; (go_simp <;> first | with_reducible rfl | (rw [if_pos (by omega)] <;> with_reducible rfl)))
          try simp only [Act.put, List.getElem_toArray, List.getElem_cons_zero, List.getElem_cons_succ, List.setIfInBounds_toArray, List.set_cons_zero, List.set_cons_succ]
          refine wpAnyH_take (i := 2) (v := ?v38) rfl (by kernel_rfl) (by kernel_rfl) (by kernel_rfl) (fun _ _ _ h => h) (Or.inl ⟨by rfl, ?y38⟩) (by assumption) ?r38
          case y38 => (intro w hSw; (go_simp <;> first | with_reducible rfl | (rw [if_pos (by omega)] <;> with_reducible rfl)))
          try simp only [Act.put, List.getElem_toArray, List.getElem_cons_zero, List.getElem_cons_succ, List.setIfInBounds_toArray, List.set_cons_zero, List.set_cons_succ]
          refine wpAnyH_take (i := 3) (v := ?v39) rfl (by kernel_rfl) (by kernel_rfl) (by kernel_rfl) (fun _ _ _ h => h) (Or.inl ⟨by rfl, ?y39⟩) (by assumption) ?r39
          case y39 => (intro w hSw; have c0 := hSw.2.1; (go_simp <;> first | with_reducible rfl | (rw [if_pos (by omega)] <;> with_reducible rfl)))
          try simp only [Act.put, List.getElem_toArray, List.getElem_cons_zero, List.getElem_cons_succ, List.setIfInBounds_toArray, List.set_cons_zero, List.set_cons_succ]
          refine wpAnyH_take (i := 4) (v := ?v40) rfl (by kernel_rfl) (by kernel_rfl) (by kernel_rfl) (fun _ _ _ h => h) (Or.inl ⟨by rfl, ?y40⟩) (by assumption) ?r40
          case y40 => (intro w hSw; have hwi := HWI.out; (go_simp <;> first | with_reducible rfl | (rw [if_pos (by omega)] <;> with_reducible rfl)))
          try simp only [Act.put, List.getElem_toArray, List.getElem_cons_zero, List.getElem_cons_succ, List.setIfInBounds_toArray, List.set_cons_zero, List.set_cons_succ]
          refine wpAnyH_take (i := 6) (v := ?v41) rfl (by kernel_rfl) (by kernel_rfl) (by kernel_rfl) (fun _ _ _ h => h) (Or.inl ⟨by rfl, ?y41⟩) (by assumption) ?r41
          case y41 => (intro w hSw; (go_simp <;> first | with_reducible rfl | (rw [if_pos (by omega)] <;> with_reducible rfl)))
          try simp only [Act.put, List.getElem_toArray, List.getElem_cons_zero, List.getElem_cons_succ, List.setIfInBounds_toArray, List.set_cons_zero, List.set_cons_succ]
          refine wpAnyH_ready (rs := [5]) (by kernel_rfl) (by simp) ?_
          refine AllReadyH.cons rfl (fun K hK => ?_) AllReadyH.nil
          rw [if_pos (by rfl)]
          go_simp
          go_at_call 35
          refine (SI.out _).mono ?_
          rintro e wo ⟨rfl, rfl⟩
          refine hK.out _ _ (hHeld) (fun hHeld => ?_)
          clear hK K
          try simp only [Act.put, List.getElem_toArray, List.getElem_cons_zero, List.getElem_cons_succ, List.setIfInBounds_toArray, List.set_cons_zero, List.set_cons_succ]
          refine wpAnyH_take (i := 7) (v := ?v42) rfl (by kernel_rfl) (by kernel_rfl) (by kernel_rfl) (fun _ _ _ h => h) (Or.inl ⟨by rfl, ?y42⟩) (by assumption) ?r42
          case y42 => (intro w hSw; (go_simp <;> first | with_reducible rfl | (rw [if_pos (by omega)] <;> with_reducible rfl)))
          try simp only [Act.put, List.getElem_toArray, List.getElem_cons_zero, List.getElem_cons_succ, List.setIfInBounds_toArray, List.set_cons_zero, List.set_cons_succ]
          refine wpAnyH_take (i := 8) (v := ?v43) rfl (by kernel_rfl) (by kernel_rfl) (by kernel_rfl) (fun _ _ _ h => h) (Or.inl ⟨by rfl, ?y43⟩) (by assumption) ?r43
          case y43 => (intro w hSw; (go_simp <;> first | with_reducible rfl | (rw [if_pos (by omega)] <;> with_reducible rfl)))
          try simp only [Act.put, List.getElem_toArray, List.getElem_cons_zero, List.getElem_cons_succ, List.setIfInBounds_toArray, List.set_cons_zero, List.set_cons_succ]
          refine wpAnyH_take (i := 9) (v := ?v44) rfl (by kernel_rfl) (by kernel_rfl) (by kernel_rfl) (fun _ _ _ h => h) (Or.inl ⟨by rfl, ?y44⟩) (by assumption) ?r44
          case y44 => (intro w hSw; (go_simp <;> first | with_reducible rfl | (rw [if_pos (by omega)] <;> with_reducible rfl)))
          try simp only [Act.put, List.getElem_toArray, List.getElem_cons_zero, List.getElem_cons_succ, List.setIfInBounds_toArray, List.set_cons_zero, List.set_cons_succ]
          refine wpAnyH_take (i := 10) (v := ?v45) rfl (by kernel_rfl) (by kernel_rfl) (by kernel_rfl) (fun _ _ _ h => h) (Or.inl ⟨by rfl, ?y45⟩) (by assumption) ?r45
          case y45 => (intro w hSw; (go_simp <;> first | with_reducible rfl | (rw [if_pos (by omega)] <;> with_reducible rfl)))
          try simp only [Act.put, List.getElem_toArray, List.getElem_cons_zero, List.getElem_cons_succ, List.setIfInBounds_toArray, List.set_cons_zero, List.set_cons_succ]
          refine wpAnyH_take (i := 11) (v := ?v46) rfl (by kernel_rfl) (by kernel_rfl) (by kernel_rfl) (fun _ _ _ h => h) (Or.inl ⟨by rfl, ?y46⟩) (by assumption) ?r46
          case y46 => (intro w hSw; (go_simp <;> first | with_reducible rfl | (rw [if_pos (by omega)] <;> with_reducible rfl)))
          try simp only [Act.put, List.getElem_toArray, List.getElem_cons_zero, List.getElem_cons_succ, List.setIfInBounds_toArray, List.set_cons_zero, List.set_cons_succ]
          refine wpAnyH_take (i := 12) (v := ?v47) rfl (by kernel_rfl) (by kernel_rfl) (by kernel_rfl) (fun _ _ _ h => h) (Or.inl ⟨by rfl, ?y47⟩) (by assumption) ?r47
          case y47 => (intro w hSw; have c0 := hSw.2.1; (go_simp <;> first | with_reducible rfl | (rw [if_pos (by omega)] <;> with_reducible rfl)))
          try simp only [Act.put, List.getElem_toArray, List.getElem_cons_zero, List.getElem_cons_succ, List.setIfInBounds_toArray, List.set_cons_zero, List.set_cons_succ]
          refine wpAnyH_take (i := 13) (v := ?v48) rfl (by kernel_rfl) (by kernel_rfl) (by kernel_rfl) (fun _ _ _ h => h) (Or.inl ⟨by rfl, ?y48⟩) (by assumption) ?r48
          case y48 => (intro w hSw; have hwi := HWI.out; (go_simp <;> first | with_reducible rfl | (rw [if_pos (by omega)] <;> with_reducible rfl)))
          try simp only [Act.put, List.getElem_toArray, List.getElem_cons_zero, List.getElem_cons_succ, List.setIfInBounds_toArray, List.set_cons_zero, List.set_cons_succ]
          refine wpAnyH_take (i := 14) (v := ?v49) rfl (by kernel_rfl) (by kernel_rfl) (by kernel_rfl) (fun _ _ _ h => h) (Or.inl ⟨by rfl, ?y49⟩) (by assumption) ?r49
          case y49 => (intro w hSw; (go_simp <;> first | with_reducible rfl | (rw [if_pos (by omega)] <;> with_reducible rfl)))
          try simp only [Act.put, List.getElem_toArray, List.getElem_cons_zero, List.getElem_cons_succ, List.setIfInBounds_toArray, List.set_cons_zero, List.set_cons_succ]
          refine wpAnyH_take (i := 15) (v := ?v50) rfl (by kernel_rfl) (by kernel_rfl) (by kernel_rfl) (fun _ _ _ h => h) (Or.inl ⟨by rfl, ?y50⟩) (by assumption) ?r50
          case y50 => (intro w hSw; (go_simp <;> first | with_reducible rfl | (rw [if_pos (by omega)] <;> with_reducible rfl)))
          try simp only [Act.put, List.getElem_toArray, List.getElem_cons_zero, List.getElem_cons_succ, List.setIfInBounds_toArray, List.set_cons_zero, List.set_cons_succ]
          refine wpAnyH_take (i := 16) rfl (by kernel_rfl) (by kernel_rfl) (by kernel_rfl) (fun _ _ _ h => h) (yieldsIf_load_mid (by rfl) _ _ rfl _ _ rfl (arrL n) _ (fun w h => h.2.2) (Tryd.underlying42) rfl (HINFA.out)) (by assumption) ?_
          try simp only [Act.put, List.getElem_toArray, List.getElem_cons_zero, List.getElem_cons_succ, List.setIfInBounds_toArray, List.set_cons_zero, List.set_cons_succ]
          refine wpAnyH_ready (rs := [17]) (by kernel_rfl) (by simp) ?_
          refine AllReadyH.cons rfl (fun K hK => ?_) AllReadyH.nil
          rw [if_pos (by rfl)]
          go_simp
          go_at_call 66
          refine (RE.out _).mono ?_
          rintro e wq ⟨rfl, hb⟩
          refine hK.out _ _ (⟨bthen hHeld.1 hb, (hb.cell (p := ⟨w.heap.size, k, none⟩) (Nat.lt_of_lt_of_le HZS.out hHeld.1.size)).trans hHeld.2.1, range_grow hHeld.2.2 (Nat.lt_of_lt_of_le HGA.out hHeld.1.size) hb⟩) (fun hHeld => ?_)
          clear hK K
          try simp only [Act.put, List.getElem_toArray, List.getElem_cons_zero, List.getElem_cons_succ, List.setIfInBounds_toArray, List.set_cons_zero, List.set_cons_succ]
          refine wpAnyH_take (i := 18) (v := ?v51) rfl (by kernel_rfl) (by kernel_rfl) (by kernel_rfl) (fun _ _ _ h => h) (Or.inl ⟨by rfl, ?y51⟩) (by assumption) ?r51
          case y51 => (intro w hSw; (go_simp <;> first | with_reducible rfl | (rw [if_pos (by omega)] <;> with_reducible rfl)))
          try simp only [Act.put, List.getElem_toArray, List.getElem_cons_zero, List.getElem_cons_succ, List.setIfInBounds_toArray, List.set_cons_zero, List.set_cons_succ]
          refine wpAnyH_done (by kernel_rfl) ?_ _
          go_wp2
          go_roundw
          case rel => exact ⟨k + 1, by omega, by go_num, by rw [HST.out]; exact HO.out.grow hHeld.1, HW.out.trans (hHeld.1.mono hs), Nat.le_trans hs hHeld.1.size⟩
          case measure => simp [intOf]; omega
      · rw [decide_eq_false hsd, Bool.false_and] at hb
        rw [if_neg (by rw [hb]; decide)] at hst
        have b0 : (sideF (at8 z k) == s) = false := by simpa using hsd
        have HST := Lib.hid hst
        clear hst hb hsd RE
        generalize sideF (at8 z k) = sd at SI b0
        generalize at8 z k = x at *
        go_wp2_with fail
        refine wp_region_held_drew (S := fun W => Below wr.heap.size wr W ∧ W.cell? ⟨w.heap.size, k, none⟩ = some (.int .i8 x) ∧ W.rangeAt (w.heap.size + 1) 0 (arrL n)) (by kernel_rfl) ?_ (fun hHeld => ?_)
        · exact ⟨(bref wr).drew, HC.out, HR.out⟩
        refine wpAnyH_take (i := 0) (v := ?v1) rfl (by kernel_rfl) (by kernel_rfl) (by kernel_rfl) (fun _ _ _ h => h) (Or.inl ⟨by rfl, ?y1⟩) (by assumption) ?r1
        case y1 => (intro w hSw; (go_simp <;> first | with_reducible rfl | (rw [if_pos (by omega)] <;> with_reducible rfl)))
        try simp only [Act.put, List.getElem_toArray, List.getElem_cons_zero, List.getElem_cons_succ, List.setIfInBounds_toArray, List.set_cons_zero, List.set_cons_succ]
        refine wpAnyH_take (i := 1) (v := ?v2) rfl (by kernel_rfl) (by kernel_rfl) (by kernel_rfl) (fun _ _ _ h => h) (Or.inl ⟨by rfl, ?y2⟩) (by assumption) ?r2
        case y2 => (intro w hSw; (go_simp <;> first | with_reducible rfl | (rw [if_pos (by omega)] <;> with_reducible rfl)))
        try simp only [Act.put, List.getElem_toArray, List.getElem_cons_zero, List.getElem_cons_succ, List.setIfInBounds_toArray, List.set_cons_zero, List.set_cons_succ]
        refine wpAnyH_take (i := 2) (v := ?v3) rfl (by kernel_rfl) (by kernel_rfl) (by kernel_rfl) (fun _ _ _ h => h) (Or.inl ⟨by rfl, ?y3⟩) (by assumption) ?r3
        case y3 => (intro w hSw; (go_simp <;> first | with_reducible rfl | (rw [if_pos (by omega)] <;> with_reducible rfl)))
        try simp only [Act.put, List.getElem_toArray, List.getElem_cons_zero, List.getElem_cons_succ, List.setIfInBounds_toArray, List.set_cons_zero, List.set_cons_succ]
        refine wpAnyH_take (i := 3) (v := ?v4) rfl (by kernel_rfl) (by kernel_rfl) (by kernel_rfl) (fun _ _ _ h => h) (Or.inl ⟨by rfl, ?y4⟩) (by assumption) ?r4
        case y4 => (intro w hSw; have c0 := hSw.2.1; (go_simp <;> first | with_reducible rfl | (rw [if_pos (by omega)] <;> with_reducible rfl)))
        try simp only [Act.put, List.getElem_toArray, List.getElem_cons_zero, List.getElem_cons_succ, List.setIfInBounds_toArray, List.set_cons_zero, List.set_cons_succ]
        refine wpAnyH_take (i := 4) (v := ?v5) rfl (by kernel_rfl) (by kernel_rfl) (by kernel_rfl) (fun _ _ _ h => h) (Or.inl ⟨by rfl, ?y5⟩) (by assumption) ?r5
        case y5 => (intro w hSw; have hwi := HWI.out; (go_simp <;> first | with_reducible rfl | (rw [if_pos (by omega)] <;> with_reducible rfl)))
        try simp only [Act.put, List.getElem_toArray, List.getElem_cons_zero, List.getElem_cons_succ, List.setIfInBounds_toArray, List.set_cons_zero, List.set_cons_succ]
        refine wpAnyH_take (i := 6) (v := ?v6) rfl (by kernel_rfl) (by kernel_rfl) (by kernel_rfl) (fun _ _ _ h => h) (Or.inl ⟨by rfl, ?y6⟩) (by assumption) ?r6
        case y6 => (intro w hSw; (go_simp <;> first | with_reducible rfl | (rw [if_pos (by omega)] <;> with_reducible rfl)))
        try simp only [Act.put, List.getElem_toArray, List.getElem_cons_zero, List.getElem_cons_succ, List.setIfInBounds_toArray, List.set_cons_zero, List.set_cons_succ]
        refine wpAnyH_ready (rs := [5]) (by kernel_rfl) (by simp) ?_
        refine AllReadyH.cons rfl (fun K hK => ?_) AllReadyH.nil
        rw [if_pos (by rfl)]
        go_simp
        go_at_call 35
        refine (SI.out _).mono ?_
        rintro e wo ⟨rfl, rfl⟩
        refine hK.out _ _ (hHeld) (fun hHeld => ?_)
        clear hK K
        try simp only [Act.put, List.getElem_toArray, List.getElem_cons_zero, List.getElem_cons_succ, List.setIfInBounds_toArray, List.set_cons_zero, List.set_cons_succ]
        refine wpAnyH_take (i := 7) (v := ?v7) rfl (by kernel_rfl) (by kernel_rfl) (by kernel_rfl) (fun _ _ _ h => h) (Or.inl ⟨by rfl, ?y7⟩) (by assumption) ?r7
        case y7 => (intro w hSw; (go_simp <;> first | with_reducible rfl | (rw [if_pos (by omega)] <;> with_reducible rfl)))
        try simp only [Act.put, List.getElem_toArray, List.getElem_cons_zero, List.getElem_cons_succ, List.setIfInBounds_toArray, List.set_cons_zero, List.set_cons_succ]
        refine wpAnyH_take (i := 8) (v := ?v8) rfl (by kernel_rfl) (by kernel_rfl) (by kernel_rfl) (fun _ _ _ h => h) (Or.inl ⟨by rfl, ?y8⟩) (by assumption) ?r8
        case y8 => (intro w hSw; (go_simp <;> first | with_reducible rfl | (rw [if_pos (by omega)] <;> with_reducible rfl)))
        try simp only [Act.put, List.getElem_toArray, List.getElem_cons_zero, List.getElem_cons_succ, List.setIfInBounds_toArray, List.set_cons_zero, List.set_cons_succ]
        refine wpAnyH_take (i := 9) (v := undef) rfl (by kernel_rfl) (by kernel_rfl) (by kernel_rfl) (fun _ _ _ h => h) (Or.inr ⟨by rfl, rfl⟩) (by assumption) ?_
        try simp only [Act.put, List.getElem_toArray, List.getElem_cons_zero, List.getElem_cons_succ, List.setIfInBounds_toArray, List.set_cons_zero, List.set_cons_succ]
        refine wpAnyH_take (i := 10) (v := undef) rfl (by kernel_rfl) (by kernel_rfl) (by kernel_rfl) (fun _ _ _ h => h) (Or.inr ⟨by rfl, rfl⟩) (by assumption) ?_
        try simp only [Act.put, List.getElem_toArray, List.getElem_cons_zero, List.getElem_cons_succ, List.setIfInBounds_toArray, List.set_cons_zero, List.set_cons_succ]
        refine wpAnyH_take (i := 11) (v := undef) rfl (by kernel_rfl) (by kernel_rfl) (by kernel_rfl) (fun _ _ _ h => h) (Or.inr ⟨by rfl, rfl⟩) (by assumption) ?_
        try simp only [Act.put, List.getElem_toArray, List.getElem_cons_zero, List.getElem_cons_succ, List.setIfInBounds_toArray, List.set_cons_zero, List.set_cons_succ]
        refine wpAnyH_take (i := 12) (v := undef) rfl (by kernel_rfl) (by kernel_rfl) (by kernel_rfl) (fun _ _ _ h => h) (Or.inr ⟨by rfl, rfl⟩) (by assumption) ?_
        try simp only [Act.put, List.getElem_toArray, List.getElem_cons_zero, List.getElem_cons_succ, List.setIfInBounds_toArray, List.set_cons_zero, List.set_cons_succ]
        refine wpAnyH_take (i := 13) (v := undef) rfl (by kernel_rfl) (by kernel_rfl) (by kernel_rfl) (fun _ _ _ h => h) (Or.inr ⟨by rfl, rfl⟩) (by assumption) ?_
        try simp only [Act.put, List.getElem_toArray, List.getElem_cons_zero, List.getElem_cons_succ, List.setIfInBounds_toArray, List.set_cons_zero, List.set_cons_succ]
        refine wpAnyH_take (i := 14) (v := undef) rfl (by kernel_rfl) (by kernel_rfl) (by kernel_rfl) (fun _ _ _ h => h) (Or.inr ⟨by rfl, rfl⟩) (by assumption) ?_
        try simp only [Act.put, List.getElem_toArray, List.getElem_cons_zero, List.getElem_cons_succ, List.setIfInBounds_toArray, List.set_cons_zero, List.set_cons_succ]
        refine wpAnyH_take (i := 15) (v := undef) rfl (by kernel_rfl) (by kernel_rfl) (by kernel_rfl) (fun _ _ _ h => h) (Or.inr ⟨by rfl, rfl⟩) (by assumption) ?_
        try simp only [Act.put, List.getElem_toArray, List.getElem_cons_zero, List.getElem_cons_succ, List.setIfInBounds_toArray, List.set_cons_zero, List.set_cons_succ]
        refine wpAnyH_take (i := 16) (v := undef) rfl (by kernel_rfl) (by kernel_rfl) (by kernel_rfl) (fun _ _ _ h => h) (Or.inr ⟨by rfl, rfl⟩) (by assumption) ?_
        try simp only [Act.put, List.getElem_toArray, List.getElem_cons_zero, List.getElem_cons_succ, List.setIfInBounds_toArray, List.set_cons_zero, List.set_cons_succ]
        refine wpAnyH_take (i := 17) (v := undef) rfl (by kernel_rfl) (by kernel_rfl) (by kernel_rfl) (fun _ _ _ h => h) (Or.inr ⟨by rfl, rfl⟩) (by assumption) ?_
        try simp only [Act.put, List.getElem_toArray, List.getElem_cons_zero, List.getElem_cons_succ, List.setIfInBounds_toArray, List.set_cons_zero, List.set_cons_succ]
        refine wpAnyH_take (i := 18) (v := ?v9) rfl (by kernel_rfl) (by kernel_rfl) (by kernel_rfl) (fun _ _ _ h => h) (Or.inl ⟨by rfl, ?y9⟩) (by assumption) ?r9
        case y9 => (intro w hSw; (go_simp <;> first | with_reducible rfl | (rw [if_pos (by omega)] <;> with_reducible rfl)))
        try simp only [Act.put, List.getElem_toArray, List.getElem_cons_zero, List.getElem_cons_succ, List.setIfInBounds_toArray, List.set_cons_zero, List.set_cons_succ]
        refine wpAnyH_done (by kernel_rfl) ?_ _
        go_wp2
        go_roundw
        case rel => exact ⟨k + 1, by omega, by go_num, by rw [HST.out]; exact HO.out.grow hHeld.1, HW.out.trans (hHeld.1.mono hs), Nat.le_trans hs hHeld.1.size⟩
        case measure => simp [intOf]; omega
    · obtain rfl : k = 81 := by omega
      go_wp2
      go_ret
      refine ⟨_, rfl, HO.out.mono (by omega), ?_⟩
      have h2 := HSZ.out
      exact HB0.out.trans (hW.mono (by omega))
theorem refAt_any (z : List Int) (q s : Int) (n : Nat) (hz : z.length = 98) (h8 : I8s z) (w : World) :
    Calls Tryd.prog 22 #[.agg (posC z).toArray, .int .i64 q, .int .i64 s, .agg (arrL n).toArray] w fun e w' => ∃ v, e = .returned v ∧ Own w' w.heap.size v (if 0 ≤ q ∧ q < 81 then onL z q s n 81 else []) ∧ Below w.heap.size w w' := by
  by_cases hq : 0 ≤ q ∧ q < 81
  · rw [if_pos hq]
    obtain ⟨t, rfl⟩ : ∃ t : Nat, q = t := ⟨q.toNat, by omega⟩
    exact refAt_in z t s n (by omega) hz h8 w
  · rw [if_neg hq]
    by_cases h0 : q < 0
    · clear hq
      go_enter Tryd.func22, Tryd.ntmps22
      go_wp2
      go_ret
      exact ⟨_, rfl, World.ownsRow_nil _ _ _ _, ball (ball (bref w) _) _⟩
    · have h1 : 80 < q := by omega
      clear hq
      go_enter Tryd.func22, Tryd.ntmps22
      go_wp2
      go_ret
      exact ⟨_, rfl, World.ownsRow_nil _ _ _ _, ball (ball (bref w) _) _⟩

/-! InCheck. -/
theorem king_rng (z : List Int) (s : Int) : kingF z s = -1 ∨ (0 ≤ kingF z s ∧ kingF z s < 81) := by
  unfold kingF
  by_cases h : pieceN z (ofF s 8) = 0
  · rw [h]; exact .inl first_none
  · right
    have hf := first_sq _ (pieceN_sq z (ofF s 8)) h
    exact sqI_in _ _ (List.mem_of_mem_head? hf)
theorem in_yes (z : List Int) (s : Int) (hs : s = 0 ∨ s = 1) (kq : Nat) (hk : kingF z s = kq) (hq : kq < 81) (hc : Clean z) (i : Nat) (hi : i < 81) (h : onB z kq (1 - s) (nzN z) i = true) : inF z s = true := by
  rw [onB_test z kq (1 - s) _ i (by omega) hq hi, nzN_taken z hc] at h
  unfold inF chkN
  rw [hk, Bool.not_eq_true', decide_eq_false_iff_not]
  intro e
  rw [e, Nat.zero_testBit] at h
  cases h
theorem in_no (z : List Int) (s : Int) (hs : s = 0 ∨ s = 1) (kq : Nat) (hk : kingF z s = kq) (hq : kq < 81) (hc : Clean z) (h : ∀ i, i < 81 → onB z kq (1 - s) (nzN z) i = false) : inF z s = false := by
  unfold inF chkN
  rw [hk, Bool.not_eq_false', decide_eq_true_eq]
  refine eq_of_bits81 (onN_sq _ _ _ _) Sq.zero fun i hi => ?_
  rw [← nzN_taken z hc, ← onB_test z kq (1 - s) _ i (by omega) hq hi, h i hi, Nat.zero_testBit]
theorem in_none (z : List Int) (s : Int) (hk : kingF z s = -1) : inF z s = false := by
  unfold inF chkN
  rw [hk, onN_out _ _ _ _ (by omega)]
  rfl
set_option maxHeartbeats 4000000 in
theorem refInCheck_any (z : List Int) (s : Int) (hs : s = 0 ∨ s = 1) (hz : z.length = 98) (h8 : I8s z) (hc : Clean z) (w : World) :
    Calls Tryd.prog 30 #[.agg (posC z).toArray, .int .i64 s] w fun e w' => e = .returned (.bool (inF z s)) ∧ Below w.heap.size w w' := by
  have TK := Lib.hid (fun W => refTaken_any z hz W)
  rw [← arrL_arr] at TK
  have KI := Lib.hid (fun W => refKing_any z s hs hz h8 W)
  have hkr := king_rng z s
  have HY := Lib.hid (fun kq (e : kingF z s = (kq : Nat)) h => in_yes z s hs kq e h hc)
  have HN := Lib.hid (fun kq (e : kingF z s = (kq : Nat)) h => in_no z s hs kq e h hc)
  have HNO := Lib.hid (in_none z s)
  have HP := Lib.hid (PosAt.new w z)
  have HB := Lib.hid (ball (bref w) (.cells (posC z).toArray 28))
  have HINF := Lib.hid (show (Tryd.prog.info? 28).map (·.size) = some (posC z).length by rw [posC_len, hz]; exact infoPos)
  have ho1 : IntKind.i64.wrap (1 - s) = 1 - s := by rw [wrap_i64_eq]; exact wrap_other s hs
  have ho2 : wrap64 (1 - s) = 1 - s := wrap_other s hs
  have HZ := Lib.hid hz
  have H8 := Lib.hid h8
  have hz0 := zero_arrB
  clear hz h8 hc hs
  generalize hn : nzN z = n at *
  clear hn
  have HINFA := Lib.hid (show (Tryd.prog.info? 42).map (·.size) = some (arrL n).length by rw [arrL_len]; kernel_rfl)
  have HINFB := Lib.hid (show (Tryd.prog.info? 42).map (·.size) = some (arrL n).toArray.size by rw [List.size_toArray]; exact HINFA.out)
  have HSA := Lib.hid (show zA.size = (arrL n).toArray.size by simp [zA, arrL])
  have HONE := Lib.hid (show (arrL n).toArray.all (·.oneCell') = true from all_bool _ _)
  generalize hrr : inF z s = rr at *
  generalize hkk : kingF z s = kk at *
  go_enter Tryd.func30, Tryd.ntmps30
  go_upto_region 2 with (first
    | (refine wpList_load_mid rfl 28 _ rfl w.heap.size 0 rfl (posC z) _ HP.out.range Tryd.underlying28 rfl HINF.out ?_)
    | (go_at_call 25; refine (TK.out _).mono ?_; rintro e w1 ⟨rfl, hb1⟩; have HB := Lib.hid (bthen HB.out hb1); have HP := Lib.hid (HP.out.grow hb1); clear hb1)
    | (refine wpList_store_row rfl 42 _ _ rfl w1.heap.size (arrL n).toArray rfl rfl 42 zA (heap_alloc_new w1 _) HINFB.out HSA.out HONE.out ?_))
  have R2 := Lib.hid (show ((w1.alloc (.cells zA 42)).setRow w1.heap.size (arrL n).toArray).heap[w1.heap.size]? = some (.cells (arrL n).toArray 42) from setRow_heap _ _ _ _ _ _ (heap_alloc_new w1 _))
  have hb2 : Below w1.heap.size w1 ((w1.alloc (.cells zA 42)).setRow w1.heap.size (arrL n).toArray) := below_row (ball (bref w1) _) (Nat.le_refl _) _
  have HB := Lib.hid (bthen HB.out hb2)
  have HP := Lib.hid (HP.out.grow hb2)
  have HL2 := Lib.hid (show w1.heap.size < ((w1.alloc (.cells zA 42)).setRow w1.heap.size (arrL n).toArray).heap.size by simp)
  clear hb2
  generalize (w1.alloc (.cells zA 42)).setRow w1.heap.size (arrL n).toArray = w2 at *
  generalize w1.heap.size = ga at *
  go_upto_region 3 with (first
    | (refine wpList_load_mid rfl 28 _ rfl w.heap.size 0 rfl (posC z) _ HP.out.range Tryd.underlying28 rfl HINF.out ?_)
    | (go_at_call 32; refine (KI.out _).mono ?_; rintro e w3 ⟨rfl, hb3⟩; have HB := Lib.hid (bthen HB.out hb3); have HP := Lib.hid (HP.out.grow hb3); have R2 := Lib.hid ((hb3.block _ HL2.out).trans R2.out); have hlt3 := Nat.lt_of_lt_of_le HL2.out hb3.size; clear hb3))
  rcases hkr with rfl | hkr
  · have e := HNO.out rfl
    go_wp2
    go_ret
    exact ⟨by first | rfl | (rw [e]; rfl), HB.out⟩
  · obtain ⟨kq, rfl⟩ : ∃ kq : Nat, kk = kq := ⟨kk.toNat, by omega⟩
    have ht : kq < 81 := by omega
    have n1 : ¬ (kq : Int) < 0 := by omega
    have HY := Lib.hid (HY.out kq rfl ht)
    have HN := Lib.hid (HN.out kq rfl ht)
    clear hkr KI TK HNO
    go_wp2
    go_loopw [7] (fun i wr => ∃ k : Nat, k ≤ 81 ∧ i = .int .i64 k ∧ Below w3.heap.size w3 wr ∧ ∀ i, i < k → onB z kq (1 - s) n i = false) (fun i _ => 81 - (intOf i).toNat)
    case atStart => exact ⟨0, by omega, rfl, bref _, fun i hi => by omega⟩
    case round =>
      obtain ⟨k, hk, rfl, hW, hno⟩ := hrel
      have HW := Lib.hid hW
      have HNO := Lib.hid hno
      have hzs := hW.size
      by_cases hlt : k < 81
      · have hx := H8.out.at k
        have HC := Lib.hid ((hW.cell (p := ⟨w.heap.size, k, none⟩) HP.out.lt).trans (HP.out.cell k (by rw [HZ.out]; omega)))
        have HR := Lib.hid (show wr.rangeAt ga 0 (arrL n) from row_range ((hW.block ga hlt3).trans R2.out))
        have HZS := Lib.hid (show w.heap.size < wr.heap.size from Nat.lt_of_lt_of_le HP.out.lt hzs)
        have HGA := Lib.hid (show ga < wr.heap.size from Nat.lt_of_lt_of_le hlt3 hzs)
        have HWI := Lib.hid (show IntKind.i64.wrap (at8 z k) = at8 z k by rw [wrap_i64_eq]; unfold wrap64; omega)
        have SI := Lib.hid (fun W => refSide_any (at8 z k) W hx.1 hx.2)
        have RE := Lib.hid (fun W => reaches_any (at8 z k) k kq n hx.1 hx.2 ht W)
        rw [← arrL_arr] at RE
        have hb : onB z kq (1 - s) n k = (decide (sideF (at8 z k) = 1 - s) && reachF (at8 z k) k kq n) := rfl
        clear hW hno hx hzs
        by_cases hsd : sideF (at8 z k) = 1 - s
        · rw [decide_eq_true hsd, Bool.true_and] at hb
          have b0 : (sideF (at8 z k) == 1 - s) = true := by simpa using hsd
          by_cases hr : reachF (at8 z k) k kq n = true
          · rw [hr] at RE hb
            have HE := Lib.hid (HY.out k hlt hb)
            clear hb hr hsd
            generalize sideF (at8 z k) = sd at SI b0
            generalize at8 z k = x at *
            go_wp2_with fail
            refine wp_region_held_drew (S := fun W => Below wr.heap.size wr W ∧ W.cell? ⟨w.heap.size, k, none⟩ = some (.int .i8 x) ∧ W.rangeAt ga 0 (arrL n)) (by kernel_rfl) ?_ (fun hHeld => ?_)
            · exact ⟨(bref wr).drew, HC.out, HR.out⟩
            refine wpAnyH_take (i := 0) (v := ?v52) rfl (by kernel_rfl) (by kernel_rfl) (by kernel_rfl) (fun _ _ _ h => h) (Or.inl ⟨by rfl, ?y52⟩) (by assumption) ?r52
            case y52 => (intro w hSw; (go_simp <;> first | with_reducible rfl | (rw [if_pos (by omega)] <;> with_reducible rfl)))
            try simp only [Act.put, List.getElem_toArray, List.getElem_cons_zero, List.getElem_cons_succ, List.setIfInBounds_toArray, List.set_cons_zero, List.set_cons_succ]
            refine wpAnyH_take (i := 1) (v := ?v53) rfl (by kernel_rfl) (by kernel_rfl) (by kernel_rfl) (fun _ _ _ h => h) (Or.inl ⟨by rfl, ?y53⟩) (by assumption) ?r53
            case y53 => (intro w hSw; (go_simp <;> first | with_reducible rfl | (rw [if_pos (by omega)] <;> with_reducible rfl)))
            try simp only [Act.put, List.getElem_toArray, List.getElem_cons_zero, List.getElem_cons_succ, List.setIfInBounds_toArray, List.set_cons_zero, List.set_cons_succ]
            refine wpAnyH_take (i := 2) (v := ?v54) rfl (by kernel_rfl) (by kernel_rfl) (by kernel_rfl) (fun _ _ _ h => h) (Or.inl ⟨by rfl, ?y54⟩) (by assumption) ?r54
            case y54 => (intro w hSw; (go_simp <;> first | with_reducible rfl | (rw [if_pos (by omega)] <;> with_reducible rfl)))
            try simp only [Act.put, List.getElem_toArray, List.getElem_cons_zero, List.getElem_cons_succ, List.setIfInBounds_toArray, List.set_cons_zero, List.set_cons_succ]
            refine wpAnyH_take (i := 3) (v := ?v55) rfl (by kernel_rfl) (by kernel_rfl) (by kernel_rfl) (fun _ _ _ h => h) (Or.inl ⟨by rfl, ?y55⟩) (by assumption) ?r55
            case y55 => (intro w hSw; have c0 := hSw.2.1; (go_simp <;> first | with_reducible rfl | (rw [if_pos (by omega)] <;> with_reducible rfl)))
            try simp only [Act.put, List.getElem_toArray, List.getElem_cons_zero, List.getElem_cons_succ, List.setIfInBounds_toArray, List.set_cons_zero, List.set_cons_succ]
            refine wpAnyH_take (i := 4) (v := ?v56) rfl (by kernel_rfl) (by kernel_rfl) (by kernel_rfl) (fun _ _ _ h => h) (Or.inl ⟨by rfl, ?y56⟩) (by assumption) ?r56
            case y56 => (intro w hSw; have hwi := HWI.out; (go_simp <;> first | with_reducible rfl | (rw [if_pos (by omega)] <;> with_reducible rfl)))
            try simp only [Act.put, List.getElem_toArray, List.getElem_cons_zero, List.getElem_cons_succ, List.setIfInBounds_toArray, List.set_cons_zero, List.set_cons_succ]
            refine wpAnyH_take (i := 6) (v := ?v57) rfl (by kernel_rfl) (by kernel_rfl) (by kernel_rfl) (fun _ _ _ h => h) (Or.inl ⟨by rfl, ?y57⟩) (by assumption) ?r57
            case y57 => (intro w hSw; (go_simp <;> first | with_reducible rfl | (rw [if_pos (by omega)] <;> with_reducible rfl)))
            try simp only [Act.put, List.getElem_toArray, List.getElem_cons_zero, List.getElem_cons_succ, List.setIfInBounds_toArray, List.set_cons_zero, List.set_cons_succ]
            refine wpAnyH_take (i := 7) (v := ?v58) rfl (by kernel_rfl) (by kernel_rfl) (by kernel_rfl) (fun _ _ _ h => h) (Or.inl ⟨by rfl, ?y58⟩) (by assumption) ?r58
            case y58 => (intro w hSw; (go_simp <;> first | with_reducible rfl | (rw [if_pos (by omega)] <;> with_reducible rfl)))
            try simp only [Act.put, List.getElem_toArray, List.getElem_cons_zero, List.getElem_cons_succ, List.setIfInBounds_toArray, List.set_cons_zero, List.set_cons_succ]
            refine wpAnyH_ready (rs := [5]) (by kernel_rfl) (by simp) ?_
            refine AllReadyH.cons rfl (fun K hK => ?_) AllReadyH.nil
            rw [if_pos (by rfl)]
            go_simp
            go_at_call 35
            refine (SI.out _).mono ?_
            rintro e wo ⟨rfl, rfl⟩
            refine hK.out _ _ (hHeld) (fun hHeld => ?_)
            clear hK K
            try simp only [Act.put, List.getElem_toArray, List.getElem_cons_zero, List.getElem_cons_succ, List.setIfInBounds_toArray, List.set_cons_zero, List.set_cons_succ]
            refine wpAnyH_take (i := 8) (v := ?v59) rfl (by kernel_rfl) (by kernel_rfl) (by kernel_rfl) (fun _ _ _ h => h) (Or.inl ⟨by rfl, ?y59⟩) (by assumption) ?r59
            case y59 => (intro w hSw; (go_simp <;> first | with_reducible rfl | (rw [if_pos (by omega)] <;> with_reducible rfl)))
            try simp only [Act.put, List.getElem_toArray, List.getElem_cons_zero, List.getElem_cons_succ, List.setIfInBounds_toArray, List.set_cons_zero, List.set_cons_succ]
            refine wpAnyH_take (i := 9) (v := ?v60) rfl (by kernel_rfl) (by kernel_rfl) (by kernel_rfl) (fun _ _ _ h => h) (Or.inl ⟨by rfl, ?y60⟩) (by assumption) ?r60
            case y60 => (intro w hSw; (go_simp <;> first | with_reducible rfl | (rw [if_pos (by omega)] <;> with_reducible rfl)))
            try simp only [Act.put, List.getElem_toArray, List.getElem_cons_zero, List.getElem_cons_succ, List.setIfInBounds_toArray, List.set_cons_zero, List.set_cons_succ]
            refine wpAnyH_take (i := 10) (v := ?v61) rfl (by kernel_rfl) (by kernel_rfl) (by kernel_rfl) (fun _ _ _ h => h) (Or.inl ⟨by rfl, ?y61⟩) (by assumption) ?r61
            case y61 => (intro w hSw; (go_simp <;> first | with_reducible rfl | (rw [if_pos (by omega)] <;> with_reducible rfl)))
            try simp only [Act.put, List.getElem_toArray, List.getElem_cons_zero, List.getElem_cons_succ, List.setIfInBounds_toArray, List.set_cons_zero, List.set_cons_succ]
            refine wpAnyH_take (i := 11) (v := ?v62) rfl (by kernel_rfl) (by kernel_rfl) (by kernel_rfl) (fun _ _ _ h => h) (Or.inl ⟨by rfl, ?y62⟩) (by assumption) ?r62
            case y62 => (intro w hSw; (go_simp <;> first | with_reducible rfl | (rw [if_pos (by omega)] <;> with_reducible rfl)))
            try simp only [Act.put, List.getElem_toArray, List.getElem_cons_zero, List.getElem_cons_succ, List.setIfInBounds_toArray, List.set_cons_zero, List.set_cons_succ]
            refine wpAnyH_take (i := 12) (v := ?v63) rfl (by kernel_rfl) (by kernel_rfl) (by kernel_rfl) (fun _ _ _ h => h) (Or.inl ⟨by rfl, ?y63⟩) (by assumption) ?r63
            case y63 => (intro w hSw; (go_simp <;> first | with_reducible rfl | (rw [if_pos (by omega)] <;> with_reducible rfl)))
            try simp only [Act.put, List.getElem_toArray, List.getElem_cons_zero, List.getElem_cons_succ, List.setIfInBounds_toArray, List.set_cons_zero, List.set_cons_succ]
            refine wpAnyH_take (i := 13) (v := ?v64) rfl (by kernel_rfl) (by kernel_rfl) (by kernel_rfl) (fun _ _ _ h => h) (Or.inl ⟨by rfl, ?y64⟩) (by assumption) ?r64
            case y64 => (intro w hSw; have c0 := hSw.2.1; (go_simp <;> first | with_reducible rfl | (rw [if_pos (by omega)] <;> with_reducible rfl)))
            try simp only [Act.put, List.getElem_toArray, List.getElem_cons_zero, List.getElem_cons_succ, List.setIfInBounds_toArray, List.set_cons_zero, List.set_cons_succ]
            refine wpAnyH_take (i := 14) (v := ?v65) rfl (by kernel_rfl) (by kernel_rfl) (by kernel_rfl) (fun _ _ _ h => h) (Or.inl ⟨by rfl, ?y65⟩) (by assumption) ?r65
            case y65 => (intro w hSw; have hwi := HWI.out; (go_simp <;> first | with_reducible rfl | (rw [if_pos (by omega)] <;> with_reducible rfl)))
            try simp only [Act.put, List.getElem_toArray, List.getElem_cons_zero, List.getElem_cons_succ, List.setIfInBounds_toArray, List.set_cons_zero, List.set_cons_succ]
            refine wpAnyH_take (i := 15) (v := ?v66) rfl (by kernel_rfl) (by kernel_rfl) (by kernel_rfl) (fun _ _ _ h => h) (Or.inl ⟨by rfl, ?y66⟩) (by assumption) ?r66
            case y66 => (intro w hSw; (go_simp <;> first | with_reducible rfl | (rw [if_pos (by omega)] <;> with_reducible rfl)))
            try simp only [Act.put, List.getElem_toArray, List.getElem_cons_zero, List.getElem_cons_succ, List.setIfInBounds_toArray, List.set_cons_zero, List.set_cons_succ]
            refine wpAnyH_take (i := 16) (v := ?v67) rfl (by kernel_rfl) (by kernel_rfl) (by kernel_rfl) (fun _ _ _ h => h) (Or.inl ⟨by rfl, ?y67⟩) (by assumption) ?r67
            case y67 => (intro w hSw; (go_simp <;> first | with_reducible rfl | (rw [if_pos (by omega)] <;> with_reducible rfl)))
            try simp only [Act.put, List.getElem_toArray, List.getElem_cons_zero, List.getElem_cons_succ, List.setIfInBounds_toArray, List.set_cons_zero, List.set_cons_succ]
            refine wpAnyH_take (i := 17) rfl (by kernel_rfl) (by kernel_rfl) (by kernel_rfl) (fun _ _ _ h => h) (yieldsIf_load_mid (by rfl) _ _ rfl _ _ rfl (arrL n) _ (fun w h => h.2.2) (Tryd.underlying42) rfl (HINFA.out)) (by assumption) ?_
            try simp only [Act.put, List.getElem_toArray, List.getElem_cons_zero, List.getElem_cons_succ, List.setIfInBounds_toArray, List.set_cons_zero, List.set_cons_succ]
            refine wpAnyH_ready (rs := [18]) (by kernel_rfl) (by simp) ?_
            refine AllReadyH.cons rfl (fun K hK => ?_) AllReadyH.nil
            rw [if_pos (by rfl)]
            go_simp
            go_at_call 66
            refine (RE.out _).mono ?_
            rintro e wq ⟨rfl, hb⟩
            refine hK.out _ _ (⟨bthen hHeld.1 hb, (hb.cell (p := ⟨w.heap.size, k, none⟩) (Nat.lt_of_lt_of_le HZS.out hHeld.1.size)).trans hHeld.2.1, range_grow hHeld.2.2 (Nat.lt_of_lt_of_le HGA.out hHeld.1.size) hb⟩) (fun hHeld => ?_)
            clear hK K
            try simp only [Act.put, List.getElem_toArray, List.getElem_cons_zero, List.getElem_cons_succ, List.setIfInBounds_toArray, List.set_cons_zero, List.set_cons_succ]
            refine wpAnyH_take (i := 19) (v := ?v68) rfl (by kernel_rfl) (by kernel_rfl) (by kernel_rfl) (fun _ _ _ h => h) (Or.inl ⟨by rfl, ?y68⟩) (by assumption) ?r68
            case y68 => (intro w hSw; (go_simp <;> first | with_reducible rfl | (rw [if_pos (by omega)] <;> with_reducible rfl)))
            try simp only [Act.put, List.getElem_toArray, List.getElem_cons_zero, List.getElem_cons_succ, List.setIfInBounds_toArray, List.set_cons_zero, List.set_cons_succ]
            refine wpAnyH_done (by kernel_rfl) ?_ _
            go_wp2
            go_ret
            exact ⟨by first | rfl | (rw [HE.out]; rfl), (HB.out.trans (HW.out.mono HB.out.size)).trans (hHeld.1.mono (Nat.le_of_lt HZS.out))⟩
          · rw [Bool.not_eq_true] at hr
            rw [hr] at RE hb
            have HE := Lib.hid hb
            clear hb hr hsd
            generalize sideF (at8 z k) = sd at SI b0
            generalize at8 z k = x at *
            go_wp2_with fail
            refine wp_region_held_drew (S := fun W => Below wr.heap.size wr W ∧ W.cell? ⟨w.heap.size, k, none⟩ = some (.int .i8 x) ∧ W.rangeAt ga 0 (arrL n)) (by kernel_rfl) ?_ (fun hHeld => ?_)
            · exact ⟨(bref wr).drew, HC.out, HR.out⟩
            refine wpAnyH_take (i := 0) (v := ?v69) rfl (by kernel_rfl) (by kernel_rfl) (by kernel_rfl) (fun _ _ _ h => h) (Or.inl ⟨by rfl, ?y69⟩) (by assumption) ?r69
            case y69 => (intro w hSw; (go_simp <;> first | with_reducible rfl | (rw [if_pos (by omega)] <;> with_reducible rfl)))
            try simp only [Act.put, List.getElem_toArray, List.getElem_cons_zero, List.getElem_cons_succ, List.setIfInBounds_toArray, List.set_cons_zero, List.set_cons_succ]
            refine wpAnyH_take (i := 1) (v := ?v70) rfl (by kernel_rfl) (by kernel_rfl) (by kernel_rfl) (fun _ _ _ h => h) (Or.inl ⟨by rfl, ?y70⟩) (by assumption) ?r70
            case y70 => (intro w hSw; (go_simp <;> first | with_reducible rfl | (rw [if_pos (by omega)] <;> with_reducible rfl)))
            try simp only [Act.put, List.getElem_toArray, List.getElem_cons_zero, List.getElem_cons_succ, List.setIfInBounds_toArray, List.set_cons_zero, List.set_cons_succ]
            refine wpAnyH_take (i := 2) (v := ?v71) rfl (by kernel_rfl) (by kernel_rfl) (by kernel_rfl) (fun _ _ _ h => h) (Or.inl ⟨by rfl, ?y71⟩) (by assumption) ?r71
            case y71 => (intro w hSw; (go_simp <;> first | with_reducible rfl | (rw [if_pos (by omega)] <;> with_reducible rfl)))
            try simp only [Act.put, List.getElem_toArray, List.getElem_cons_zero, List.getElem_cons_succ, List.setIfInBounds_toArray, List.set_cons_zero, List.set_cons_succ]
            refine wpAnyH_take (i := 3) (v := ?v72) rfl (by kernel_rfl) (by kernel_rfl) (by kernel_rfl) (fun _ _ _ h => h) (Or.inl ⟨by rfl, ?y72⟩) (by assumption) ?r72
            case y72 => (intro w hSw; have c0 := hSw.2.1; (go_simp <;> first | with_reducible rfl | (rw [if_pos (by omega)] <;> with_reducible rfl)))
            try simp only [Act.put, List.getElem_toArray, List.getElem_cons_zero, List.getElem_cons_succ, List.setIfInBounds_toArray, List.set_cons_zero, List.set_cons_succ]
            refine wpAnyH_take (i := 4) (v := ?v73) rfl (by kernel_rfl) (by kernel_rfl) (by kernel_rfl) (fun _ _ _ h => h) (Or.inl ⟨by rfl, ?y73⟩) (by assumption) ?r73
            case y73 => (intro w hSw; have hwi := HWI.out; (go_simp <;> first | with_reducible rfl | (rw [if_pos (by omega)] <;> with_reducible rfl)))
            try simp only [Act.put, List.getElem_toArray, List.getElem_cons_zero, List.getElem_cons_succ, List.setIfInBounds_toArray, List.set_cons_zero, List.set_cons_succ]
            refine wpAnyH_take (i := 6) (v := ?v74) rfl (by kernel_rfl) (by kernel_rfl) (by kernel_rfl) (fun _ _ _ h => h) (Or.inl ⟨by rfl, ?y74⟩) (by assumption) ?r74
            case y74 => (intro w hSw; (go_simp <;> first | with_reducible rfl | (rw [if_pos (by omega)] <;> with_reducible rfl)))
            try simp only [Act.put, List.getElem_toArray, List.getElem_cons_zero, List.getElem_cons_succ, List.setIfInBounds_toArray, List.set_cons_zero, List.set_cons_succ]
            refine wpAnyH_take (i := 7) (v := ?v75) rfl (by kernel_rfl) (by kernel_rfl) (by kernel_rfl) (fun _ _ _ h => h) (Or.inl ⟨by rfl, ?y75⟩) (by assumption) ?r75
            case y75 => (intro w hSw; (go_simp <;> first | with_reducible rfl | (rw [if_pos (by omega)] <;> with_reducible rfl)))
            try simp only [Act.put, List.getElem_toArray, List.getElem_cons_zero, List.getElem_cons_succ, List.setIfInBounds_toArray, List.set_cons_zero, List.set_cons_succ]
            refine wpAnyH_ready (rs := [5]) (by kernel_rfl) (by simp) ?_
            refine AllReadyH.cons rfl (fun K hK => ?_) AllReadyH.nil
            rw [if_pos (by rfl)]
            go_simp
            go_at_call 35
            refine (SI.out _).mono ?_
            rintro e wo ⟨rfl, rfl⟩
            refine hK.out _ _ (hHeld) (fun hHeld => ?_)
            clear hK K
            try simp only [Act.put, List.getElem_toArray, List.getElem_cons_zero, List.getElem_cons_succ, List.setIfInBounds_toArray, List.set_cons_zero, List.set_cons_succ]
            refine wpAnyH_take (i := 8) (v := ?v76) rfl (by kernel_rfl) (by kernel_rfl) (by kernel_rfl) (fun _ _ _ h => h) (Or.inl ⟨by rfl, ?y76⟩) (by assumption) ?r76
            case y76 => (intro w hSw; (go_simp <;> first | with_reducible rfl | (rw [if_pos (by omega)] <;> with_reducible rfl)))
            try simp only [Act.put, List.getElem_toArray, List.getElem_cons_zero, List.getElem_cons_succ, List.setIfInBounds_toArray, List.set_cons_zero, List.set_cons_succ]
            refine wpAnyH_take (i := 9) (v := ?v77) rfl (by kernel_rfl) (by kernel_rfl) (by kernel_rfl) (fun _ _ _ h => h) (Or.inl ⟨by rfl, ?y77⟩) (by assumption) ?r77
            case y77 => (intro w hSw; (go_simp <;> first | with_reducible rfl | (rw [if_pos (by omega)] <;> with_reducible rfl)))
            try simp only [Act.put, List.getElem_toArray, List.getElem_cons_zero, List.getElem_cons_succ, List.setIfInBounds_toArray, List.set_cons_zero, List.set_cons_succ]
            refine wpAnyH_take (i := 10) (v := ?v78) rfl (by kernel_rfl) (by kernel_rfl) (by kernel_rfl) (fun _ _ _ h => h) (Or.inl ⟨by rfl, ?y78⟩) (by assumption) ?r78
            case y78 => (intro w hSw; (go_simp <;> first | with_reducible rfl | (rw [if_pos (by omega)] <;> with_reducible rfl)))
            try simp only [Act.put, List.getElem_toArray, List.getElem_cons_zero, List.getElem_cons_succ, List.setIfInBounds_toArray, List.set_cons_zero, List.set_cons_succ]
            refine wpAnyH_take (i := 11) (v := ?v79) rfl (by kernel_rfl) (by kernel_rfl) (by kernel_rfl) (fun _ _ _ h => h) (Or.inl ⟨by rfl, ?y79⟩) (by assumption) ?r79
            case y79 => (intro w hSw; (go_simp <;> first | with_reducible rfl | (rw [if_pos (by omega)] <;> with_reducible rfl)))
            try simp only [Act.put, List.getElem_toArray, List.getElem_cons_zero, List.getElem_cons_succ, List.setIfInBounds_toArray, List.set_cons_zero, List.set_cons_succ]
            refine wpAnyH_take (i := 12) (v := ?v80) rfl (by kernel_rfl) (by kernel_rfl) (by kernel_rfl) (fun _ _ _ h => h) (Or.inl ⟨by rfl, ?y80⟩) (by assumption) ?r80
            case y80 => (intro w hSw; (go_simp <;> first | with_reducible rfl | (rw [if_pos (by omega)] <;> with_reducible rfl)))
            try simp only [Act.put, List.getElem_toArray, List.getElem_cons_zero, List.getElem_cons_succ, List.setIfInBounds_toArray, List.set_cons_zero, List.set_cons_succ]
            refine wpAnyH_take (i := 13) (v := ?v81) rfl (by kernel_rfl) (by kernel_rfl) (by kernel_rfl) (fun _ _ _ h => h) (Or.inl ⟨by rfl, ?y81⟩) (by assumption) ?r81
            case y81 => (intro w hSw; have c0 := hSw.2.1; (go_simp <;> first | with_reducible rfl | (rw [if_pos (by omega)] <;> with_reducible rfl)))
            try simp only [Act.put, List.getElem_toArray, List.getElem_cons_zero, List.getElem_cons_succ, List.setIfInBounds_toArray, List.set_cons_zero, List.set_cons_succ]
            refine wpAnyH_take (i := 14) (v := ?v82) rfl (by kernel_rfl) (by kernel_rfl) (by kernel_rfl) (fun _ _ _ h => h) (Or.inl ⟨by rfl, ?y82⟩) (by assumption) ?r82
            case y82 => (intro w hSw; have hwi := HWI.out; (go_simp <;> first | with_reducible rfl | (rw [if_pos (by omega)] <;> with_reducible rfl)))
            try simp only [Act.put, List.getElem_toArray, List.getElem_cons_zero, List.getElem_cons_succ, List.setIfInBounds_toArray, List.set_cons_zero, List.set_cons_succ]
            refine wpAnyH_take (i := 15) (v := ?v83) rfl (by kernel_rfl) (by kernel_rfl) (by kernel_rfl) (fun _ _ _ h => h) (Or.inl ⟨by rfl, ?y83⟩) (by assumption) ?r83
            case y83 => (intro w hSw; (go_simp <;> first | with_reducible rfl | (rw [if_pos (by omega)] <;> with_reducible rfl)))
            try simp only [Act.put, List.getElem_toArray, List.getElem_cons_zero, List.getElem_cons_succ, List.setIfInBounds_toArray, List.set_cons_zero, List.set_cons_succ]
            refine wpAnyH_take (i := 16) (v := ?v84) rfl (by kernel_rfl) (by kernel_rfl) (by kernel_rfl) (fun _ _ _ h => h) (Or.inl ⟨by rfl, ?y84⟩) (by assumption) ?r84
            case y84 => (intro w hSw; (go_simp <;> first | with_reducible rfl | (rw [if_pos (by omega)] <;> with_reducible rfl)))
            try simp only [Act.put, List.getElem_toArray, List.getElem_cons_zero, List.getElem_cons_succ, List.setIfInBounds_toArray, List.set_cons_zero, List.set_cons_succ]
            refine wpAnyH_take (i := 17) rfl (by kernel_rfl) (by kernel_rfl) (by kernel_rfl) (fun _ _ _ h => h) (yieldsIf_load_mid (by rfl) _ _ rfl _ _ rfl (arrL n) _ (fun w h => h.2.2) (Tryd.underlying42) rfl (HINFA.out)) (by assumption) ?_
            try simp only [Act.put, List.getElem_toArray, List.getElem_cons_zero, List.getElem_cons_succ, List.setIfInBounds_toArray, List.set_cons_zero, List.set_cons_succ]
            refine wpAnyH_ready (rs := [18]) (by kernel_rfl) (by simp) ?_
            refine AllReadyH.cons rfl (fun K hK => ?_) AllReadyH.nil
            rw [if_pos (by rfl)]
            go_simp
            go_at_call 66
            refine (RE.out _).mono ?_
            rintro e wq ⟨rfl, hb⟩
            refine hK.out _ _ (⟨bthen hHeld.1 hb, (hb.cell (p := ⟨w.heap.size, k, none⟩) (Nat.lt_of_lt_of_le HZS.out hHeld.1.size)).trans hHeld.2.1, range_grow hHeld.2.2 (Nat.lt_of_lt_of_le HGA.out hHeld.1.size) hb⟩) (fun hHeld => ?_)
            clear hK K
            try simp only [Act.put, List.getElem_toArray, List.getElem_cons_zero, List.getElem_cons_succ, List.setIfInBounds_toArray, List.set_cons_zero, List.set_cons_succ]
            refine wpAnyH_take (i := 19) (v := ?v85) rfl (by kernel_rfl) (by kernel_rfl) (by kernel_rfl) (fun _ _ _ h => h) (Or.inl ⟨by rfl, ?y85⟩) (by assumption) ?r85
            case y85 => (intro w hSw; (go_simp <;> first | with_reducible rfl | (rw [if_pos (by omega)] <;> with_reducible rfl)))
            try simp only [Act.put, List.getElem_toArray, List.getElem_cons_zero, List.getElem_cons_succ, List.setIfInBounds_toArray, List.set_cons_zero, List.set_cons_succ]
            refine wpAnyH_done (by kernel_rfl) ?_ _
            go_wp2
            go_roundw
            case rel =>
              refine ⟨k + 1, by omega, by go_num, HW.out.trans (hHeld.1.mono HW.out.size), fun i hi => ?_⟩
              by_cases e : i = k
              · subst e; exact HE.out
              · exact HNO.out i (by omega)
            case measure => simp [intOf]; omega
        · rw [decide_eq_false hsd, Bool.false_and] at hb
          have b0 : (sideF (at8 z k) == 1 - s) = false := by simpa using hsd
          have HE := Lib.hid hb
          clear hb hsd RE
          generalize sideF (at8 z k) = sd at SI b0
          generalize at8 z k = x at *
          go_wp2_with fail
          refine wp_region_held_drew (S := fun W => Below wr.heap.size wr W ∧ W.cell? ⟨w.heap.size, k, none⟩ = some (.int .i8 x) ∧ W.rangeAt ga 0 (arrL n)) (by kernel_rfl) ?_ (fun hHeld => ?_)
          · exact ⟨(bref wr).drew, HC.out, HR.out⟩
          refine wpAnyH_take (i := 0) (v := ?v10) rfl (by kernel_rfl) (by kernel_rfl) (by kernel_rfl) (fun _ _ _ h => h) (Or.inl ⟨by rfl, ?y10⟩) (by assumption) ?r10
          case y10 => (intro w hSw; (go_simp <;> first | with_reducible rfl | (rw [if_pos (by omega)] <;> with_reducible rfl)))
          try simp only [Act.put, List.getElem_toArray, List.getElem_cons_zero, List.getElem_cons_succ, List.setIfInBounds_toArray, List.set_cons_zero, List.set_cons_succ]
          refine wpAnyH_take (i := 1) (v := ?v11) rfl (by kernel_rfl) (by kernel_rfl) (by kernel_rfl) (fun _ _ _ h => h) (Or.inl ⟨by rfl, ?y11⟩) (by assumption) ?r11
          case y11 => (intro w hSw; (go_simp <;> first | with_reducible rfl | (rw [if_pos (by omega)] <;> with_reducible rfl)))
          try simp only [Act.put, List.getElem_toArray, List.getElem_cons_zero, List.getElem_cons_succ, List.setIfInBounds_toArray, List.set_cons_zero, List.set_cons_succ]
          refine wpAnyH_take (i := 2) (v := ?v12) rfl (by kernel_rfl) (by kernel_rfl) (by kernel_rfl) (fun _ _ _ h => h) (Or.inl ⟨by rfl, ?y12⟩) (by assumption) ?r12
          case y12 => (intro w hSw; (go_simp <;> first | with_reducible rfl | (rw [if_pos (by omega)] <;> with_reducible rfl)))
          try simp only [Act.put, List.getElem_toArray, List.getElem_cons_zero, List.getElem_cons_succ, List.setIfInBounds_toArray, List.set_cons_zero, List.set_cons_succ]
          refine wpAnyH_take (i := 3) (v := ?v13) rfl (by kernel_rfl) (by kernel_rfl) (by kernel_rfl) (fun _ _ _ h => h) (Or.inl ⟨by rfl, ?y13⟩) (by assumption) ?r13
          case y13 => (intro w hSw; have c0 := hSw.2.1; (go_simp <;> first | with_reducible rfl | (rw [if_pos (by omega)] <;> with_reducible rfl)))
          try simp only [Act.put, List.getElem_toArray, List.getElem_cons_zero, List.getElem_cons_succ, List.setIfInBounds_toArray, List.set_cons_zero, List.set_cons_succ]
          refine wpAnyH_take (i := 4) (v := ?v14) rfl (by kernel_rfl) (by kernel_rfl) (by kernel_rfl) (fun _ _ _ h => h) (Or.inl ⟨by rfl, ?y14⟩) (by assumption) ?r14
          case y14 => (intro w hSw; have hwi := HWI.out; (go_simp <;> first | with_reducible rfl | (rw [if_pos (by omega)] <;> with_reducible rfl)))
          try simp only [Act.put, List.getElem_toArray, List.getElem_cons_zero, List.getElem_cons_succ, List.setIfInBounds_toArray, List.set_cons_zero, List.set_cons_succ]
          refine wpAnyH_take (i := 6) (v := ?v15) rfl (by kernel_rfl) (by kernel_rfl) (by kernel_rfl) (fun _ _ _ h => h) (Or.inl ⟨by rfl, ?y15⟩) (by assumption) ?r15
          case y15 => (intro w hSw; (go_simp <;> first | with_reducible rfl | (rw [if_pos (by omega)] <;> with_reducible rfl)))
          try simp only [Act.put, List.getElem_toArray, List.getElem_cons_zero, List.getElem_cons_succ, List.setIfInBounds_toArray, List.set_cons_zero, List.set_cons_succ]
          refine wpAnyH_take (i := 7) (v := ?v16) rfl (by kernel_rfl) (by kernel_rfl) (by kernel_rfl) (fun _ _ _ h => h) (Or.inl ⟨by rfl, ?y16⟩) (by assumption) ?r16
          case y16 => (intro w hSw; (go_simp <;> first | with_reducible rfl | (rw [if_pos (by omega)] <;> with_reducible rfl)))
          try simp only [Act.put, List.getElem_toArray, List.getElem_cons_zero, List.getElem_cons_succ, List.setIfInBounds_toArray, List.set_cons_zero, List.set_cons_succ]
          refine wpAnyH_ready (rs := [5]) (by kernel_rfl) (by simp) ?_
          refine AllReadyH.cons rfl (fun K hK => ?_) AllReadyH.nil
          rw [if_pos (by rfl)]
          go_simp
          go_at_call 35
          refine (SI.out _).mono ?_
          rintro e wo ⟨rfl, rfl⟩
          refine hK.out _ _ (hHeld) (fun hHeld => ?_)
          clear hK K
          try simp only [Act.put, List.getElem_toArray, List.getElem_cons_zero, List.getElem_cons_succ, List.setIfInBounds_toArray, List.set_cons_zero, List.set_cons_succ]
          refine wpAnyH_take (i := 8) (v := ?v17) rfl (by kernel_rfl) (by kernel_rfl) (by kernel_rfl) (fun _ _ _ h => h) (Or.inl ⟨by rfl, ?y17⟩) (by assumption) ?r17
          case y17 => (intro w hSw; (go_simp <;> first | with_reducible rfl | (rw [if_pos (by omega)] <;> with_reducible rfl)))
          try simp only [Act.put, List.getElem_toArray, List.getElem_cons_zero, List.getElem_cons_succ, List.setIfInBounds_toArray, List.set_cons_zero, List.set_cons_succ]
          refine wpAnyH_take (i := 9) (v := ?v18) rfl (by kernel_rfl) (by kernel_rfl) (by kernel_rfl) (fun _ _ _ h => h) (Or.inl ⟨by rfl, ?y18⟩) (by assumption) ?r18
          case y18 => (intro w hSw; (go_simp <;> first | with_reducible rfl | (rw [if_pos (by omega)] <;> with_reducible rfl)))
          try simp only [Act.put, List.getElem_toArray, List.getElem_cons_zero, List.getElem_cons_succ, List.setIfInBounds_toArray, List.set_cons_zero, List.set_cons_succ]
          refine wpAnyH_take (i := 10) (v := undef) rfl (by kernel_rfl) (by kernel_rfl) (by kernel_rfl) (fun _ _ _ h => h) (Or.inr ⟨by rfl, rfl⟩) (by assumption) ?_
          try simp only [Act.put, List.getElem_toArray, List.getElem_cons_zero, List.getElem_cons_succ, List.setIfInBounds_toArray, List.set_cons_zero, List.set_cons_succ]
          refine wpAnyH_take (i := 11) (v := undef) rfl (by kernel_rfl) (by kernel_rfl) (by kernel_rfl) (fun _ _ _ h => h) (Or.inr ⟨by rfl, rfl⟩) (by assumption) ?_
          try simp only [Act.put, List.getElem_toArray, List.getElem_cons_zero, List.getElem_cons_succ, List.setIfInBounds_toArray, List.set_cons_zero, List.set_cons_succ]
          refine wpAnyH_take (i := 12) (v := undef) rfl (by kernel_rfl) (by kernel_rfl) (by kernel_rfl) (fun _ _ _ h => h) (Or.inr ⟨by rfl, rfl⟩) (by assumption) ?_
          try simp only [Act.put, List.getElem_toArray, List.getElem_cons_zero, List.getElem_cons_succ, List.setIfInBounds_toArray, List.set_cons_zero, List.set_cons_succ]
          refine wpAnyH_take (i := 13) (v := undef) rfl (by kernel_rfl) (by kernel_rfl) (by kernel_rfl) (fun _ _ _ h => h) (Or.inr ⟨by rfl, rfl⟩) (by assumption) ?_
          try simp only [Act.put, List.getElem_toArray, List.getElem_cons_zero, List.getElem_cons_succ, List.setIfInBounds_toArray, List.set_cons_zero, List.set_cons_succ]
          refine wpAnyH_take (i := 14) (v := undef) rfl (by kernel_rfl) (by kernel_rfl) (by kernel_rfl) (fun _ _ _ h => h) (Or.inr ⟨by rfl, rfl⟩) (by assumption) ?_
          try simp only [Act.put, List.getElem_toArray, List.getElem_cons_zero, List.getElem_cons_succ, List.setIfInBounds_toArray, List.set_cons_zero, List.set_cons_succ]
          refine wpAnyH_take (i := 15) (v := undef) rfl (by kernel_rfl) (by kernel_rfl) (by kernel_rfl) (fun _ _ _ h => h) (Or.inr ⟨by rfl, rfl⟩) (by assumption) ?_
          try simp only [Act.put, List.getElem_toArray, List.getElem_cons_zero, List.getElem_cons_succ, List.setIfInBounds_toArray, List.set_cons_zero, List.set_cons_succ]
          refine wpAnyH_take (i := 16) (v := undef) rfl (by kernel_rfl) (by kernel_rfl) (by kernel_rfl) (fun _ _ _ h => h) (Or.inr ⟨by rfl, rfl⟩) (by assumption) ?_
          try simp only [Act.put, List.getElem_toArray, List.getElem_cons_zero, List.getElem_cons_succ, List.setIfInBounds_toArray, List.set_cons_zero, List.set_cons_succ]
          refine wpAnyH_take (i := 17) (v := undef) rfl (by kernel_rfl) (by kernel_rfl) (by kernel_rfl) (fun _ _ _ h => h) (Or.inr ⟨by rfl, rfl⟩) (by assumption) ?_
          try simp only [Act.put, List.getElem_toArray, List.getElem_cons_zero, List.getElem_cons_succ, List.setIfInBounds_toArray, List.set_cons_zero, List.set_cons_succ]
          refine wpAnyH_take (i := 18) (v := undef) rfl (by kernel_rfl) (by kernel_rfl) (by kernel_rfl) (fun _ _ _ h => h) (Or.inr ⟨by rfl, rfl⟩) (by assumption) ?_
          try simp only [Act.put, List.getElem_toArray, List.getElem_cons_zero, List.getElem_cons_succ, List.setIfInBounds_toArray, List.set_cons_zero, List.set_cons_succ]
          refine wpAnyH_take (i := 19) (v := ?v19) rfl (by kernel_rfl) (by kernel_rfl) (by kernel_rfl) (fun _ _ _ h => h) (Or.inl ⟨by rfl, ?y19⟩) (by assumption) ?r19
          case y19 => (intro w hSw; (go_simp <;> first | with_reducible rfl | (rw [if_pos (by omega)] <;> with_reducible rfl)))
          try simp only [Act.put, List.getElem_toArray, List.getElem_cons_zero, List.getElem_cons_succ, List.setIfInBounds_toArray, List.set_cons_zero, List.set_cons_succ]
          refine wpAnyH_done (by kernel_rfl) ?_ _
          go_wp2
          go_roundw
          case rel =>
            refine ⟨k + 1, by omega, by go_num, HW.out.trans (hHeld.1.mono HW.out.size), fun i hi => ?_⟩
            by_cases e : i = k
            · subst e; exact HE.out
            · exact HNO.out i (by omega)
          case measure => simp [intOf]; omega
      · obtain rfl : k = 81 := by omega
        have e := HN.out hno
        go_wp2
        go_ret
        exact ⟨by first | rfl | (rw [e]; rfl), HB.out.trans (hW.mono HB.out.size)⟩

/-! Check. -/
theorem chk8_clean (z : List Int) (h : checkF z = 0) : Clean z := by
  have hk : knownB z = true := by
    apply Classical.byContradiction
    intro hn
    unfold checkF chkF at h
    rw [if_neg (fun e => e (chk8_side z (by unfold checkF chkF; exact h))), if_pos (by simpa using hn)] at h
    cases h
  unfold knownB at hk
  rw [Bool.and_eq_true, allB_iff] at hk
  intro q hq hk0
  have := hk.1 q hq
  unfold knownQ at this
  rw [decide_eq_true hk0] at this
  simpa using this
theorem refCheck8_any (z : List Int) (hz : z.length = 98) (h8 : I8s z) (w : World) :
    Calls Tryd.prog 28 #[.agg (posC z).toArray] w fun e w' => e = .returned (.int .i64 (check8F z)) ∧ Below w.heap.size w w' := by
  have CK := Lib.hid (fun W => refCheck_any z hz h8 W)
  have HP := Lib.hid (PosAt.new w z)
  have HINF := Lib.hid (show (Tryd.prog.info? 28).map (·.size) = some (posC z).length by rw [posC_len, hz]; exact infoPos)
  by_cases hc : checkF z = 0
  · have e8 : check8F z = if inF (newZ z) (1 - at8 z 97) = true then 54 else 0 := if_neg (fun h => h hc)
    rw [e8, newZ_self z hz (chk8_clean z hc)]
    rw [hc] at CK
    have hs := chk8_side z hc
    have c97 := HP.out.cell 97 (by omega)
    have IC := Lib.hid (fun W => refInCheck_any z (1 - at8 z 97) (by omega) hz h8 (chk8_clean z hc) W)
    have hwx : wrap64 (at8 z 97) = at8 z 97 := by unfold wrap64; omega
    have hwy : IntKind.i64.wrap (at8 z 97) = at8 z 97 := by rw [wrap_i64_eq]; exact hwx
    have hwo : wrap64 (1 - at8 z 97) = 1 - at8 z 97 := by unfold wrap64; omega
    have hwp : IntKind.i64.wrap (1 - at8 z 97) = 1 - at8 z 97 := by rw [wrap_i64_eq]; exact hwo
    clear hc e8 h8 hs
    generalize inF z (1 - at8 z 97) = r at IC ⊢
    generalize at8 z 97 = s at *
    go_enter Tryd.func28, Tryd.ntmps28
    cases r with
    | true =>
      go_wp2_with (first
        | (refine wpList_load_mid rfl 28 _ rfl w.heap.size 0 rfl (posC z) _ HP.out.range Tryd.underlying28 rfl HINF.out ?_)
        | (go_at_call 33; refine (CK.out _).mono ?_; rintro e w1 ⟨rfl, hb0⟩; have c97 := (hb0.cell (p := ⟨w.heap.size, 97, none⟩) (by simp)).trans c97; have HP := Lib.hid (HP.out.grow hb0))
        | (go_at_call 30; refine (IC.out _).mono ?_; rintro e w2 ⟨rfl, hb1⟩))
      go_ret
      exact ⟨rfl, bthen (ball (bref w) _) (bthen hb0 hb1)⟩
    | false =>
      go_wp2_with (first
        | (refine wpList_load_mid rfl 28 _ rfl w.heap.size 0 rfl (posC z) _ HP.out.range Tryd.underlying28 rfl HINF.out ?_)
        | (go_at_call 33; refine (CK.out _).mono ?_; rintro e w1 ⟨rfl, hb0⟩; have c97 := (hb0.cell (p := ⟨w.heap.size, 97, none⟩) (by simp)).trans c97; have HP := Lib.hid (HP.out.grow hb0))
        | (go_at_call 30; refine (IC.out _).mono ?_; rintro e w2 ⟨rfl, hb1⟩))
      go_ret
      exact ⟨rfl, bthen (ball (bref w) _) (bthen hb0 hb1)⟩
  · have e8 : check8F z = checkF z := if_pos hc
    rw [e8]
    have hb : (checkF z != 0) = true := by simpa using hc
    clear e8 hz h8 hc
    generalize checkF z = c at CK hb ⊢
    go_enter Tryd.func28, Tryd.ntmps28
    go_wp2_with (first
      | (refine wpList_load_mid rfl 28 _ rfl w.heap.size 0 rfl (posC z) _ HP.out.range Tryd.underlying28 rfl HINF.out ?_)
      | (go_at_call 33; refine (CK.out _).mono ?_; rintro e w1 ⟨rfl, hb0⟩))
    go_ret
    exact ⟨rfl, bthen (ball (bref w) _) hb0⟩
end Go.Proofs.YtilhicohfnaclaaDoor
