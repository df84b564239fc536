/-
  The walk of the law RayOf: for every piece, number and pair of words it returns true.
-/
import Derived.Test.YtmpjjdlohneiiaaRayHead
import Derived.Test.YtmpjjdlohneiiaaReach
import Derived.Test.YtmpjjdlohneiiaaReal
import Derived.OpenShut
import Derived.Deep.RegionHeld3
import Derived.Deep.WholeRow
import Derived.Deep.MidRow
namespace Go.Proofs.Ytmpjjdlohneiiaa.rayOf
open Go.RowKit
set_option linter.unusedVariables false
set_option linter.unusedSimpArgs false

theorem and_full (n : Nat) (h : Sq n) : n &&& full = n := by
  apply Nat.eq_of_testBit_eq
  intro i
  rw [Nat.testBit_and, test_full]
  by_cases hi : i < 81
  · simp [hi]
  · rw [test_sq h i (by omega)]
    rfl
theorem ray_out (p q : Int) (t n : Nat) (ht : t < 81) : (rayN p q n).testBit t = reachF p q t n := by
  by_cases h : 0 ≤ q ∧ q ≤ 80
  · have := ray_test p q.toNat t (by omega) ht n
    rwa [show ((q.toNat : Nat) : Int) = q by omega] at this
  · rw [rayN_far p q n h, Nat.zero_testBit]
    have h1 : refStepF p q t = false := by
      unfold refStepF
      exact if_pos (by omega)
    have h2 : lineF q t = 0 := line_out q t (by omega)
    unfold reachF slidesF
    rw [h1, h2]
    simp
theorem arr_range {w : World} {g : Nat} {A : Array Value} {t : TypeId} (h : w.heap[g]? = some (.cells A t)) : w.rangeAt g 0 A.toList := by
  intro j v hv
  rw [Nat.zero_add, cell_of_row w g j A t _ h]
  simpa using hv

set_option maxHeartbeats 4000000 in
theorem walk (p q a b : Int) (g0 : (Lit.int .i8 p).wf = true) (g1 : (Lit.int .i64 q).wf = true) (g2 : (Lit.int .u64 a).wf = true) (g3 : (Lit.int .u64 b).wf = true) (w : World) :
    Calls Try.prog 3 #[.int .i8 p, .int .i64 q, .agg #[.int .u64 a, .int .u64 b]] w fun e w' => e = .returned (.bool true) ∧ Below w.heap.size w w' := by
  have p0 := bounds_i8 g0
  have H := Lib.hid (fun W => slides_true W)
  have R := Lib.hid (fun W => real4_any a b (bounds_u64 g2).1 (bounds_u64 g2).2 (bounds_u64 g3).1 (bounds_u64 g3).2 W)
  have s0 := realN_sq a b
  generalize realN a b = n at R s0
  have O := Lib.hid (fun W => rayOf_any p q n p0.1 p0.2 s0 W)
  have RF := Lib.hid (fun W => refOf_any n s0 W)
  have AL := Lib.hid (fun W => all_any W)
  have AN := Lib.hid (fun W => and_any (rayN p q n) full (rayN_sq p q n) Sq.full W)
  rw [and_full _ (rayN_sq p q n)] at AN
  have HSA := Lib.hid (fun (t : Nat) W => has_any (rayN p q n) t (rayN_sq p q n) W)
  have RCA := Lib.hid (fun (t : Nat) (ht : t < 81) W => reaches_any p q t n p0.1 p0.2 ht W)
  have HE := Lib.hid (fun t ht => ray_out p q t n ht)
  have WP := Lib.hid (show IntKind.i64.wrap p = p by rw [IntKind.wrap_i64]; omega)
  have HI := Lib.hid (show (Try.prog.info? 31).map (·.size) = some (arrP n 81).toList.length by rw [Array.length_toList, arrP_size]; kernel_rfl)
  have HI0 := Lib.hid (show (Try.prog.info? 31).map (·.size) = some (arrP n 81).size by rw [arrP_size]; kernel_rfl)
  have HSZ := Lib.hid (show zA.size = (arrP n 81).size by rw [arrP_size]; rfl)
  have H1C := Lib.hid (arrP_one n 81)
  have HN := Lib.hid (fun (t : Nat) (ht : t < 81) => has_nat (rayN p q n) t ht)
  clear g0 g1 g2 g3 p0 s0
  generalize rayN p q n = m at O AN HSA HE HN
  have HAT := Lib.hid (show (arrP n 81).toList.toArray = arrP n 81 by simp)
  generalize arrP n 81 = A at RF RCA HI HI0 HSZ H1C HAT
  generalize hx : loW n = xn at R O RF
  generalize hy : hiW n = yn at R O RF
  have HXY := Lib.hid (And.intro hx hy)
  clear hx hy
  generalize hx : loW m = x at O AN HSA
  generalize hy : hiW m = y at O AN HSA
  have HXY2 := Lib.hid (And.intro hx hy)
  clear hx hy
  have hz := zero_arr
  go_enter Try.func3, Try.ntmps3
  go_wp2_with (first
    | (go_at_call 11; refine (H.out _).mono ?_; rintro e w1 ⟨rfl, hb1⟩; obtain ⟨hc1, hf1⟩ := bcells hb1; have hz1 : w.heap.size < w1.heap.size := by (have := hb1.size; simp at this; omega))
    | (go_at_call 12; refine (R.out _).mono ?_; rintro e w2 ⟨rfl, hb2⟩; obtain ⟨hc2, hf2⟩ := bcells hb2; have hz2 : w.heap.size < w2.heap.size := by (have := hb2.size; omega))
    | (go_at_call 13; refine (O.out _).mono ?_; rintro e w3 ⟨rfl, hb3⟩; obtain ⟨hc3, hf3⟩ := bcells hb3; have hz3 : w.heap.size < w3.heap.size := by (have := hb3.size; simp at this; omega))
    | (go_at_call 14; refine (RF.out _).mono ?_; rintro e w4 ⟨rfl, hb4⟩)
    | (refine wpList_store_row rfl 31 _ _ rfl w4.heap.size A rfl rfl 31 zA (heap_alloc_new w4 _) HI0.out HSZ.out H1C.out ?_; rw [World.setRow_alloc_new]))
  have e0 : w4.cell? ⟨w3.heap.size, 0, none⟩ = some (.int .u64 x) := (hb4.cell (p := ⟨w3.heap.size, 0, none⟩) (by simp)).trans (by go_simp)
  have e1 : w4.cell? ⟨w3.heap.size, 1, none⟩ = some (.int .u64 y) := (hb4.cell (p := ⟨w3.heap.size, 1, none⟩) (by simp)).trans (by go_simp)
  have hz4 : w3.heap.size < w4.heap.size := by have := hb4.size; simp at this; omega
  have hB3 : Below w.heap.size w w3 := bthen (((bthen (bthen (ball (bref w) _) hb1) hb2).setCell (by simp) _).setCell (by simp) _) hb3
  have hb5 := ball (bref w4) (.cells A 31)
  have HB := Lib.hid (bthen (bthen (ball hB3 _) hb4) hb5)
  have HRW := Lib.hid (arr_range (heap_alloc_new w4 (.cells A 31)))
  have E0 := Lib.hid ((hb5.cell (p := ⟨w3.heap.size, 0, none⟩) hz4).trans e0)
  have E1 := Lib.hid ((hb5.cell (p := ⟨w3.heap.size, 1, none⟩) hz4).trans e1)
  have hs1 : w3.heap.size < (w4.alloc (.cells A 31)).heap.size := Nat.lt_of_lt_of_le hz4 hb5.size
  have hs2 : w4.heap.size < (w4.alloc (.cells A 31)).heap.size := by simp
  clear hz hc1 hf1 hz1 hc2 hf2 hz2 hc3 hf3 hz3 hb1 hb2 hb3 hb4 hB3 e0 e1 hz4 hb5 H R O RF
  generalize w4.alloc (.cells A 31) = wl at *
  generalize w3.heap.size = bs at *
  generalize w4.heap.size = ba at *
  go_loopw [9] (fun i wr => ∃ k : Nat, k ≤ 81 ∧ i = .int .i64 k ∧ Below wl.heap.size wl wr) (fun i _ => 81 - (intOf i).toNat)
  case atStart => exact ⟨0, Nat.zero_le _, rfl, bref _⟩
  case round =>
    obtain ⟨k, hk, rfl, hW⟩ := hrel
    have c0 : wr.cell? ⟨bs, 0, none⟩ = some (.int .u64 x) := (hW.cell (p := ⟨bs, 0, none⟩) hs1).trans E0.out
    have c1 : wr.cell? ⟨bs, 1, none⟩ = some (.int .u64 y) := (hW.cell (p := ⟨bs, 1, none⟩) hs1).trans E1.out
    have z1 : bs < wr.heap.size := Nat.lt_of_lt_of_le hs1 hW.size
    have z2 : ba < wr.heap.size := Nat.lt_of_lt_of_le hs2 hW.size
    have HRA := Lib.hid (range_grow HRW.out hs2 hW)
    have HW := Lib.hid hW
    clear hW
    by_cases hlt : k < 81
    · have HS := Lib.hid (fun W => HSA.out k W)
      rw [HN.out k hlt] at HS
      have RC := Lib.hid (fun W => RCA.out k hlt W)
      rw [← HE.out k hlt] at RC
      generalize m.testBit k = bit at HS RC
      go_wp2_with fail
      refine wp_region_held_drew (S := fun w' => Below wr.heap.size wr w' ∧ bs < w'.heap.size ∧ ba < w'.heap.size ∧ w'.cell? ⟨bs, 0, none⟩ = some (.int .u64 x) ∧ w'.cell? ⟨bs, 1, none⟩ = some (.int .u64 y) ∧ w'.rangeAt ba 0 A.toList) (by kernel_rfl) ?_ (fun hHeld => ?_)
      · exact ⟨(bref wr).drew, z1, z2, c0, c1, HRA.out⟩
      refine wpAnyH_take (i := 0) (v := ?v1) rfl (by kernel_rfl) (by kernel_rfl) (by kernel_rfl) (fun _ _ _ h => h) (Or.inl ⟨by rfl, ?y1⟩) (by assumption) ?r1
      case y1 => (intro w hSw; (go_simp <;> first | with_reducible rfl | (rw [if_pos (by omega)] <;> with_reducible rfl)))
      try simp only [Act.put, List.getElem_toArray, List.getElem_cons_zero, List.getElem_cons_succ, List.setIfInBounds_toArray, List.set_cons_zero, List.set_cons_succ]
      refine wpAnyH_take (i := 1) (v := ?v2) rfl (by kernel_rfl) (by kernel_rfl) (by kernel_rfl) (fun _ _ _ h => h) (Or.inl ⟨by rfl, ?y2⟩) (by assumption) ?r2
      case y2 => (intro w hSw; (go_simp <;> first | with_reducible rfl | (rw [if_pos (by omega)] <;> with_reducible rfl)))
      try simp only [Act.put, List.getElem_toArray, List.getElem_cons_zero, List.getElem_cons_succ, List.setIfInBounds_toArray, List.set_cons_zero, List.set_cons_succ]
      refine wpAnyH_take (i := 3) (v := ?v3) rfl (by kernel_rfl) (by kernel_rfl) (by kernel_rfl) (fun _ _ _ h => h) (Or.inl ⟨by rfl, ?y3⟩) (by assumption) ?r3
      case y3 => (intro w hSw; (go_simp <;> first | with_reducible rfl | (rw [if_pos (by omega)] <;> with_reducible rfl)))
      try simp only [Act.put, List.getElem_toArray, List.getElem_cons_zero, List.getElem_cons_succ, List.setIfInBounds_toArray, List.set_cons_zero, List.set_cons_succ]
      refine wpAnyH_take (i := 4) (v := ?v4) rfl (by kernel_rfl) (by kernel_rfl) (by kernel_rfl) (fun _ _ _ h => h) (Or.inl ⟨by rfl, ?y4⟩) (by assumption) ?r4
      case y4 => (intro w hSw; (go_simp <;> first | with_reducible rfl | (rw [if_pos (by omega)] <;> with_reducible rfl)))
      try simp only [Act.put, List.getElem_toArray, List.getElem_cons_zero, List.getElem_cons_succ, List.setIfInBounds_toArray, List.set_cons_zero, List.set_cons_succ]
      refine wpAnyH_take (i := 5) (v := ?v5) rfl (by kernel_rfl) (by kernel_rfl) (by kernel_rfl) (fun _ _ _ h => h) (Or.inl ⟨by rfl, ?y5⟩) (by assumption) ?r5
      case y5 => (intro w hSw; (go_simp <;> first | with_reducible rfl | (rw [if_pos (by omega)] <;> with_reducible rfl)))
      try simp only [Act.put, List.getElem_toArray, List.getElem_cons_zero, List.getElem_cons_succ, List.setIfInBounds_toArray, List.set_cons_zero, List.set_cons_succ]
      refine wpAnyH_take (i := 6) (v := ?v6) rfl (by kernel_rfl) (by kernel_rfl) (by kernel_rfl) (fun _ _ _ h => h) (Or.inl ⟨by rfl, ?y6⟩) (by assumption) ?r6
      case y6 => (intro w hSw; (go_simp <;> first | with_reducible rfl | (rw [if_pos (by omega)] <;> with_reducible rfl)))
      try simp only [Act.put, List.getElem_toArray, List.getElem_cons_zero, List.getElem_cons_succ, List.setIfInBounds_toArray, List.set_cons_zero, List.set_cons_succ]
      refine wpAnyH_take (i := 7) rfl (by kernel_rfl) (by kernel_rfl) (by kernel_rfl) (fun _ _ _ h => h) (yieldsIf_load_mid (by rfl) _ _ rfl _ _ rfl (A.toList) _ (fun w h => h.2.2.2.2.2) (Try.underlying31) rfl (HI.out)) (by assumption) ?_
      try simp only [Act.put, List.getElem_toArray, List.getElem_cons_zero, List.getElem_cons_succ, List.setIfInBounds_toArray, List.set_cons_zero, List.set_cons_succ]
      refine wpAnyH_ready (rs := [2]) (by kernel_rfl) (by simp) ?_
      refine AllReadyH.cons rfl (fun K hK => ?_) AllReadyH.nil
      rw [if_pos (by rfl)]
      go_simp
      go_at_call 15
      refine (HS.out _).mono ?_
      rintro e wn ⟨rfl, hb⟩
      refine hK.out _ _ (⟨bthen hHeld.1 hb, Nat.lt_of_lt_of_le hHeld.2.1 hb.size, Nat.lt_of_lt_of_le hHeld.2.2.1 hb.size, (hb.cell (p := ⟨bs, 0, none⟩) hHeld.2.1).trans hHeld.2.2.2.1, (hb.cell (p := ⟨bs, 1, none⟩) hHeld.2.1).trans hHeld.2.2.2.2.1, range_grow hHeld.2.2.2.2.2 hHeld.2.2.1 hb⟩) (fun hHeld => ?_)
      clear hK K
      try simp only [Act.put, List.getElem_toArray, List.getElem_cons_zero, List.getElem_cons_succ, List.setIfInBounds_toArray, List.set_cons_zero, List.set_cons_succ]
      refine wpAnyH_ready (rs := [8]) (by kernel_rfl) (by simp) ?_
      refine AllReadyH.cons rfl (fun K hK => ?_) AllReadyH.nil
      rw [if_pos (by rfl)]
      go_simp
      go_at_call 16
      rw [WP.out]
      refine (RC.out _).mono ?_
      rintro e wn ⟨rfl, hb⟩
      refine hK.out _ _ (⟨bthen hHeld.1 hb, Nat.lt_of_lt_of_le hHeld.2.1 hb.size, Nat.lt_of_lt_of_le hHeld.2.2.1 hb.size, (hb.cell (p := ⟨bs, 0, none⟩) hHeld.2.1).trans hHeld.2.2.2.1, (hb.cell (p := ⟨bs, 1, none⟩) hHeld.2.1).trans hHeld.2.2.2.2.1, range_grow hHeld.2.2.2.2.2 hHeld.2.2.1 hb⟩) (fun hHeld => ?_)
      clear hK K
      try simp only [Act.put, List.getElem_toArray, List.getElem_cons_zero, List.getElem_cons_succ, List.setIfInBounds_toArray, List.set_cons_zero, List.set_cons_succ]
      refine wpAnyH_take (i := 9) (v := ?v7) rfl (by kernel_rfl) (by kernel_rfl) (by kernel_rfl) (fun _ _ _ h => h) (Or.inl ⟨by rfl, ?y7⟩) (by assumption) ?r7
      case y7 => (intro w hSw; (go_simp <;> first | with_reducible rfl | (rw [if_pos (by omega)] <;> with_reducible rfl)))
      try simp only [Act.put, List.getElem_toArray, List.getElem_cons_zero, List.getElem_cons_succ, List.setIfInBounds_toArray, List.set_cons_zero, List.set_cons_succ]
      refine wpAnyH_done (by kernel_rfl) ?_ _
      cases bit
      all_goals
        go_wp2
        go_roundw
        case rel => exact ⟨k + 1, by omega, by go_num, HW.out.trans (hHeld.1.mono HW.out.size)⟩
        case measure => simp [intOf]; omega
    · obtain rfl : k = 81 := Nat.le_antisymm hk (Nat.not_lt.1 hlt)
      generalize loW full = xf at AL AN
      generalize hiW full = yf at AL AN
      go_wp2_with fail
      refine wp_region_held_drew (S := fun w' => Below wr.heap.size wr w' ∧ bs < w'.heap.size ∧ w'.cell? ⟨bs, 0, none⟩ = some (.int .u64 x) ∧ w'.cell? ⟨bs, 1, none⟩ = some (.int .u64 y)) (by kernel_rfl) ?_ (fun hHeld => ?_)
      · exact ⟨(bref wr).drew, z1, c0, c1⟩
      refine wpAnyH_take (i := 0) (v := ?v8) rfl (by kernel_rfl) (by kernel_rfl) (by kernel_rfl) (fun _ _ _ h => h) (Or.inl ⟨by rfl, ?y8⟩) (by assumption) ?r8
      case y8 => (intro w hSw; (go_simp <;> first | with_reducible rfl | (rw [if_pos (by omega)] <;> with_reducible rfl)))
      try simp only [Act.put, List.getElem_toArray, List.getElem_cons_zero, List.getElem_cons_succ, List.setIfInBounds_toArray, List.set_cons_zero, List.set_cons_succ]
      refine wpAnyH_take (i := 3) (v := ?v9) rfl (by kernel_rfl) (by kernel_rfl) (by kernel_rfl) (fun _ _ _ h => h) (Or.inl ⟨by rfl, ?y9⟩) (by assumption) ?r9
      case y9 => (intro w hSw; (go_simp <;> first | with_reducible rfl | (rw [if_pos (by omega)] <;> with_reducible rfl)))
      try simp only [Act.put, List.getElem_toArray, List.getElem_cons_zero, List.getElem_cons_succ, List.setIfInBounds_toArray, List.set_cons_zero, List.set_cons_succ]
      refine wpAnyH_ready (rs := [1]) (by kernel_rfl) (by simp) ?_
      refine AllReadyH.cons rfl (fun K hK => ?_) AllReadyH.nil
      rw [if_pos (by rfl)]
      go_simp
      go_at_call 18
      refine (AL.out _).mono ?_
      rintro e wn ⟨rfl, hb⟩
      refine hK.out _ _ (⟨bthen hHeld.1 hb, Nat.lt_of_lt_of_le hHeld.2.1 hb.size, (hb.cell (p := ⟨bs, 0, none⟩) hHeld.2.1).trans hHeld.2.2.1, (hb.cell (p := ⟨bs, 1, none⟩) hHeld.2.1).trans hHeld.2.2.2⟩) (fun hHeld => ?_)
      clear hK K
      try simp only [Act.put, List.getElem_toArray, List.getElem_cons_zero, List.getElem_cons_succ, List.setIfInBounds_toArray, List.set_cons_zero, List.set_cons_succ]
      refine wpAnyH_ready (rs := [2]) (by kernel_rfl) (by simp) ?_
      refine AllReadyH.cons rfl (fun K hK => ?_) AllReadyH.nil
      rw [if_pos (by rfl)]
      go_simp
      go_at_call 17
      refine (AN.out _).mono ?_
      rintro e wn ⟨rfl, hb⟩
      refine hK.out _ _ (⟨bthen hHeld.1 hb, Nat.lt_of_lt_of_le hHeld.2.1 hb.size, (hb.cell (p := ⟨bs, 0, none⟩) hHeld.2.1).trans hHeld.2.2.1, (hb.cell (p := ⟨bs, 1, none⟩) hHeld.2.1).trans hHeld.2.2.2⟩) (fun hHeld => ?_)
      clear hK K
      try simp only [Act.put, List.getElem_toArray, List.getElem_cons_zero, List.getElem_cons_succ, List.setIfInBounds_toArray, List.set_cons_zero, List.set_cons_succ]
      refine wpAnyH_take (i := 4) (v := ?v10) rfl (by kernel_rfl) (by kernel_rfl) (by kernel_rfl) (fun _ _ _ h => h) (Or.inl ⟨by rfl, ?y10⟩) (by assumption) ?r10
      case y10 => (intro w hSw; (go_simp <;> first | with_reducible rfl | (rw [if_pos (by omega)] <;> with_reducible rfl)))
      try simp only [Act.put, List.getElem_toArray, List.getElem_cons_zero, List.getElem_cons_succ, List.setIfInBounds_toArray, List.set_cons_zero, List.set_cons_succ]
      refine wpAnyH_take (i := 5) (v := ?v11) rfl (by kernel_rfl) (by kernel_rfl) (by kernel_rfl) (fun _ _ _ h => h) (Or.inl ⟨by rfl, ?y11⟩) (by assumption) ?r11
      case y11 => (intro w hSw; (go_simp <;> first | with_reducible rfl | (rw [if_pos (by omega)] <;> with_reducible rfl)))
      try simp only [Act.put, List.getElem_toArray, List.getElem_cons_zero, List.getElem_cons_succ, List.setIfInBounds_toArray, List.set_cons_zero, List.set_cons_succ]
      refine wpAnyH_done (by kernel_rfl) ?_ _
      go_wp2
      go_ret
      exact ⟨by simp, bthen (bthen HB.out HW.out) hHeld.1⟩
end Go.Proofs.Ytmpjjdlohneiiaa.rayOf
