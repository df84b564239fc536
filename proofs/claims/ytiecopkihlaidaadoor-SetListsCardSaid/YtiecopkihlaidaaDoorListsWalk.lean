/-
  The walk of the law SetLists: for every two words it returns true.
-/
import Derived.Test.YtiecopkihlaidaaDoorLists2
namespace Go.Proofs.YtiecopkihlaidaaDoor.setLists
open Go.RowKit
set_option linter.unusedVariables false

theorem held1_step {wc W w' : World} {s : Nat} {x0 y0 : Value}
    (h : Below wc.heap.size wc W ∧ s < W.heap.size ∧ W.cell? ⟨s, 0, none⟩ = some x0 ∧ W.cell? ⟨s, 1, none⟩ = some y0) (hb : Below W.heap.size W w') :
    Below wc.heap.size wc w' ∧ s < w'.heap.size ∧ w'.cell? ⟨s, 0, none⟩ = some x0 ∧ w'.cell? ⟨s, 1, none⟩ = some y0 :=
  ⟨bthen h.1 hb, Nat.lt_of_lt_of_le h.2.1 hb.size, (hb.cell (p := ⟨s, 0, none⟩) h.2.1).trans h.2.2.1, (hb.cell (p := ⟨s, 1, none⟩) h.2.1).trans h.2.2.2⟩
theorem held1_fst {wc W : World} {s : Nat} {x0 y0 : Value}
    (h : Below wc.heap.size wc W ∧ s < W.heap.size ∧ W.cell? ⟨s, 0, none⟩ = some x0 ∧ W.cell? ⟨s, 1, none⟩ = some y0) : Below wc.heap.size wc W := h.1

set_option maxHeartbeats 4000000 in
theorem walk (a0 b0 : Int) (g0 : (Lit.int .u64 a0).wf = true) (j0 : (Lit.int .u64 b0).wf = true) (w : World) (hT : Tab w) :
    Calls Tryd.prog 5 #[.agg #[.int .u64 a0, .int .u64 b0]] w fun e w' => e = .returned (.bool true) ∧ Below w.heap.size w w' := by
  have R0 := Lib.hid (fun W => real_any a0 b0 (bounds_u64 g0).1 (bounds_u64 g0).2 (bounds_u64 j0).1 (bounds_u64 j0).2 W)
  have s0 := realN_sq a0 b0
  generalize realN a0 b0 = n at R0 s0
  have PL := Lib.hid (fun W => plain_any n s0 W)
  have RL := Lib.hid (fun W => refList_any n W)
  have HT := Lib.hid hT
  clear g0 j0 hT
  generalize qA : arrP n 81 = A at PL RL
  clear qA
  generalize qx : loW n = x at R0 PL
  generalize qy : hiW n = y at R0 PL
  have QX := Lib.hid qx
  have QY := Lib.hid qy
  clear qx qy
  go_enter Tryd.func5, Tryd.ntmps5
  go_wp2_with (first
    | (go_at_call 9; refine (holds_true _ (HT.out.grow (ball (bref w) _))).mono ?_; rintro e w1 ⟨rfl, hb1⟩; have V1 : Var w1 w.heap.size a0 b0 := Var.grow ⟨by simp, by go_simp, by go_simp, by go_simp, by go_simp⟩ hb1; have l0 := V1.lo; have l1 := V1.hi; have hB1 := bthen (ball (bref w) _) hb1)
    | (go_at_call 15; refine (R0.out _).mono ?_; rintro e w2 ⟨rfl, hb2⟩; have V2 := V1.grow hb2; have f0 := V2.f0; have f1 := V2.f1; have m0 := V2.lo; have m1 := V2.hi; have hB2 := bthen hB1 hb2)
    | (go_at_call 12; refine (PL.out _).mono ?_; rintro e w3 ⟨rfl, hb3⟩)
    | (go_at_call 22; refine (RL.out _).mono ?_; rintro e w4 ⟨v, rfl, ho, hb4⟩))
  have hB4 : Below w.heap.size w w4 := bthen (bthen ((hB2.setCell (Nat.le_refl _) _).setCell (Nat.le_refl _) _) hb3) hb4
  have V4 : Var w4 w.heap.size x y := ((V2.put x y).grow hb3).grow hb4
  have T4 : Hid (Tab w4) := HT.out.grow hB4
  clear hb1 V1 l0 l1 hB1 hb2 V2 f0 f1 m0 m1 hB2 hb3 hb4 HT R0 PL RL
  have l0 := V4.lo
  have l1 := V4.hi
  have hz := V4.lt
  have HB4 := Lib.hid hB4
  have ho4 : Own w4 0 v (sqI n) := ho.mono (Nat.zero_le _)
  have SQ := Lib.hid (fun (W : World) (hb : Below w4.heap.size w4 W) => squares_any n s0 W (T4.out.grow hb) (by have := hb.size; omega))
  have SA := Lib.hid (fun (W : World) (hb : Below w4.heap.size w4 W) v' ha => same_any (sqI n) v' v W ha (ho4.grow hb) (sqI_le n))
  have CN := Lib.hid (fun W => count_any n s0 W)
  have FI := Lib.hid (fun (W : World) (hb : Below w4.heap.size w4 W) => first_any n s0 W (T4.out.grow hb))
  have LA := Lib.hid (fun W => last_any n s0 W)
  have EM := Lib.hid (fun W => empty_any n W)
  clear hB4 V4 ho
  by_cases h0 : n = 0
  · subst h0
    rw [show sqI 0 = [] from rfl] at ho4 SQ SA
    rw [show pop 81 0 = 0 from pop_zero 81] at CN
    rw [show firstF 0 = -1 by decide] at FI
    rw [show lastF 0 = -1 by decide] at LA
    rw [show decide ((0 : Nat) = 0) = true from rfl] at EM
    obtain ⟨o, cap, rfl⟩ : ∃ o cap, v = .slice o 0 cap := by
      rcases ho4.parts with ⟨rfl, -⟩ | ⟨g, cap, rfl, -⟩
      · exact ⟨none, 0, rfl⟩
      · exact ⟨some ⟨g, 0, none⟩, cap, rfl⟩
    have OF := Lib.hid (fun (W : World) (hb : Below w4.heap.size w4 W) => of_empty o cap W)
    rw [QX.out, QY.out] at SQ CN FI LA EM OF
    have hrun : Sem.run Tryd.prog (Builtin.len_ #[22] 3 #[.slice o 0 cap]) w4 = .ok (.int .i64 0) w4 := rfl
    rw [hrun]
    clear hrun ho4 s0 QX QY
    go_wp2_with fail
    have n0 := l0
    have n1 := l1
    have nz := hz
    have HN : Below w4.heap.size w4 w4 := bref w4
    go_region_held3 (fun w' => Below w4.heap.size w4 w' ∧ w.heap.size < w'.heap.size ∧ w'.cell? ⟨w.heap.size, 0, none⟩ = some (.int .u64 x) ∧ w'.cell? ⟨w.heap.size, 1, none⟩ = some (.int .u64 y)) (first | exact ⟨HN.drew, nz, n0, n1⟩ | exact held1_step (by assumption) hb)
      (first
        | (go_at_call 24; refine (SQ.out _ (held1_fst (by assumption))).mono ?_; rintro e wn ⟨v5, rfl, ho5, hb⟩)
        | (go_at_call 23; refine (SA.out _ (held1_fst (by assumption)) _ (ho5.mono (Nat.zero_le _))).mono ?_; rintro e wm ⟨rfl, hb⟩)
        | (go_at_call 25; refine (CN.out _).mono ?_; rintro e wn ⟨rfl, hb⟩)
        | (go_at_call 26; refine (FI.out _ (held1_fst (by assumption))).mono ?_; rintro e wn ⟨rfl, hb⟩)
        | (go_at_call 27; refine (LA.out _).mono ?_; rintro e wn ⟨rfl, hb⟩)
        | (go_at_call 20; refine (EM.out _).mono ?_; rintro e wn ⟨rfl, hb⟩)
        | (go_at_call 10; refine (OF.out _ (held1_fst (by assumption))).mono ?_; rintro e wn ⟨rfl, hb⟩))
    have hF : Below w4.heap.size w4 wn := held1_fst (by assumption)
    go_wp2
    go_ret
    exact ⟨rfl, bthen HB4.out hF⟩
  · obtain ⟨l, hl⟩ := last_sq n s0 h0
    have hf := first_sq n s0 h0
    rcases ho4.parts with ⟨-, hnil⟩ | ⟨g, cap, rfl, -, hg, hc⟩
    · exact absurd ((sqI_nil n s0).1 hnil) h0
    · have hlen := sqI_len n
      have hp := pop_le 81 n
      have hll := sqI_le n
      have OF := Lib.hid (fun (W : World) (hb : Below w4.heap.size w4 W) => of_any g 0 cap (sqI n) W (by omega) (Nat.lt_of_lt_of_le hg hb.size) (fun j hj => (hb.cell (p := ⟨g, 0 + j, none⟩) hg).trans (hc j hj)))
      rw [ofN_sqI n s0] at OF
      rw [QX.out, QY.out] at SQ CN FI LA EM OF
      have hpos : 0 < (sqI n).length := by rw [hl]; simp
      have c0 : w4.cell? ⟨g, 0, none⟩ = some (.int .i64 (firstF n)) := by
        have := hc 0 hpos
        rw [this]
        have e : (sqI n)[0] = firstF n := by
          have := hf
          rw [List.head?_eq_getElem?] at this
          exact (List.getElem?_eq_some_iff.1 this).2
        rw [e]
      have c1 : w4.cell? ⟨g, pop 81 n - 1, none⟩ = some (.int .i64 (lastF n)) := by
        have := hc (pop 81 n - 1) (by omega)
        rw [Nat.zero_add] at this
        rw [this]
        have e : (sqI n)[pop 81 n - 1]'(by omega) = lastF n := by
          have h2 : (sqI n)[pop 81 n - 1]? = some (lastF n) := by
            rw [← hlen, hl]
            simp
          exact (List.getElem?_eq_some_iff.1 h2).2
        rw [e]
      rw [hlen] at SA OF hpos ⊢
      rw [show decide (n = 0) = false by simp [h0]] at EM
      generalize sqI n = L at SQ SA
      generalize pop 81 n = c at *
      generalize firstF n = f1 at *
      generalize lastF n = f2 at *
      clear hc hlen hl hf h0 ho4 hll s0 QX QY l
      have e1 : (0 : Int) < (c : Int) := by omega
      have e2 : IntKind.i64.wrap ((c : Int) - 1) = ((c - 1 : Nat) : Int) := by rw [IntKind.wrap_i64]; omega
      have hrun : Sem.run Tryd.prog (Builtin.len_ #[22] 3 #[.slice (some ⟨g, 0, none⟩) c cap]) w4 = .ok (.int .i64 c) w4 := rfl
      rw [hrun]
      clear hrun
      go_wp2_with fail
      go_quiet (fail)
      go_wp2_with fail
      have t1 : ((c : Int) == 0) = false := by simp; omega
      have HN : Below w4.heap.size w4 (w4.drewN nq) := bdrewN (bref w4) nq
      have n0 : (w4.drewN nq).cell? ⟨w.heap.size, 0, none⟩ = some (.int .u64 x) := l0
      have n1 : (w4.drewN nq).cell? ⟨w.heap.size, 1, none⟩ = some (.int .u64 y) := l1
      have nz : w.heap.size < (w4.drewN nq).heap.size := hz
      go_region_held3 (fun w' => Below w4.heap.size w4 w' ∧ w.heap.size < w'.heap.size ∧ w'.cell? ⟨w.heap.size, 0, none⟩ = some (.int .u64 x) ∧ w'.cell? ⟨w.heap.size, 1, none⟩ = some (.int .u64 y)) (first | exact ⟨HN.drew, nz, n0, n1⟩ | exact held1_step (by assumption) hb)
        (first
          | (go_at_call 24; refine (SQ.out _ (held1_fst (by assumption))).mono ?_; rintro e wn ⟨v5, rfl, ho5, hb⟩)
          | (go_at_call 23; refine (SA.out _ (held1_fst (by assumption)) _ (ho5.mono (Nat.zero_le _))).mono ?_; rintro e wm ⟨rfl, hb⟩)
          | (go_at_call 25; refine (CN.out _).mono ?_; rintro e wn ⟨rfl, hb⟩)
          | (go_at_call 26; refine (FI.out _ (held1_fst (by assumption))).mono ?_; rintro e wn ⟨rfl, hb⟩)
          | (go_at_call 27; refine (LA.out _).mono ?_; rintro e wn ⟨rfl, hb⟩)
          | (go_at_call 20; refine (EM.out _).mono ?_; rintro e wn ⟨rfl, hb⟩)
          | (go_at_call 10; refine (OF.out _ (held1_fst (by assumption))).mono ?_; rintro e wn ⟨rfl, hb⟩))
      have hF : Below w4.heap.size w4 wn := held1_fst (by assumption)
      go_wp2
      go_ret
      exact ⟨rfl, bthen HB4.out hF⟩
end Go.Proofs.YtiecopkihlaidaaDoor.setLists
