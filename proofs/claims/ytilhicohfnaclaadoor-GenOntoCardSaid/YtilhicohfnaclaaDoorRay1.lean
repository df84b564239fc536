/-
  The ray package's Dirs and Way.
-/
import Derived.Test.YtilhicohfnaclaaDoorLineAll
namespace Go.Proofs.YtilhicohfnaclaaDoor
set_option maxRecDepth 100000
open Go.RowKit
set_option linter.unusedVariables false
set_option linter.unusedSimpArgs false

theorem rdirs_any (k : Int) (w : World) :
    Calls Tryd.prog 98 #[.int .i64 k] w fun e w' => ∃ v, e = .returned v ∧ DirsV w' w.heap.size v (rdirsL k) ∧ Below w.heap.size w w' := by
  by_cases h2 : k = 2
  · subst h2
    go_enter Tryd.func98, Tryd.ntmps98
    go_wp2
    go_ret
    exact ⟨_, rfl, DirsV.lit w _ (Nat.le_refl _) (rdirsL 2) _ _ 1 rfl rfl, ball (bref _) _⟩
  by_cases h6 : k = 6 ∨ k = 14
  · have e : rdirsL k = aslantL := by unfold rdirsL; rw [if_neg h2, if_pos h6]
    rw [e]
    rcases h6 with rfl | rfl
    all_goals
      go_enter Tryd.func98, Tryd.ntmps98
      go_wp2
      go_ret
      exact ⟨_, rfl, DirsV.lit w _ (Nat.le_refl _) aslantL _ _ 4 rfl rfl, ball (bref _) _⟩
  by_cases h7 : k = 7 ∨ k = 15
  · have e : rdirsL k = straightL := by unfold rdirsL; rw [if_neg h2, if_neg h6, if_pos h7]
    rw [e]
    rcases h7 with rfl | rfl
    all_goals
      go_enter Tryd.func98, Tryd.ntmps98
      go_wp2
      go_ret
      exact ⟨_, rfl, DirsV.lit w _ (Nat.le_refl _) straightL _ _ 4 rfl rfl, ball (bref _) _⟩
  have e : rdirsL k = [] := by unfold rdirsL; rw [if_neg h2, if_neg h6, if_neg h7]
  rw [e]
  have b2 : (k == 2) = false := by simpa using h2
  have b6 : (k == 6) = false := by simp; omega
  have b14 : (k == 14) = false := by simp; omega
  have b7 : (k == 7) = false := by simp; omega
  have b15 : (k == 15) = false := by simp; omega
  clear e h2 h6 h7
  go_enter Tryd.func98, Tryd.ntmps98
  go_wp2
  go_ret
  exact ⟨_, rfl, .inl ⟨rfl, rfl⟩, bref _⟩

set_option maxHeartbeats 1000000 in
theorem way_any (q f r : Int) (n : Nat) (hf : I64 f) (hr : I64 r) (hn : Sq n) (w : World) :
    Calls Tryd.prog 99 #[.int .i64 q, .agg #[.int .i64 f, .int .i64 r], .agg #[.int .u64 (loW n), .int .u64 (hiW n)]] w fun e w' => e = .returned (.agg #[.int .u64 (loW (wayN q (f, r) n)), .int .u64 (hiW (wayN q (f, r) n))]) ∧ Below w.heap.size w w' := by
  by_cases hd : f = 0 ∧ r = 0
  · obtain ⟨rfl, rfl⟩ := hd
    rw [show wayN q (0, 0) n = 0 from if_pos ⟨rfl, rfl⟩, lo_zero, hi_zero]
    generalize loW n = xn
    generalize hiW n = yn
    go_enter Tryd.func99, Tryd.ntmps99
    go_wp2
    exact bodyPost_ret (v := .agg #[.int .u64 0, .int .u64 0]) (by simp [results, Tryd.results99, go_sem]) rfl ⟨rfl, ball (ball (ball (ball (bref w) _) _) _) _⟩
  · have e0 : wayN q (f, r) n = ofN (wayL n (f, r) 9 (fromF (f, r) q)) := if_neg hd
    have hpp := pot_le (f, r) (fromF (f, r) q) (by have := from_where (f, r) q hf hr; omega)
    have hww := from_where (f, r) q hf hr
    have FW := Lib.hid (fun t => from_where (f, r) t hf hr)
    have PS := Lib.hid (fun t (ht : 0 ≤ t ∧ t < 81) => pot_step (f, r) t hf hr hd ht)
    have F := Lib.hid (fun t W => from_any f r t W)
    have S := Lib.hid (fun (P : List Int) (t : Int) W => with_any (ofN P) t (ofN_sq P) W)
    have A := Lib.hid (fun t W => has_any n t hn W)
    have HT := Lib.hid (fun (t : Int) => has_test n t)
    rw [e0]
    generalize hWL : wayL n (f, r) 9 (fromF (f, r) q) = WL
    have HWL := Lib.hid hWL
    have hd2 : ¬ f = 0 ∨ (f = 0 ∧ ¬ r = 0) := by omega
    clear hd e0 hf hr hn hWL
    generalize hxn : loW n = xn at A
    generalize hyn : hiW n = yn at A
    clear hxn hyn
    rcases hd2 with d1 | ⟨rfl, d1⟩
    · go_enter Tryd.func99, Tryd.ntmps99
      go_wp2_with fail
      refine (F.out q _).mono ?_
      rintro e w1 ⟨rfl, hb1⟩
      have m0 : w1.cell? ⟨w.heap.size, 0, none⟩ = some (.int .i64 f) := (hb1.cell (p := ⟨w.heap.size, 0, none⟩) (by simp <;> omega)).trans (by go_simp)
      have m1 : w1.cell? ⟨w.heap.size, 1, none⟩ = some (.int .i64 r) := (hb1.cell (p := ⟨w.heap.size, 1, none⟩) (by simp <;> omega)).trans (by go_simp)
      have m2 : w1.cell? ⟨w.heap.size + 1, 0, none⟩ = some (.int .u64 xn) := (hb1.cell (p := ⟨w.heap.size + 1, 0, none⟩) (by simp <;> omega)).trans (by go_simp)
      have m3 : w1.cell? ⟨w.heap.size + 1, 1, none⟩ = some (.int .u64 yn) := (hb1.cell (p := ⟨w.heap.size + 1, 1, none⟩) (by simp <;> omega)).trans (by go_simp)
      have V0 : Var w1 (w.heap.size + 1 + 1) 0 0 := Var.grow ⟨by simp, by go_simp, by go_simp, by go_simp, by go_simp⟩ hb1
      have V1 : Var w1 (w.heap.size + 1 + 1 + 1) 0 0 := Var.grow ⟨by simp, by go_simp, by go_simp, by go_simp, by go_simp⟩ hb1
      have B1 : Below w.heap.size w w1 := bthen (ball (ball (ball (ball (bref w) _) _) _) _) hb1
      clear hb1
      have VI : Var w1 (w.heap.size + 1 + 1 + 1) (loW (ofN ([] : List Int))) (hiW (ofN ([] : List Int))) := V1
      go_wp2_with fail
      go_loopw [8] (fun i wr => ∃ (t : Int) (P : List Int) (fu : Nat), i = .int .i64 t ∧ (t < 0 ∨ (0 ≤ t ∧ t < 81)) ∧ pot (f, r) t ≤ fu ∧ P ++ wayL n (f, r) fu t = WL ∧ Below w.heap.size w wr ∧ wr.cell? ⟨w.heap.size, 0, none⟩ = some (.int .i64 f) ∧ wr.cell? ⟨w.heap.size, 1, none⟩ = some (.int .i64 r) ∧ wr.cell? ⟨w.heap.size + 1, 0, none⟩ = some (.int .u64 xn) ∧ wr.cell? ⟨w.heap.size + 1, 1, none⟩ = some (.int .u64 yn) ∧ Var wr (w.heap.size + 1 + 1) 0 0 ∧ Var wr (w.heap.size + 1 + 1 + 1) (loW (ofN P)) (hiW (ofN P))) (fun i _ => pot (f, r) (intOf i))
      case atStart => exact ⟨_, [], 9, rfl, by omega, hpp, HWL.out, B1, m0, m1, m2, m3, V0, VI⟩
      case round =>
        obtain ⟨t, P, fu, rfl, ht, hpt, hP, hB, c0, c1, c2, c3, hR, hV⟩ := hrel
        clear m0 m1 m2 m3 V0 V1 VI B1 hpp hww HWL
        have HB := Lib.hid hB
        have HR := Lib.hid hR
        have HV := Lib.hid hV
        have hz := hV.lt
        have hz0 : w.heap.size < wr.heap.size := by omega
        have hz1 : w.heap.size + 1 < wr.heap.size := by omega
        have hz2 : w.heap.size + 1 + 1 < wr.heap.size := by omega
        have l0 := hV.lo
        have l1 := hV.hi
        have l2 := hV.f0
        have l3 := hV.f1
        have r0 := hR.lo
        have r1 := hR.hi
        have r2 := hR.f0
        have r3 := hR.f1
        clear hB hR hV
        by_cases hneg : t < 0
        · have hPW : P = WL := by
            rw [← hP]
            have : wayL n (f, r) fu t = [] := by
              cases fu with
              | zero => rfl
              | succ fu => exact if_pos hneg
            rw [this, List.append_nil]
          subst hPW
          clear hP hpt FW PS S A HT
          generalize hx : loW (ofN P) = x at l0 HV
          generalize hy : hiW (ofN P) = y at l1 HV
          have HX := Lib.hid hx
          have HY := Lib.hid hy
          clear hx hy
          go_wp2
          rw [HX.out, HY.out]
          exact bodyPost_ret (v := .agg #[.int .u64 x, .int .u64 y]) (by simp [results, Tryd.results99, go_sem, r0, r1]) rfl
            ⟨rfl, (HB.out.setCell (by simp; omega) _).setCell (by simp; omega) _⟩
        · have ht' : 0 ≤ t ∧ t < 81 := by omega
          have hps := PS.out t ht'
          have hfw := FW.out t
          obtain ⟨fu, rfl⟩ : ∃ k, fu = k + 1 := ⟨fu - 1, by omega⟩
          have hst : wayL n (f, r) (fu + 1) t = t :: (if n.testBit t.toNat then [] else wayL n (f, r) fu (fromF (f, r) t)) := if_neg hneg
          rw [hst] at hP
          have C := Lib.hid (S.out P t)
          rw [← ofN_snoc] at C
          have H := Lib.hid (A.out t)
          have e1 : (!decide (n &&& oneN t = 0)) = n.testBit t.toNat := by
            rw [HT.out t]
            simp [ht'.1, ht'.2]
          rw [e1] at H
          have Fm := Lib.hid (F.out t)
          have hge : 0 ≤ t := ht'.1
          clear S A HT e1 hst FW PS F
          generalize hx : loW (ofN (P ++ [t])) = x2 at C ⊢
          generalize hy : hiW (ofN (P ++ [t])) = y2 at C ⊢
          generalize loW (ofN P) = x at l0 HV C
          generalize hiW (ofN P) = y at l1 HV C
          have HX := Lib.hid hx
          have HY := Lib.hid hy
          have HPL := Lib.hid hP
          clear hx hy hP
          by_cases hbit : n.testBit t.toNat = true
          · have hPW : Hid (P ++ [t] = WL) := by
              have := HPL.out
              rw [if_pos hbit] at this
              exact this
            rw [hbit] at H
            clear HPL hps hfw hpt
            go_wp2_with fail
            refine (C.out _).mono ?_
            rintro e w2 ⟨rfl, hb2⟩
            obtain ⟨hc2, hf2⟩ := bcells hb2
            have hs2 := hb2.size
            have k0 : w.heap.size < w2.heap.size := by omega
            have k1 : w.heap.size + 1 < w2.heap.size := by omega
            have k2 : w.heap.size + 1 + 1 < w2.heap.size := by omega
            have k3 : w.heap.size + 1 + 1 + 1 < w2.heap.size := by omega
            go_wp2_with fail
            refine (H.out _).mono ?_
            rintro e w4 ⟨rfl, hb4⟩
            obtain ⟨hc4, hf4⟩ := bcells hb4
            have hs4 := hb4.size
            simp at hs4
            have j0 : w.heap.size < w4.heap.size := by omega
            have j1 : w.heap.size + 1 < w4.heap.size := by omega
            have j2 : w.heap.size + 1 + 1 < w4.heap.size := by omega
            have j3 : w.heap.size + 1 + 1 + 1 < w4.heap.size := by omega
            go_wp2
            rw [← hPW.out, HX.out, HY.out]
            have B3 := ((HB.out.trans (hb2.mono HB.out.size)).setCell (p := ⟨w.heap.size + 1 + 1 + 1, 0, none⟩) (by simp; omega) (.int .u64 x2)).setCell (p := ⟨w.heap.size + 1 + 1 + 1, 1, none⟩) (by simp; omega) (.int .u64 y2)
            exact bodyPost_ret (v := .agg #[.int .u64 x2, .int .u64 y2]) (by simp [results, Tryd.results99, go_sem, *]) rfl
              ⟨rfl, ((B3.trans (hb4.mono B3.size)).setCell (by simp; omega) _).setCell (by simp; omega) _⟩
          · have hPW : Hid ((P ++ [t]) ++ wayL n (f, r) fu (fromF (f, r) t) = WL) := by
              have := HPL.out
              rw [if_neg hbit] at this
              unfold Hid
              rw [List.append_assoc]
              exact this
            have hb0 : n.testBit t.toNat = false := by simpa using hbit
            rw [hb0] at H
            go_wp2_with fail
            refine (C.out _).mono ?_
            rintro e w2 ⟨rfl, hb2⟩
            obtain ⟨hc2, hf2⟩ := bcells hb2
            have hs2 := hb2.size
            have k0 : w.heap.size < w2.heap.size := by omega
            have k1 : w.heap.size + 1 < w2.heap.size := by omega
            have k2 : w.heap.size + 1 + 1 < w2.heap.size := by omega
            have k3 : w.heap.size + 1 + 1 + 1 < w2.heap.size := by omega
            go_wp2_with fail
            refine (H.out _).mono ?_
            rintro e w4 ⟨rfl, hb4⟩
            obtain ⟨hc4, hf4⟩ := bcells hb4
            have hs4 := hb4.size
            simp at hs4
            have j0 : w.heap.size < w4.heap.size := by omega
            have j1 : w.heap.size + 1 < w4.heap.size := by omega
            have j2 : w.heap.size + 1 + 1 < w4.heap.size := by omega
            have j3 : w.heap.size + 1 + 1 + 1 < w4.heap.size := by omega
            go_wp2_with (go_at_call 121; refine (Fm.out _).mono ?_; rintro e w5 ⟨rfl, hb5⟩)
            go_roundw
            case rel =>
              have hbb := bthen hb4 hb5
              have B3 := ((HB.out.trans (hb2.mono HB.out.size)).setCell (p := ⟨w.heap.size + 1 + 1 + 1, 0, none⟩) (by simp; omega) (.int .u64 x2)).setCell (p := ⟨w.heap.size + 1 + 1 + 1, 1, none⟩) (by simp; omega) (.int .u64 y2)
              refine ⟨_, P ++ [t], fu, rfl, by omega, by omega, hPW.out, B3.trans (hbb.mono B3.size), ?_, ?_, ?_, ?_, ((HR.out.grow hb2).other (by omega) _ _).grow hbb, ?_⟩
              · exact (hbb.cell (p := ⟨w.heap.size, 0, none⟩) (by simp; omega)).trans (by go_simp)
              · exact (hbb.cell (p := ⟨w.heap.size, 1, none⟩) (by simp; omega)).trans (by go_simp)
              · exact (hbb.cell (p := ⟨w.heap.size + 1, 0, none⟩) (by simp; omega)).trans (by go_simp)
              · exact (hbb.cell (p := ⟨w.heap.size + 1, 1, none⟩) (by simp; omega)).trans (by go_simp)
              · rw [HX.out, HY.out]
                exact ((HV.out.grow hb2).put _ _).grow hbb
            case measure => simp [intOf]; omega
    · go_enter Tryd.func99, Tryd.ntmps99
      go_wp2_with fail
      refine (F.out q _).mono ?_
      rintro e w1 ⟨rfl, hb1⟩
      have m0 : w1.cell? ⟨w.heap.size, 0, none⟩ = some (.int .i64 0) := (hb1.cell (p := ⟨w.heap.size, 0, none⟩) (by simp <;> omega)).trans (by go_simp)
      have m1 : w1.cell? ⟨w.heap.size, 1, none⟩ = some (.int .i64 r) := (hb1.cell (p := ⟨w.heap.size, 1, none⟩) (by simp <;> omega)).trans (by go_simp)
      have m2 : w1.cell? ⟨w.heap.size + 1, 0, none⟩ = some (.int .u64 xn) := (hb1.cell (p := ⟨w.heap.size + 1, 0, none⟩) (by simp <;> omega)).trans (by go_simp)
      have m3 : w1.cell? ⟨w.heap.size + 1, 1, none⟩ = some (.int .u64 yn) := (hb1.cell (p := ⟨w.heap.size + 1, 1, none⟩) (by simp <;> omega)).trans (by go_simp)
      have V0 : Var w1 (w.heap.size + 1 + 1) 0 0 := Var.grow ⟨by simp, by go_simp, by go_simp, by go_simp, by go_simp⟩ hb1
      have V1 : Var w1 (w.heap.size + 1 + 1 + 1) 0 0 := Var.grow ⟨by simp, by go_simp, by go_simp, by go_simp, by go_simp⟩ hb1
      have B1 : Below w.heap.size w w1 := bthen (ball (ball (ball (ball (bref w) _) _) _) _) hb1
      clear hb1
      have VI : Var w1 (w.heap.size + 1 + 1 + 1) (loW (ofN ([] : List Int))) (hiW (ofN ([] : List Int))) := V1
      go_wp2_with fail
      go_loopw [8] (fun i wr => ∃ (t : Int) (P : List Int) (fu : Nat), i = .int .i64 t ∧ (t < 0 ∨ (0 ≤ t ∧ t < 81)) ∧ pot (0, r) t ≤ fu ∧ P ++ wayL n (0, r) fu t = WL ∧ Below w.heap.size w wr ∧ wr.cell? ⟨w.heap.size, 0, none⟩ = some (.int .i64 0) ∧ wr.cell? ⟨w.heap.size, 1, none⟩ = some (.int .i64 r) ∧ wr.cell? ⟨w.heap.size + 1, 0, none⟩ = some (.int .u64 xn) ∧ wr.cell? ⟨w.heap.size + 1, 1, none⟩ = some (.int .u64 yn) ∧ Var wr (w.heap.size + 1 + 1) 0 0 ∧ Var wr (w.heap.size + 1 + 1 + 1) (loW (ofN P)) (hiW (ofN P))) (fun i _ => pot (0, r) (intOf i))
      case atStart => exact ⟨_, [], 9, rfl, by omega, hpp, HWL.out, B1, m0, m1, m2, m3, V0, VI⟩
      case round =>
        obtain ⟨t, P, fu, rfl, ht, hpt, hP, hB, c0, c1, c2, c3, hR, hV⟩ := hrel
        clear m0 m1 m2 m3 V0 V1 VI B1 hpp hww HWL
        have HB := Lib.hid hB
        have HR := Lib.hid hR
        have HV := Lib.hid hV
        have hz := hV.lt
        have hz0 : w.heap.size < wr.heap.size := by omega
        have hz1 : w.heap.size + 1 < wr.heap.size := by omega
        have hz2 : w.heap.size + 1 + 1 < wr.heap.size := by omega
        have l0 := hV.lo
        have l1 := hV.hi
        have l2 := hV.f0
        have l3 := hV.f1
        have r0 := hR.lo
        have r1 := hR.hi
        have r2 := hR.f0
        have r3 := hR.f1
        clear hB hR hV
        by_cases hneg : t < 0
        · have hPW : P = WL := by
            rw [← hP]
            have : wayL n (0, r) fu t = [] := by
              cases fu with
              | zero => rfl
              | succ fu => exact if_pos hneg
            rw [this, List.append_nil]
          subst hPW
          clear hP hpt FW PS S A HT
          generalize hx : loW (ofN P) = x at l0 HV
          generalize hy : hiW (ofN P) = y at l1 HV
          have HX := Lib.hid hx
          have HY := Lib.hid hy
          clear hx hy
          go_wp2
          rw [HX.out, HY.out]
          exact bodyPost_ret (v := .agg #[.int .u64 x, .int .u64 y]) (by simp [results, Tryd.results99, go_sem, r0, r1]) rfl
            ⟨rfl, (HB.out.setCell (by simp; omega) _).setCell (by simp; omega) _⟩
        · have ht' : 0 ≤ t ∧ t < 81 := by omega
          have hps := PS.out t ht'
          have hfw := FW.out t
          obtain ⟨fu, rfl⟩ : ∃ k, fu = k + 1 := ⟨fu - 1, by omega⟩
          have hst : wayL n (0, r) (fu + 1) t = t :: (if n.testBit t.toNat then [] else wayL n (0, r) fu (fromF (0, r) t)) := if_neg hneg
          rw [hst] at hP
          have C := Lib.hid (S.out P t)
          rw [← ofN_snoc] at C
          have H := Lib.hid (A.out t)
          have e1 : (!decide (n &&& oneN t = 0)) = n.testBit t.toNat := by
            rw [HT.out t]
            simp [ht'.1, ht'.2]
          rw [e1] at H
          have Fm := Lib.hid (F.out t)
          have hge : 0 ≤ t := ht'.1
          clear S A HT e1 hst FW PS F
          generalize hx : loW (ofN (P ++ [t])) = x2 at C ⊢
          generalize hy : hiW (ofN (P ++ [t])) = y2 at C ⊢
          generalize loW (ofN P) = x at l0 HV C
          generalize hiW (ofN P) = y at l1 HV C
          have HX := Lib.hid hx
          have HY := Lib.hid hy
          have HPL := Lib.hid hP
          clear hx hy hP
          by_cases hbit : n.testBit t.toNat = true
          · have hPW : Hid (P ++ [t] = WL) := by
              have := HPL.out
              rw [if_pos hbit] at this
              exact this
            rw [hbit] at H
            clear HPL hps hfw hpt
            go_wp2_with fail
            refine (C.out _).mono ?_
            rintro e w2 ⟨rfl, hb2⟩
            obtain ⟨hc2, hf2⟩ := bcells hb2
            have hs2 := hb2.size
            have k0 : w.heap.size < w2.heap.size := by omega
            have k1 : w.heap.size + 1 < w2.heap.size := by omega
            have k2 : w.heap.size + 1 + 1 < w2.heap.size := by omega
            have k3 : w.heap.size + 1 + 1 + 1 < w2.heap.size := by omega
            go_wp2_with fail
            refine (H.out _).mono ?_
            rintro e w4 ⟨rfl, hb4⟩
            obtain ⟨hc4, hf4⟩ := bcells hb4
            have hs4 := hb4.size
            simp at hs4
            have j0 : w.heap.size < w4.heap.size := by omega
            have j1 : w.heap.size + 1 < w4.heap.size := by omega
            have j2 : w.heap.size + 1 + 1 < w4.heap.size := by omega
            have j3 : w.heap.size + 1 + 1 + 1 < w4.heap.size := by omega
            go_wp2
            rw [← hPW.out, HX.out, HY.out]
            have B3 := ((HB.out.trans (hb2.mono HB.out.size)).setCell (p := ⟨w.heap.size + 1 + 1 + 1, 0, none⟩) (by simp; omega) (.int .u64 x2)).setCell (p := ⟨w.heap.size + 1 + 1 + 1, 1, none⟩) (by simp; omega) (.int .u64 y2)
            exact bodyPost_ret (v := .agg #[.int .u64 x2, .int .u64 y2]) (by simp [results, Tryd.results99, go_sem, *]) rfl
              ⟨rfl, ((B3.trans (hb4.mono B3.size)).setCell (by simp; omega) _).setCell (by simp; omega) _⟩
          · have hPW : Hid ((P ++ [t]) ++ wayL n (0, r) fu (fromF (0, r) t) = WL) := by
              have := HPL.out
              rw [if_neg hbit] at this
              unfold Hid
              rw [List.append_assoc]
              exact this
            have hb0 : n.testBit t.toNat = false := by simpa using hbit
            rw [hb0] at H
            go_wp2_with fail
            refine (C.out _).mono ?_
            rintro e w2 ⟨rfl, hb2⟩
            obtain ⟨hc2, hf2⟩ := bcells hb2
            have hs2 := hb2.size
            have k0 : w.heap.size < w2.heap.size := by omega
            have k1 : w.heap.size + 1 < w2.heap.size := by omega
            have k2 : w.heap.size + 1 + 1 < w2.heap.size := by omega
            have k3 : w.heap.size + 1 + 1 + 1 < w2.heap.size := by omega
            go_wp2_with fail
            refine (H.out _).mono ?_
            rintro e w4 ⟨rfl, hb4⟩
            obtain ⟨hc4, hf4⟩ := bcells hb4
            have hs4 := hb4.size
            simp at hs4
            have j0 : w.heap.size < w4.heap.size := by omega
            have j1 : w.heap.size + 1 < w4.heap.size := by omega
            have j2 : w.heap.size + 1 + 1 < w4.heap.size := by omega
            have j3 : w.heap.size + 1 + 1 + 1 < w4.heap.size := by omega
            go_wp2_with (go_at_call 121; refine (Fm.out _).mono ?_; rintro e w5 ⟨rfl, hb5⟩)
            go_roundw
            case rel =>
              have hbb := bthen hb4 hb5
              have B3 := ((HB.out.trans (hb2.mono HB.out.size)).setCell (p := ⟨w.heap.size + 1 + 1 + 1, 0, none⟩) (by simp; omega) (.int .u64 x2)).setCell (p := ⟨w.heap.size + 1 + 1 + 1, 1, none⟩) (by simp; omega) (.int .u64 y2)
              refine ⟨_, P ++ [t], fu, rfl, by omega, by omega, hPW.out, B3.trans (hbb.mono B3.size), ?_, ?_, ?_, ?_, ((HR.out.grow hb2).other (by omega) _ _).grow hbb, ?_⟩
              · exact (hbb.cell (p := ⟨w.heap.size, 0, none⟩) (by simp; omega)).trans (by go_simp)
              · exact (hbb.cell (p := ⟨w.heap.size, 1, none⟩) (by simp; omega)).trans (by go_simp)
              · exact (hbb.cell (p := ⟨w.heap.size + 1, 0, none⟩) (by simp; omega)).trans (by go_simp)
              · exact (hbb.cell (p := ⟨w.heap.size + 1, 1, none⟩) (by simp; omega)).trans (by go_simp)
              · rw [HX.out, HY.out]
                exact ((HV.out.grow hb2).put _ _).grow hbb
            case measure => simp [intOf]; omega
end Go.Proofs.YtilhicohfnaclaaDoor
