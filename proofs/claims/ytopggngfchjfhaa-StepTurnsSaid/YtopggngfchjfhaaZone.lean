/-
  The step package's Zone, and the statements' head 'steps'.
-/
import Derived.Test.YtopggngfchjfhaaStep3
namespace Go.Proofs.Ytopggngfchjfhaa
open Go.RowKit
set_option linter.unusedVariables false
set_option linter.unusedSimpArgs false

/-- The squares below k where a side's pieces are promoted. -/
def zoneL (s : Int) (k : Nat) : List Int := ((List.range k).filter (fun (q : Nat) => decide (0 ≤ farF s q ∧ farF s q ≤ 2))).map (fun (q : Nat) => (q : Int))
theorem zoneL_step (s : Int) (k : Nat) : zoneL s (k + 1) = if 0 ≤ farF s k ∧ farF s k ≤ 2 then zoneL s k ++ [(k : Int)] else zoneL s k := by
  unfold zoneL
  rw [List.range_succ, List.filter_append, List.map_append]
  by_cases h : 0 ≤ farF s k ∧ farF s k ≤ 2
  · simp [h]
  · rw [if_neg h]
    simp [h]
theorem zone_put (s : Int) (k : Nat) (h : 0 ≤ farF s k ∧ farF s k ≤ 2) : ofN (zoneL s (k + 1)) = ofN (zoneL s k) ||| oneN k := by
  rw [zoneL_step, if_pos h, ofN_snoc]
theorem zone_not (s : Int) (k : Nat) (h : ¬ (0 ≤ farF s k ∧ farF s k ≤ 2)) : ofN (zoneL s (k + 1)) = ofN (zoneL s k) := by
  rw [zoneL_step, if_neg h]

set_option maxHeartbeats 1000000 in
theorem zone_any (s : Int) (w : World) :
    Calls Try.prog 20 #[.int .i64 s] w fun e w' => e = .returned (.agg #[.int .u64 (loW (ofN (zoneL s 81))), .int .u64 (hiW (ofN (zoneL s 81)))]) ∧ Below w.heap.size w w' := by
  go_enter Try.func20, Try.ntmps20
  go_wp2
  have V0 : Var ((w.alloc (Obj.cells #[Value.int IntKind.u64 0, Value.int IntKind.u64 0] 27)).alloc (Obj.cells #[Value.int IntKind.u64 0, Value.int IntKind.u64 0] 27)) w.heap.size 0 0 := ⟨by simp; omega, by go_simp, by go_simp, by go_simp, by go_simp⟩
  have V1 : Var ((w.alloc (Obj.cells #[Value.int IntKind.u64 0, Value.int IntKind.u64 0] 27)).alloc (Obj.cells #[Value.int IntKind.u64 0, Value.int IntKind.u64 0] 27)) (w.heap.size + 1) 0 0 := ⟨by simp, by go_simp, by go_simp, by go_simp, by go_simp⟩
  have hB0 : Below w.heap.size w ((w.alloc (Obj.cells #[Value.int IntKind.u64 0, Value.int IntKind.u64 0] 27)).alloc (Obj.cells #[Value.int IntKind.u64 0, Value.int IntKind.u64 0] 27)) := ball (ball (bref _) _) _
  generalize (w.alloc (Obj.cells #[Value.int IntKind.u64 0, Value.int IntKind.u64 0] 27)).alloc (Obj.cells #[Value.int IntKind.u64 0, Value.int IntKind.u64 0] 27) = w2 at V0 V1 hB0 ⊢
  go_loopw [6] (fun i wr => ∃ k : Nat, k ≤ 81 ∧ i = .int .i64 k ∧ Below w.heap.size w wr ∧ Var wr w.heap.size 0 0 ∧ Var wr (w.heap.size + 1) (loW (ofN (zoneL s k))) (hiW (ofN (zoneL s k)))) (fun i _ => 81 - (intOf i).toNat)
  case atStart => exact ⟨0, Nat.zero_le _, rfl, hB0, V0, (by rw [show ofN (zoneL s 0) = 0 from rfl, lo_zero, hi_zero]; exact V1)⟩
  case round =>
    obtain ⟨k, hk, rfl, hB, hR, hV⟩ := hrel
    clear V0 V1 hB0
    have HB := Lib.hid hB
    have HR := Lib.hid hR
    have HV := Lib.hid hV
    have hz := hV.lt
    have wk : wrap64 ((k : Int) + 1) = ((k + 1 : Nat) : Int) := by unfold wrap64; omega
    by_cases hlt : k < 81
    · have Fa := Lib.hid (fun W => far_any s k W)
      by_cases hc : 0 ≤ farF s k ∧ farF s k ≤ 2
      · have C := Lib.hid (fun W => with_any (ofN (zoneL s k)) k (ofN_sq _) W)
        rw [← zone_put s k hc] at C
        have l0 := hV.lo
        have l1 := hV.hi
        have l2 := hV.f0
        have l3 := hV.f1
        obtain ⟨g0, g1⟩ := hc
        clear hB hR hV
        generalize farF s k = fa at Fa g0 g1
        generalize loW (ofN (zoneL s k)) = x at C l0 HV
        generalize hiW (ofN (zoneL s k)) = y at C l1 HV
        generalize hx : loW (ofN (zoneL s (k + 1))) = x2 at C
        generalize hy : hiW (ofN (zoneL s (k + 1))) = y2 at C
        have HX := Lib.hid hx
        have HY := Lib.hid hy
        clear hx hy
        go_wp2_with (go_at_call 18; refine (Fa.out _).mono ?_; rintro e w3 ⟨rfl, hb3⟩; obtain ⟨hc3, hf3⟩ := bcells hb3; have hz3 : wr.heap.size ≤ w3.heap.size := hb3.size)
        refine (C.out _).mono ?_
        rintro e w4 ⟨rfl, hb4⟩
        have hbb := bthen hb3 hb4
        obtain ⟨hc4, hf4⟩ := bcells hbb
        have hz4 : wr.heap.size ≤ w4.heap.size := hbb.size
        go_wp2
        go_roundw
        case rel =>
          refine ⟨k + 1, by omega, by go_num, ?_, ?_, ?_⟩
          · exact ((HB.out.trans (hbb.mono HB.out.size)).setCell (by simp) _).setCell (by simp) _
          · exact (HR.out.grow hbb).other (by omega) _ _
          · rw [HX.out, HY.out]
            exact (HV.out.grow hbb).put _ _
        case measure => simp [intOf]; omega
      · have e := zone_not s k hc
        rw [← e] at HV
        have hcc : ¬ 0 ≤ farF s k ∨ (0 ≤ farF s k ∧ ¬ farF s k ≤ 2) := by omega
        clear hB hR hV hc e
        generalize farF s k = fa at Fa hcc
        rcases hcc with g0 | ⟨g0, g1⟩
        all_goals
          go_wp2_with (go_at_call 18; refine (Fa.out _).mono ?_; rintro e w3 ⟨rfl, hb3⟩)
          go_roundw
          case rel => exact ⟨k + 1, by omega, by go_num, HB.out.trans (hb3.mono HB.out.size), HR.out.grow hb3, HV.out.grow hb3⟩
          case measure => simp [intOf]; omega
    · obtain rfl : k = 81 := by omega
      have l0 := hV.lo
      have l1 := hV.hi
      have r0 := hR.lo
      have r1 := hR.hi
      have r2 := hR.f0
      have r3 := hR.f1
      clear hB hR hV
      generalize hx : loW (ofN (zoneL s 81)) = x at l0 HV
      generalize hy : hiW (ofN (zoneL s 81)) = y at l1 HV
      have HX := Lib.hid hx
      have HY := Lib.hid hy
      clear hx hy
      go_wp2
      rw [HX.out, HY.out]
      exact bodyPost_ret (v := .agg #[.int .u64 x, .int .u64 y]) (by simp [results, Try.results20, go_sem, r0, r1]) rfl
        ⟨rfl, (HB.out.setCell (Nat.le_refl _) _).setCell (Nat.le_refl _) _⟩
end Go.Proofs.Ytopggngfchjfhaa
