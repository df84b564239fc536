/-
  The walk of the law RayTurns: for every two numbers and pair of words it returns true.
-/
import Derived.Test.YtmpjjdlohneiiaaDoorRayHead
import Derived.Test.YtmpjjdlohneiiaaDoorRayMore
import Derived.Test.YtmpjjdlohneiiaaDoorLineIn
import Derived.Test.YtmpjjdlohneiiaaDoorReal
import Derived.Test.YtmpjjdlohneiiaaDoorBlkg
import Derived.Test.YtmpjjdlohneiiaaDoorLists2
import Derived.Test.YtmpjjdlohneiiaaDoorTable
import Derived.OpenShut
import Derived.Deep.RegionHeld3
namespace Go.Proofs.YtmpjjdlohneiiaaDoor.rayTurns
open Go.RowKit
set_option linter.unusedVariables false
set_option linter.unusedSimpArgs false

/-- A set turned about. -/
def revL (n : Nat) : List Int := (sqI n).map (fun x => 80 - x)
def revN (n : Nat) : Nat := ofN (revL n)
theorem rev_test (n i : Nat) (hi : i < 81) : (revN n).testBit (80 - i) = n.testBit i := by
  unfold revN revL
  rw [ofN_test, Bool.eq_iff_iff, decide_eq_true_eq, List.mem_map]
  constructor
  · rintro ⟨⟨x, hx, he⟩, -⟩
    have e : x = (i : Int) := by omega
    rw [e] at hx
    exact ((mem_sqI n i).1 hx).2
  · intro h
    exact ⟨⟨(i : Int), (mem_sqI n i).2 ⟨hi, h⟩, by omega⟩, by omega⟩
theorem zero_set (w : World) : (zeroValue 24).run Tryd.prog w = .ok (.agg #[.int .u64 0, .int .u64 0]) w := by kernel_rfl
theorem build_set (w : World) : (Instr.build 24 #[]).run Tryd.prog w = .ok (.agg #[.int .u64 0, .int .u64 0]) w := by kernel_rfl

theorem wrap_i8_eq (n : Int) (h0 : -128 ≤ n) (h1 : n ≤ 127) : IntKind.i8.wrap n = n := by
  simp [IntKind.wrap, IntKind.bits, IntKind.signed]
  split <;> omega
theorem row_cell0 {w : World} {g : Nat} {x y : Value} {T : TypeId} (h : w.heap[g]? = some (.cells #[x, y] T (0, 0))) : w.cell? ⟨g, 0, none⟩ = some x := by simp [World.cell?, h]
theorem row_cell1 {w : World} {g : Nat} {x y : Value} {T : TypeId} (h : w.heap[g]? = some (.cells #[x, y] T (0, 0))) : w.cell? ⟨g, 1, none⟩ = some y := by simp [World.cell?, h]

set_option maxHeartbeats 2000000 in
theorem walk_far (k q a b : Int) (g2 : (Lit.int .u64 a).wf = true) (g3 : (Lit.int .u64 b).wf = true) (hb : k < 1 ∨ 15 < k ∨ q < 0 ∨ 80 < q) (w : World) :
    Calls Tryd.prog 5 #[.int .i64 k, .int .i64 q, .agg #[.int .u64 a, .int .u64 b]] w fun e w' => e = .returned (.bool true) ∧ Below w.heap.size w w' := by
  have H := Lib.hid (fun W => slides_true W)
  clear g2 g3
  have hc : k < 1 ∨ (¬ k < 1 ∧ 15 < k) ∨ (¬ k < 1 ∧ ¬ 15 < k ∧ q < 0) ∨ (¬ k < 1 ∧ ¬ 15 < k ∧ ¬ q < 0 ∧ 80 < q) := by omega
  clear hb
  rcases hc with c1 | ⟨c1, c2⟩ | ⟨c1, c2, c3⟩ | ⟨c1, c2, c3, c4⟩
  all_goals
    go_enter Tryd.func5, Tryd.ntmps5
    go_wp2_with (go_at_call 17; refine (H.out _).mono ?_; rintro e w1 ⟨rfl, hb1⟩)
    go_ret
    exact ⟨rfl, bthen (ball (bref w) _) hb1⟩

set_option maxHeartbeats 4000000 in
theorem walk_6 (a b : Int) (q : Nat) (g2 : (Lit.int .u64 a).wf = true) (g3 : (Lit.int .u64 b).wf = true) (hq : q < 81) (w : World) (hT : Tab w) :
    Calls Tryd.prog 5 #[.int .i64 (6 : Int), .int .i64 (q : Int), .agg #[.int .u64 a, .int .u64 b]] w fun e w' => e = .returned (.bool true) ∧ Below w.heap.size w w' := by
  have hk : 1 ≤ (6 : Int) ∧ (6 : Int) ≤ 15 := by omega
  have H := Lib.hid (fun W => slides_true W)
  have R := Lib.hid (fun W => real4_any a b (bounds_u64 g2).1 (bounds_u64 g2).2 (bounds_u64 g3).1 (bounds_u64 g3).2 W)
  have s0 := realN_sq a b
  generalize realN a b = n at R s0
  have SQ := Lib.hid (fun (W : World) (hT : Tab W) (h : 1 ≤ W.heap.size) => squares_any n s0 W hT h)
  have HT := Lib.hid hT
  have S0 := Lib.hid s0
  clear g2 g3 hT s0
  generalize hx : loW n = xn at R SQ
  generalize hy : hiW n = yn at R SQ
  have HXN := Lib.hid hx
  have HYN := Lib.hid hy
  clear hx hy
  have hz := zero_set
  have hzb := build_set
  have b1 : ¬ (6 : Int) < 1 := by omega
  have b2 : ¬ 15 < (6 : Int) := by omega
  have b3 : ¬ (q : Int) < 0 := by omega
  have b4 : ¬ 80 < (q : Int) := by omega
  go_enter Tryd.func5, Tryd.ntmps5
  go_wp2_with (first
    | (go_at_call 17; refine (H.out _).mono ?_; rintro e w1 ⟨rfl, hb1⟩; obtain ⟨hc1, hf1⟩ := bcells hb1; have hz1 : w.heap.size < w1.heap.size := by (have := hb1.size; simp at this; omega))
    | (go_at_call 18; refine (R.out _).mono ?_; rintro e w2 ⟨rfl, hb2⟩; obtain ⟨hc2, hf2⟩ := bcells hb2; have hz2 : w.heap.size < w2.heap.size := by (have := hb2.size; omega))
    | (go_at_call 21; refine (SQ.out _ (HT.out.grow (ball (((bthen (bthen (ball (bref w) _) hb1) hb2).setCell (Nat.le_refl _) _).setCell (Nat.le_refl _) _) _)) (by simp)).mono ?_; rintro e w3 ⟨v, rfl, hO, hb3⟩))
  have B3 := Lib.hid (bthen (ball (((bthen (bthen (ball (bref w) _) hb1) hb2).setCell (Nat.le_refl w.heap.size) (p := ⟨w.heap.size, 0, none⟩) (.int .u64 xn)).setCell (Nat.le_refl w.heap.size) (p := ⟨w.heap.size, 1, none⟩) (.int .u64 yn)) (.cells #[.int .u64 0, .int .u64 0] 24)) hb3)
  have hl3 : w2.heap.size < w3.heap.size := by have := hb3.size; simp at this; omega
  have t0 : w3.cell? ⟨w.heap.size, 0, none⟩ = some (.int .u64 xn) := (hb3.cell (p := ⟨w.heap.size, 0, none⟩) (by simp; omega)).trans (by go_simp)
  have t1 : w3.cell? ⟨w.heap.size, 1, none⟩ = some (.int .u64 yn) := (hb3.cell (p := ⟨w.heap.size, 1, none⟩) (by simp; omega)).trans (by go_simp)
  have V7 : Var w3 w2.heap.size 0 0 := Var.grow ⟨by simp, by go_simp, by go_simp, by go_simp, by go_simp⟩ hb3
  have HO := Lib.hid (hO.mono (C := w2.heap.size + 1) (by simp)).parts
  have hne : w.heap.size < w2.heap.size := hz2
  have T0 := Lib.hid t0
  have T1 := Lib.hid t1
  have HV7 := Lib.hid V7
  have hlen := sqI_le n
  clear hO hb3 hb1 hb2 hc1 hf1 hz1 hc2 hf2 hz2 H R SQ HT hz hzb t0 t1 V7
  generalize w2.heap.size = bt at *
  have HREV := Lib.hid (fun i hi => rev_test n i hi)
  have hrl : revL n = (sqI n).map (fun x => 80 - x) := rfl
  have hrn : revN n = ofN (revL n) := rfl
  have HREVN := Lib.hid hrn.symm
  have HBG := Lib.hid (fun (g : Nat) (h : bt + 1 ≤ g) => (h : bt < g))
  have hin : ∀ x ∈ sqI n, 0 ≤ x ∧ x < 81 := by
    intro x hx
    unfold sqI at hx
    obtain ⟨i, hi, rfl⟩ := List.mem_map.1 hx
    have := ((mem_sqI n i).1 (List.mem_map.2 ⟨i, hi, rfl⟩)).1
    omega
  have HIN := Lib.hid hin
  clear hrn hin hrl
  obtain ⟨o, cap, rfl, hsl⟩ : ∃ o cap, v = .slice o (sqI n).length cap ∧ (∀ (j : Nat) (hj : j < (sqI n).length), ∃ g, o = some ⟨g, 0, none⟩ ∧ bt < g ∧ g < w3.heap.size ∧ w3.cell? ⟨g, 0 + j, none⟩ = some (.int .i64 (sqI n)[j])) := by
    rcases HO.out with ⟨rfl, hnil⟩ | ⟨g, cap, rfl, hg, hgl, hcells⟩
    · refine ⟨none, 0, by rw [hnil]; rfl, fun j hj => ?_⟩
      rw [hnil] at hj
      exact absurd hj (Nat.not_lt_zero _)
    · exact ⟨_, cap, rfl, fun j hj => ⟨g, rfl, HBG.out g hg, hgl, hcells j hj⟩⟩
  have HSL := Lib.hid hsl
  clear hsl HO HBG
  have hb3' := B3.out
  have t0 := T0.out
  have t1 := T1.out
  clear T0 T1
  go_wp2
  have hrun : Sem.run Tryd.prog (Builtin.len_ #[38] 3 #[.slice o (sqI n).length cap]) w3 = .ok (.int .i64 ((sqI n).length : Nat)) w3 := rfl
  rw [hrun]
  clear hrun
  go_wp2
  go_loopw [36] (fun i wd => ∃ j : Nat, j ≤ (sqI n).length ∧ i = .int .i64 j ∧ Below w.heap.size w wd ∧ Var wd bt (loW (ofN ((revL n).take j))) (hiW (ofN ((revL n).take j))) ∧ wd.cell? ⟨w.heap.size, 0, none⟩ = some (.int .u64 xn) ∧ wd.cell? ⟨w.heap.size, 1, none⟩ = some (.int .u64 yn) ∧ (∀ g p v, bt < g → g < w3.heap.size → w3.cell? ⟨g, p, none⟩ = some v → g < wd.heap.size ∧ wd.cell? ⟨g, p, none⟩ = some v)) (fun i _ => (sqI n).length - (intOf i).toNat)
  case atStart =>
    refine ⟨0, Nat.zero_le _, rfl, hb3', ?_, t0, t1, fun g p v _ h2 h3 => ⟨h2, h3⟩⟩
    rw [List.take_zero, show ofN [] = 0 from rfl, lo_zero, hi_zero]
    exact HV7.out
  case round =>
    rename World => wd
    obtain ⟨j, hj, rfl, hB, hV, t0, t1, hK⟩ := hrel
    have HB := Lib.hid hB
    have HV := Lib.hid hV
    have HKP := Lib.hid hK
    have hzm := hV.lt
    have hzt : w.heap.size < wd.heap.size := by omega
    clear hb3' hB hK
    by_cases hlt : j < (sqI n).length
    · obtain ⟨g, rfl, hg1, hg2, hg3⟩ := HSL.out j hlt
      obtain ⟨hg4, c1⟩ := HKP.out _ _ _ hg1 hg2 hg3
      have hgb : g ≠ bt := by omega
      have hrt : (revL n)[j]'(by simp [revL]; omega) = 80 - (sqI n)[j] := by simp [revL]
      have C := Lib.hid (fun W => with_any (ofN ((revL n).take j)) ((revL n)[j]'(by simp [revL]; omega)) (ofN_sq _) W)
      rw [← take_step (revL n) j (by simp [revL]; omega)] at C
      rw [hrt] at C
      obtain ⟨r0, r1⟩ := HIN.out _ (List.getElem_mem hlt)
      have l0 := hV.lo
      have l1 := hV.hi
      have l2 := hV.f0
      have l3 := hV.f1
      clear hV hg3 hrt
      generalize (sqI n)[j] = s at C c1 r0 r1
      obtain ⟨z, hzs⟩ : ∃ z, z = 80 - s := ⟨_, rfl⟩
      have W2 := Lib.hid (show wrap64 (80 - s) = z by rw [hzs]; unfold wrap64; omega)
      rw [← hzs] at C
      clear hzs
      generalize loW (ofN ((revL n).take j)) = x at C l0 HV
      generalize hiW (ofN ((revL n).take j)) = y at C l1 HV
      generalize hx : loW (ofN ((revL n).take (j + 1))) = x2 at C
      generalize hy : hiW (ofN ((revL n).take (j + 1))) = y2 at C
      have HX := Lib.hid hx
      have HY := Lib.hid hy
      clear hx hy HSL
      have HR01 := Lib.hid (And.intro r0 r1)
      clear r0 r1
      rw [Nat.zero_add] at c1
      go_wp2_with (first
        | (go_at_call 23; rw [W2.out]; refine (C.out _).mono ?_; rintro e w5 ⟨rfl, hb5⟩; obtain ⟨hc5, hf5⟩ := bcells hb5; have hz5 : wd.heap.size ≤ w5.heap.size := hb5.size))
      go_roundw
      case rel =>
        refine ⟨j + 1, by omega, by go_num, ?_, ?_, ?_, ?_, ?_⟩
        · exact ((HB.out.trans (hb5.mono HB.out.size)).setCell (by simp; omega) _).setCell (by simp; omega) _
        · rw [HX.out, HY.out]
          exact (HV.out.grow hb5).put _ _
        · go_simp
        · go_simp
        · intro g' p v h1 h2 h3
          obtain ⟨h4, h5⟩ := HKP.out g' p v h1 h2 h3
          have hne' : g' ≠ bt := by omega
          refine ⟨by simp; omega, ?_⟩
          go_simp
      case measure => simp [intOf]; omega
    · obtain rfl : j = (sqI n).length := by omega
      rw [List.take_of_length_le (by simp [revL]), HREVN.out] at hV
      have m0 := hV.lo
      have m1 := hV.hi
      clear hV HV HKP HSL HV7
      have OA := Lib.hid (fun W => rayOf_any (6 : Int) q n (by omega) (by omega) S0.out W)
      have OB := Lib.hid (fun W => rayOf_any ((22 : Int)) (80 - (q : Int)) (revN n) (by omega) (by omega) (ofN_sq _) W)
      have OC := Lib.hid (fun (i : Nat) W => rayOf_any (6 : Int) i n (by omega) (by omega) S0.out W)
      have HSA : Hid (∀ (i : Nat), i < 81 → ∀ W, Calls Tryd.prog 14 #[.agg #[.int .u64 (loW (rayN (6 : Int) q n)), .int .u64 (hiW (rayN (6 : Int) q n))], .int .i64 (i : Int)] W fun e w' => e = .returned (.bool ((rayN (6 : Int) q n).testBit i)) ∧ Below W.heap.size W w') := Lib.hid (fun i hi W => by
        have := has_any (rayN (6 : Int) q n) i (rayN_sq (6 : Int) q n) W
        rw [has_nat _ i hi] at this
        exact this)
      have HSB : Hid (∀ (i : Nat), i < 81 → ∀ W, Calls Tryd.prog 14 #[.agg #[.int .u64 (loW (rayN ((22 : Int)) (80 - (q : Int)) (revN n))), .int .u64 (hiW (rayN ((22 : Int)) (80 - (q : Int)) (revN n)))], .int .i64 (80 - (i : Int))] W fun e w' => e = .returned (.bool ((rayN (6 : Int) q n).testBit i)) ∧ Below W.heap.size W w') := Lib.hid (fun i hi W => by
        have := has_any (rayN ((22 : Int)) (80 - (q : Int)) (revN n)) ((80 - i : Nat) : Int) (rayN_sq _ _ _) W
        have rt : (rayN ((22 : Int)) (80 - (q : Int)) (revN n)).testBit (80 - i) = (rayN (6 : Int) q n).testBit i := ray_turn (6 : Int) hk q i hq hi n (revN n) (fun t ht => rev_test n t ht) (between_inside q i)
        rw [has_nat _ (80 - i) (by omega), rt, show ((80 - i : Nat) : Int) = 80 - (i : Int) by omega] at this
        exact this)
      have HSC : Hid (∀ (i : Nat), i < 81 → ((6 : Int) = 6 ∨ (6 : Int) = 7 ∨ (6 : Int) = 8 ∨ (6 : Int) = 14 ∨ (6 : Int) = 15) → (rayN (6 : Int) q n).testBit i = true → ∀ W, Calls Tryd.prog 14 #[.agg #[.int .u64 (loW (rayN (6 : Int) i n)), .int .u64 (hiW (rayN (6 : Int) i n))], .int .i64 (q : Int)] W fun e w' => e = .returned (.bool true) ∧ Below W.heap.size W w') := Lib.hid (fun i hi hk' hb W => by
        have := has_any (rayN (6 : Int) i n) q (rayN_sq _ _ _) W
        rw [has_nat _ q hq, ray_back (6 : Int) hk' q i hq hi n hb] at this
        exact this)
      rw [HXN.out, HYN.out] at OA OC
      generalize rayN (6 : Int) q n = ma at OA HSA HSB HSC
      generalize loW ma = xa at OA HSA
      generalize hiW ma = ya at OA HSA
      generalize loW (rayN ((22 : Int)) (80 - (q : Int)) (revN n)) = xb at OB HSB
      generalize hiW (rayN ((22 : Int)) (80 - (q : Int)) (revN n)) = yb at OB HSB
      generalize loW (revN n) = xm at OB m0
      generalize hiW (revN n) = ym at OB m1
      have W8 := Lib.hid (show IntKind.i8.wrap (6 : Int) = (6 : Int) from wrap_i8_eq _ (by omega) (by omega))
      have W16 := Lib.hid (show IntKind.i8.wrap ((22 : Int)) = (22 : Int) from wrap_i8_eq _ (by omega) (by omega))
      have WK := Lib.hid (show IntKind.i64.wrap ((22 : Int)) = (22 : Int) by rw [IntKind.wrap_i64]; omega)
      have WK2 := Lib.hid (show wrap64 ((22 : Int)) = (22 : Int) by unfold wrap64; omega)
      have WQ := Lib.hid (show IntKind.i64.wrap (80 - (q : Int)) = 80 - (q : Int) by rw [IntKind.wrap_i64]; omega)
      have WQ2 := Lib.hid (show wrap64 (80 - (q : Int)) = 80 - (q : Int) by unfold wrap64; omega)
      obtain ⟨NN, nn0, nn1⟩ : ∃ NN : Nat → Array Value, NN 0 = #[.int .u64 xa, .int .u64 ya] ∧ NN 1 = #[.int .u64 xb, .int .u64 yb] := ⟨fun j => if j = 0 then _ else _, rfl, rfl⟩
      go_wp2_with fail
      refine wp_region_any (by kernel_rfl) ?_
      change wpAny _ _ _ _ _ _ _ (World.drew _)
      refine wpAny_inv3 (fun a0 => a0.eval (.tmp 0) = .int .i64 (6 : Int) ∧ a0.eval (.tmp 1) = .int .i64 (q : Int) ∧ a0.eval (.tmp 5) = .pointer (some ⟨w.heap.size, 0, none⟩) ∧ a0.eval (.tmp 7) = .pointer (some ⟨bt, 0, none⟩) ∧ 80 < a0.tmps.size) ⟨rfl, rfl, rfl, rfl, of_decide_eq_true rfl⟩
        (fun a0 ls a w' => ls.size = 16 ∧ Below wd.heap.size wd w' ∧ ∃ g : Nat → Nat, Blgs 24 #[.int .u64 0, .int .u64 0] wd w' NN ls 12 14 2 g ∧ a = cput (ls.getD 13 false) 11 (.pointer (some ⟨g 1, 0, none⟩)) (cput (ls.getD 12 false) 10 (.pointer (some ⟨g 0, 0, none⟩)) (cput (ls.getD 11 false) 56 (.agg #[.int .u64 xb, .int .u64 yb]) (cput (ls.getD 10 false) 55 (.agg #[.int .u64 xm, .int .u64 ym]) (cput (ls.getD 9 false) 54 (.int .i64 (80 - (q : Int))) (cput (ls.getD 8 false) 53 (.int .i64 (q : Int)) (cput (ls.getD 7 false) 52 (.int .i8 ((22 : Int))) (cput (ls.getD 6 false) 51 (.int .i64 ((22 : Int))) (cput (ls.getD 5 false) 50 (.int .i64 (6 : Int)) (cput (ls.getD 4 false) 49 (.agg #[.int .u64 xa, .int .u64 ya]) (cput (ls.getD 3 false) 48 (.agg #[.int .u64 xn, .int .u64 yn]) (cput (ls.getD 2 false) 47 (.int .i64 (q : Int)) (cput (ls.getD 1 false) 46 (.int .i8 (6 : Int)) (cput (ls.getD 0 false) 45 (.int .i64 (6 : Int)) (a0))))))))))))))) ?step ?fin ?start (by decide)
      case start => exact ⟨rfl, (bref wd).drew, fun _ => 0, ⟨fun j hj h => absurd h (by (obtain rfl | rfl : j = 0 ∨ j = 1 := by omega) <;> decide), fun i j hi hj _ h => absurd h (by (obtain rfl | rfl : i = 0 ∨ i = 1 := by omega) <;> decide), fun j hj h => absurd h (by (obtain rfl | rfl : j = 0 ∨ j = 1 := by omega) <;> decide)⟩, rfl⟩
      case step =>
        rintro a0 ⟨e0, e1, e5, e7, esz⟩ ls a w' ⟨hl, hb, g, hK, ha⟩ i o ho hu hw
        have hu' := undone hu
        rcases i with _ | _ | _ | _ | _ | _ | _ | _ | _ | _ | _ | _ | _ | _ | _ | _ | i
        · have ho' : some _ = some o := ho
          cases ho'
          have E0 : a.eval (.tmp 0) = .int .i64 (6 : Int) := by rw [ha]; simp [eval_cput_ne, e0]
          refine wpOp_step ho (fun K hK' => ?_)
          rw [if_pos (by rfl)]
          refine wp_valueK (w' := w') (.int .i64 (6 : Int)) ?_ (hK' _ _ ⟨by simp [hl], hb, g, hK.other (bref w') 0 (by omega) (fun j hj => by omega) (fun j hj => by omega), by rw [ha]; simp [cput_put, getF, hl, hu', cput_at]⟩)
          exact congrArg (fun v => Result.ok (Next.value v) w') E0
        · have ho' : some _ = some o := ho
          cases ho'
          have d45 : ls.getD 0 false = true := hw ⟨0, .data⟩ (by simp) rfl
          have z45 : 45 < a0.tmps.size := by omega
          have E45 : a.eval (.tmp 45) = .int .i64 (6 : Int) := by rw [ha]; simp [eval_cput_ne, d45, eval_cput_at, size_cput, z45]
          refine wpOp_step ho (fun K hK' => ?_)
          rw [if_pos (by rfl)]
          refine wp_valueK (w' := w') (.int .i8 (6 : Int)) ?_ (hK' _ _ ⟨by simp [hl], hb, g, hK.other (bref w') 1 (by omega) (fun j hj => by omega) (fun j hj => by omega), by rw [ha]; simp [cput_put, getF, hl, hu', cput_at]⟩)
          clear ha
          have w1 : IntKind.i8.wrap (6 : Int) = (6 : Int) := W8.out
          have EE : a.tmps[45]?.getD undef = .int .i64 (6 : Int) := by first | exact E45 | simpa [Act.eval] using E45
          go_simp
          all_goals first | (rw [EE]; go_simp; done) | decide | rfl
        · have ho' : some _ = some o := ho
          cases ho'
          have E1 : a.eval (.tmp 1) = .int .i64 (q : Int) := by rw [ha]; simp [eval_cput_ne, e1]
          refine wpOp_step ho (fun K hK' => ?_)
          rw [if_pos (by rfl)]
          refine wp_valueK (w' := w') (.int .i64 (q : Int)) ?_ (hK' _ _ ⟨by simp [hl], hb, g, hK.other (bref w') 2 (by omega) (fun j hj => by omega) (fun j hj => by omega), by rw [ha]; simp [cput_put, getF, hl, hu', cput_at]⟩)
          exact congrArg (fun v => Result.ok (Next.value v) w') E1
        · have ho' : some _ = some o := ho
          cases ho'
          have E5 : a.eval (.tmp 5) = .pointer (some ⟨w.heap.size, 0, none⟩) := by rw [ha]; simp [eval_cput_ne, e5]
          refine wpOp_step ho (fun K hK' => ?_)
          rw [if_pos (by rfl)]
          refine wp_load_mid _ _ rfl (w.heap.size) 0 E5 [.int .u64 xn, .int .u64 yn] _ (range2 ((hb.cell (p := ⟨w.heap.size, 0, none⟩) hzt).trans t0) ((hb.cell (p := ⟨w.heap.size, 1, none⟩) hzt).trans t1)) Tryd.underlying24 rfl infoSet2 ?_
          exact hK' _ _ ⟨by simp [hl], hb, g, hK.other (bref w') 3 (by omega) (fun j hj => by omega) (fun j hj => by omega), by rw [ha]; simp [cput_put, getF, hl, hu', cput_at]⟩
        · have ho' : some _ = some o := ho
          cases ho'
          have d46 : ls.getD 1 false = true := hw ⟨1, .data⟩ (by simp) rfl
          have z46 : 46 < a0.tmps.size := by omega
          have E46 : a.eval (.tmp 46) = .int .i8 (6 : Int) := by rw [ha]; simp [eval_cput_ne, d46, eval_cput_at, size_cput, z46]
          have d47 : ls.getD 2 false = true := hw ⟨2, .data⟩ (by simp) rfl
          have z47 : 47 < a0.tmps.size := by omega
          have E47 : a.eval (.tmp 47) = .int .i64 (q : Int) := by rw [ha]; simp [eval_cput_ne, d47, eval_cput_at, size_cput, z47]
          have d48 : ls.getD 3 false = true := hw ⟨3, .data⟩ (by simp) rfl
          have z48 : 48 < a0.tmps.size := by omega
          have E48 : a.eval (.tmp 48) = .agg #[.int .u64 xn, .int .u64 yn] := by rw [ha]; simp [eval_cput_ne, d48, eval_cput_at, size_cput, z48]
          refine wpOp_step ho (fun K hK' => ?_)
          rw [if_pos (by rfl)]
          refine wp_callK 24 #[a.eval (.tmp 46), a.eval (.tmp 47), a.eval (.tmp 48)] ?_ ?_
          · clear ha E46 E47 E48
            go_simp
          · rw [E46, E47, E48]
            refine (OA.out _).mono ?_
            rintro e w2 ⟨rfl, hb2⟩
            exact ⟨_, rfl, hK' _ _ ⟨by simp [hl], bthen hb hb2, g, hK.other hb2 4 (by omega) (fun j hj => by omega) (fun j hj => by omega), by rw [ha]; simp [cput_put, getF, hl, hu', cput_at]⟩⟩
        · have ho' : some _ = some o := ho
          cases ho'
          have E0 : a.eval (.tmp 0) = .int .i64 (6 : Int) := by rw [ha]; simp [eval_cput_ne, e0]
          refine wpOp_step ho (fun K hK' => ?_)
          rw [if_pos (by rfl)]
          refine wp_valueK (w' := w') (.int .i64 (6 : Int)) ?_ (hK' _ _ ⟨by simp [hl], hb, g, hK.other (bref w') 5 (by omega) (fun j hj => by omega) (fun j hj => by omega), by rw [ha]; simp [cput_put, getF, hl, hu', cput_at]⟩)
          exact congrArg (fun v => Result.ok (Next.value v) w') E0
        · have ho' : some _ = some o := ho
          cases ho'
          have d50 : ls.getD 5 false = true := hw ⟨5, .data⟩ (by simp) rfl
          have z50 : 50 < a0.tmps.size := by omega
          have E50 : a.eval (.tmp 50) = .int .i64 (6 : Int) := by rw [ha]; simp [eval_cput_ne, d50, eval_cput_at, size_cput, z50]
          refine wpOp_step ho (fun K hK' => ?_)
          rw [if_pos (by rfl)]
          refine wp_valueK (w' := w') (.int .i64 ((22 : Int))) ?_ (hK' _ _ ⟨by simp [hl], hb, g, hK.other (bref w') 6 (by omega) (fun j hj => by omega) (fun j hj => by omega), by rw [ha]; simp [cput_put, getF, hl, hu', cput_at]⟩)
          clear ha
          have w1 : IntKind.i64.wrap ((22 : Int)) = (22 : Int) := WK.out
          have w2 : wrap64 ((22 : Int)) = (22 : Int) := WK2.out
          have EE : a.tmps[50]?.getD undef = .int .i64 (6 : Int) := by first | exact E50 | simpa [Act.eval] using E50
          go_simp
          all_goals first | (rw [EE]; go_simp; done) | decide | rfl
        · have ho' : some _ = some o := ho
          cases ho'
          have d51 : ls.getD 6 false = true := hw ⟨6, .data⟩ (by simp) rfl
          have z51 : 51 < a0.tmps.size := by omega
          have E51 : a.eval (.tmp 51) = .int .i64 ((22 : Int)) := by rw [ha]; simp [eval_cput_ne, d51, eval_cput_at, size_cput, z51]
          refine wpOp_step ho (fun K hK' => ?_)
          rw [if_pos (by rfl)]
          refine wp_valueK (w' := w') (.int .i8 ((22 : Int))) ?_ (hK' _ _ ⟨by simp [hl], hb, g, hK.other (bref w') 7 (by omega) (fun j hj => by omega) (fun j hj => by omega), by rw [ha]; simp [cput_put, getF, hl, hu', cput_at]⟩)
          clear ha
          have w1 : IntKind.i8.wrap ((22 : Int)) = (22 : Int) := W16.out
          have EE : a.tmps[51]?.getD undef = .int .i64 ((22 : Int)) := by first | exact E51 | simpa [Act.eval] using E51
          go_simp
          all_goals first | (rw [EE]; go_simp; done) | decide | rfl
        · have ho' : some _ = some o := ho
          cases ho'
          have E1 : a.eval (.tmp 1) = .int .i64 (q : Int) := by rw [ha]; simp [eval_cput_ne, e1]
          refine wpOp_step ho (fun K hK' => ?_)
          rw [if_pos (by rfl)]
          refine wp_valueK (w' := w') (.int .i64 (q : Int)) ?_ (hK' _ _ ⟨by simp [hl], hb, g, hK.other (bref w') 8 (by omega) (fun j hj => by omega) (fun j hj => by omega), by rw [ha]; simp [cput_put, getF, hl, hu', cput_at]⟩)
          exact congrArg (fun v => Result.ok (Next.value v) w') E1
        · have ho' : some _ = some o := ho
          cases ho'
          have d53 : ls.getD 8 false = true := hw ⟨8, .data⟩ (by simp) rfl
          have z53 : 53 < a0.tmps.size := by omega
          have E53 : a.eval (.tmp 53) = .int .i64 (q : Int) := by rw [ha]; simp [eval_cput_ne, d53, eval_cput_at, size_cput, z53]
          refine wpOp_step ho (fun K hK' => ?_)
          rw [if_pos (by rfl)]
          refine wp_valueK (w' := w') (.int .i64 (80 - (q : Int))) ?_ (hK' _ _ ⟨by simp [hl], hb, g, hK.other (bref w') 9 (by omega) (fun j hj => by omega) (fun j hj => by omega), by rw [ha]; simp [cput_put, getF, hl, hu', cput_at]⟩)
          clear ha
          have w1 : IntKind.i64.wrap (80 - (q : Int)) = 80 - (q : Int) := WQ.out
          have w2 : wrap64 (80 - (q : Int)) = 80 - (q : Int) := WQ2.out
          have EE : a.tmps[53]?.getD undef = .int .i64 (q : Int) := by first | exact E53 | simpa [Act.eval] using E53
          go_simp
          all_goals first | (rw [EE]; go_simp; done) | decide | rfl
        · have ho' : some _ = some o := ho
          cases ho'
          have E7 : a.eval (.tmp 7) = .pointer (some ⟨bt, 0, none⟩) := by rw [ha]; simp [eval_cput_ne, e7]
          refine wpOp_step ho (fun K hK' => ?_)
          rw [if_pos (by rfl)]
          refine wp_load_mid _ _ rfl (bt) 0 E7 [.int .u64 xm, .int .u64 ym] _ (range2 ((hb.cell (p := ⟨bt, 0, none⟩) hzm).trans m0) ((hb.cell (p := ⟨bt, 1, none⟩) hzm).trans m1)) Tryd.underlying24 rfl infoSet2 ?_
          exact hK' _ _ ⟨by simp [hl], hb, g, hK.other (bref w') 10 (by omega) (fun j hj => by omega) (fun j hj => by omega), by rw [ha]; simp [cput_put, getF, hl, hu', cput_at]⟩
        · have ho' : some _ = some o := ho
          cases ho'
          have d52 : ls.getD 7 false = true := hw ⟨7, .data⟩ (by simp) rfl
          have z52 : 52 < a0.tmps.size := by omega
          have E52 : a.eval (.tmp 52) = .int .i8 ((22 : Int)) := by rw [ha]; simp [eval_cput_ne, d52, eval_cput_at, size_cput, z52]
          have d54 : ls.getD 9 false = true := hw ⟨9, .data⟩ (by simp) rfl
          have z54 : 54 < a0.tmps.size := by omega
          have E54 : a.eval (.tmp 54) = .int .i64 (80 - (q : Int)) := by rw [ha]; simp [eval_cput_ne, d54, eval_cput_at, size_cput, z54]
          have d55 : ls.getD 10 false = true := hw ⟨10, .data⟩ (by simp) rfl
          have z55 : 55 < a0.tmps.size := by omega
          have E55 : a.eval (.tmp 55) = .agg #[.int .u64 xm, .int .u64 ym] := by rw [ha]; simp [eval_cput_ne, d55, eval_cput_at, size_cput, z55]
          refine wpOp_step ho (fun K hK' => ?_)
          rw [if_pos (by rfl)]
          refine wp_callK 24 #[a.eval (.tmp 52), a.eval (.tmp 54), a.eval (.tmp 55)] ?_ ?_
          · clear ha E52 E54 E55
            go_simp
          · rw [E52, E54, E55]
            refine (OB.out _).mono ?_
            rintro e w2 ⟨rfl, hb2⟩
            exact ⟨_, rfl, hK' _ _ ⟨by simp [hl], bthen hb hb2, g, hK.other hb2 11 (by omega) (fun j hj => by omega) (fun j hj => by omega), by rw [ha]; simp [cput_put, getF, hl, hu', cput_at]⟩⟩
        · have ho' : some _ = some o := ho
          cases ho'
          refine wpOp_step ho (fun K hK' => ?_)
          rw [if_pos (by rfl)]
          refine wp_valueK (w' := w'.alloc (.cells #[.int .u64 0, .int .u64 0] 24)) (.pointer (some ⟨w'.heap.size, 0, none⟩)) ?_ ?_
          · have hz := zero_set
            clear ha
            go_simp
          · exact hK' _ _ ⟨by simp [hl], ball hb _, _, hK.laid hb 0 (by omega) (by omega) hu' (by omega), by rw [ha]; simp [cput_put, getF, hl, hu', cput_at]⟩
        · have ho' : some _ = some o := ho
          cases ho'
          refine wpOp_step ho (fun K hK' => ?_)
          rw [if_pos (by rfl)]
          refine wp_valueK (w' := w'.alloc (.cells #[.int .u64 0, .int .u64 0] 24)) (.pointer (some ⟨w'.heap.size, 0, none⟩)) ?_ ?_
          · have hz := zero_set
            clear ha
            go_simp
          · exact hK' _ _ ⟨by simp [hl], ball hb _, _, hK.laid hb 1 (by omega) (by omega) hu' (by omega), by rw [ha]; simp [cput_put, getF, hl, hu', cput_at]⟩
        · have ho' : some _ = some o := ho
          cases ho'
          have d10 : ls.getD 12 false = true := hw ⟨12, .data⟩ (by simp) rfl
          have z10 : 10 < a0.tmps.size := by omega
          have E10 : a.eval (.tmp 10) = .pointer (some ⟨g 0, 0, none⟩) := by rw [ha]; simp [eval_cput_ne, d10, eval_cput_at, size_cput, z10]
          have d49 : ls.getD 4 false = true := hw ⟨4, .data⟩ (by simp) rfl
          have z49 : 49 < a0.tmps.size := by omega
          have E49 : a.eval (.tmp 49) = .agg #[.int .u64 xa, .int .u64 ya] := by rw [ha]; simp [eval_cput_ne, d49, eval_cput_at, size_cput, z49]
          refine wpOp_step ho (fun K hK' => ?_)
          rw [if_pos (by rfl)]
          have hB := hK.blk 0 (by omega) d10
          rw [show ls.getD (14 + 0) false = false from hu', if_neg (by decide)] at hB
          have gg : ∀ j, j ≠ 14 → (ls.setIfInBounds 14 true).getD j false = ls.getD j false := fun j hj => (getF (by omega : 14 < ls.size)).trans (if_neg (Ne.symm hj))
          have hF := hK.filled 0 (by omega) (by omega) d10 (by omega)
          rw [nn0] at hF
          refine wp_store_row 24 _ _ rfl (g 0) (#[.int .u64 xa, .int .u64 ya]) E10 E49 24 #[.int .u64 0, .int .u64 0] hB.row infoSet2 rfl (by simp [Value.oneCell']) ?_
          refine hK' _ _ ⟨by simp [hl], below_setRow hb hB.le _, g, hF, ?_⟩
          rw [gg 13 (by decide), gg 12 (by decide), gg 11 (by decide), gg 10 (by decide), gg 9 (by decide), gg 8 (by decide), gg 7 (by decide), gg 6 (by decide), gg 5 (by decide), gg 4 (by decide), gg 3 (by decide), gg 2 (by decide), gg 1 (by decide), gg 0 (by decide), ha]
          rfl
        · have ho' : some _ = some o := ho
          cases ho'
          have d11 : ls.getD 13 false = true := hw ⟨13, .data⟩ (by simp) rfl
          have z11 : 11 < a0.tmps.size := by omega
          have E11 : a.eval (.tmp 11) = .pointer (some ⟨g 1, 0, none⟩) := by rw [ha]; simp [eval_cput_ne, d11, eval_cput_at, size_cput, z11]
          have d56 : ls.getD 11 false = true := hw ⟨11, .data⟩ (by simp) rfl
          have z56 : 56 < a0.tmps.size := by omega
          have E56 : a.eval (.tmp 56) = .agg #[.int .u64 xb, .int .u64 yb] := by rw [ha]; simp [eval_cput_ne, d56, eval_cput_at, size_cput, z56]
          refine wpOp_step ho (fun K hK' => ?_)
          rw [if_pos (by rfl)]
          have hB := hK.blk 1 (by omega) d11
          rw [show ls.getD (14 + 1) false = false from hu', if_neg (by decide)] at hB
          have gg : ∀ j, j ≠ 15 → (ls.setIfInBounds 15 true).getD j false = ls.getD j false := fun j hj => (getF (by omega : 15 < ls.size)).trans (if_neg (Ne.symm hj))
          have hF := hK.filled 1 (by omega) (by omega) d11 (by omega)
          rw [nn1] at hF
          refine wp_store_row 24 _ _ rfl (g 1) (#[.int .u64 xb, .int .u64 yb]) E11 E56 24 #[.int .u64 0, .int .u64 0] hB.row infoSet2 rfl (by simp [Value.oneCell']) ?_
          refine hK' _ _ ⟨by simp [hl], below_setRow hb hB.le _, g, hF, ?_⟩
          rw [gg 13 (by decide), gg 12 (by decide), gg 11 (by decide), gg 10 (by decide), gg 9 (by decide), gg 8 (by decide), gg 7 (by decide), gg 6 (by decide), gg 5 (by decide), gg 4 (by decide), gg 3 (by decide), gg 2 (by decide), gg 1 (by decide), gg 0 (by decide), ha]
          rfl
        · cases ho
      case fin =>
        rintro ls a w' ⟨hl, hb, g, hK, ha⟩ hr
        have d : ∀ i, i < 16 → ls.getD i false = true := all_doneB hr (by kernel_rfl) (by rw [hl]; rfl)
        have K0 := hK.blk 0 (by omega) (d 12 (by decide))
        rw [show ls.getD (14 + 0) false = true from d 14 (by decide), if_pos rfl, nn0] at K0
        have K1 := hK.blk 1 (by omega) (d 13 (by decide))
        rw [show ls.getD (14 + 1) false = true from d 15 (by decide), if_pos rfl, nn1] at K1
        rw [d 13 (by decide), d 12 (by decide), d 11 (by decide), d 10 (by decide), d 9 (by decide), d 8 (by decide), d 7 (by decide), d 6 (by decide), d 5 (by decide), d 4 (by decide), d 3 (by decide), d 2 (by decide), d 1 (by decide), d 0 (by decide)] at ha
        subst ha
        simp only [cput, if_true, Act.put, List.setIfInBounds_toArray, List.set_cons_zero, List.set_cons_succ]
        clear d hr hl hK
        have za := K0.lt
        have zb := K1.lt
        have ra := K0.row
        have rb := K1.row
        generalize g 0 = pa at *
        generalize g 1 = pb at *
        have a0 : w'.cell? ⟨pa, 0, none⟩ = some (.int .u64 xa) := row_cell0 ra
        have a1 : w'.cell? ⟨pa, 1, none⟩ = some (.int .u64 ya) := row_cell1 ra
        have b0 : w'.cell? ⟨pb, 0, none⟩ = some (.int .u64 xb) := row_cell0 rb
        have b1 : w'.cell? ⟨pb, 1, none⟩ = some (.int .u64 yb) := row_cell1 rb
        have t0' : w'.cell? ⟨w.heap.size, 0, none⟩ = some (.int .u64 xn) := (hb.cell (p := ⟨w.heap.size, 0, none⟩) hzt).trans t0
        have t1' : w'.cell? ⟨w.heap.size, 1, none⟩ = some (.int .u64 yn) := (hb.cell (p := ⟨w.heap.size, 1, none⟩) hzt).trans t1
        have zt : w.heap.size < w'.heap.size := Nat.lt_of_lt_of_le hzt hb.size
        have HBW := Lib.hid (bthen HB.out hb)
        clear K0 K1 ra rb t0 t1 m0 m1 hb HB nn0 nn1 OA OB hzm hzt
        go_wp2_with fail
        go_loopw [12] (fun i wr => ∃ m : Nat, m ≤ 81 ∧ i = .int .i64 m ∧ Below w'.heap.size w' wr) (fun i _ => 81 - (intOf i).toNat)
        case atStart => exact ⟨0, Nat.zero_le _, rfl, bref _⟩
        case round =>
          obtain ⟨i, hi, rfl, hW⟩ := hrel
          have A0 := (hW.cell (p := ⟨pa, 0, none⟩) za).trans a0
          have A1 := (hW.cell (p := ⟨pa, 1, none⟩) za).trans a1
          have B0 := (hW.cell (p := ⟨pb, 0, none⟩) zb).trans b0
          have B1 := (hW.cell (p := ⟨pb, 1, none⟩) zb).trans b1
          have T0 := (hW.cell (p := ⟨w.heap.size, 0, none⟩) zt).trans t0'
          have T1 := (hW.cell (p := ⟨w.heap.size, 1, none⟩) zt).trans t1'
          have za' := Nat.lt_of_lt_of_le za hW.size
          have zb' := Nat.lt_of_lt_of_le zb hW.size
          have zt' := Nat.lt_of_lt_of_le zt hW.size
          clear a0 a1 b0 b1 t0' t1' za zb zt
          have HW := Lib.hid hW
          clear hW
          have a0 := A0
          have a1 := A1
          have b0 := B0
          have b1 := B1
          have za := za'
          have zb := zb'
          clear A0 A1 B0 B1 za' zb'
          by_cases hlt : i < 81
          · have HA := Lib.hid (fun W => HSA.out i hlt W)
            have HBb := Lib.hid (fun W => HSB.out i hlt W)
            have HC := Lib.hid (fun h1 h2 W => HSC.out i hlt h1 h2 W)
            have OCi := Lib.hid (fun W => OC.out i W)
            generalize loW (rayN (6 : Int) i n) = xc at HC OCi
            generalize hiW (rayN (6 : Int) i n) = yc at HC OCi
            generalize ma.testBit i = bit at HA HBb HC
            have WT := Lib.hid (show IntKind.i64.wrap (80 - (i : Int)) = 80 - (i : Int) by rw [IntKind.wrap_i64]; omega)
            clear HSA HSB HSC OC
            go_wp2_with fail
            refine wp_region_held_drew (S := fun w' => Below wr.heap.size wr w' ∧ pa < w'.heap.size ∧ pb < w'.heap.size ∧ w'.cell? ⟨pa, 0, none⟩ = some (.int .u64 xa) ∧ w'.cell? ⟨pa, 1, none⟩ = some (.int .u64 ya) ∧ w'.cell? ⟨pb, 0, none⟩ = some (.int .u64 xb) ∧ w'.cell? ⟨pb, 1, none⟩ = some (.int .u64 yb)) (by kernel_rfl) ?_ (fun hHeld => ?_)
            · exact ⟨(bref wr).drew, za, zb, a0, a1, b0, b1⟩
            refine wpAnyH_take (i := 0) (v := ?v1) rfl (by kernel_rfl) (by kernel_rfl) (by kernel_rfl) (fun _ _ _ h => h) (Or.inl ⟨by rfl, ?y1⟩) (by assumption) ?r1
            case y1 => (intro w hSw; (go_simp <;> first | with_reducible rfl | (rw [if_pos (by omega)] <;> with_reducible rfl)))
            try simp only [Act.put, List.getElem_toArray, List.getElem_cons_zero, List.getElem_cons_succ, List.setIfInBounds_toArray, List.set_cons_zero, List.set_cons_succ]
            refine wpAnyH_take (i := 1) (v := ?v2) rfl (by kernel_rfl) (by kernel_rfl) (by kernel_rfl) (fun _ _ _ h => h) (Or.inl ⟨by rfl, ?y2⟩) (by assumption) ?r2
            case y2 => (intro w hSw; (go_simp <;> first | with_reducible rfl | (rw [if_pos (by omega)] <;> with_reducible rfl)))
            try simp only [Act.put, List.getElem_toArray, List.getElem_cons_zero, List.getElem_cons_succ, List.setIfInBounds_toArray, List.set_cons_zero, List.set_cons_succ]
            refine wpAnyH_take (i := 3) (v := ?v3) rfl (by kernel_rfl) (by kernel_rfl) (by kernel_rfl) (fun _ _ _ h => h) (Or.inl ⟨by rfl, ?y3⟩) (by assumption) ?r3
            case y3 => (intro w hSw; (go_simp <;> first | with_reducible rfl | (rw [if_pos (by omega)] <;> with_reducible rfl)))
            try simp only [Act.put, List.getElem_toArray, List.getElem_cons_zero, List.getElem_cons_succ, List.setIfInBounds_toArray, List.set_cons_zero, List.set_cons_succ]
            refine wpAnyH_take (i := 4) (v := ?v4) rfl (by kernel_rfl) (by kernel_rfl) (by kernel_rfl) (fun _ _ _ h => h) (Or.inl ⟨by rfl, ?y4⟩) (by assumption) ?r4
            case y4 => (intro w hSw; (go_simp <;> first | with_reducible rfl | (rw [if_pos (by omega)] <;> with_reducible rfl)))
            try simp only [Act.put, List.getElem_toArray, List.getElem_cons_zero, List.getElem_cons_succ, List.setIfInBounds_toArray, List.set_cons_zero, List.set_cons_succ]
            refine wpAnyH_take (i := 5) (v := ?v5) rfl (by kernel_rfl) (by kernel_rfl) (by kernel_rfl) (fun _ _ _ h => h) (Or.inl ⟨by rfl, ?y5⟩) (by assumption) ?r5
            case y5 => (intro w hSw; (go_simp <;> first | with_reducible rfl | (rw [if_pos (by omega)] <;> with_reducible rfl)))
            try simp only [Act.put, List.getElem_toArray, List.getElem_cons_zero, List.getElem_cons_succ, List.setIfInBounds_toArray, List.set_cons_zero, List.set_cons_succ]
            refine wpAnyH_ready (rs := [2]) (by kernel_rfl) (by simp) ?_
            refine AllReadyH.cons rfl (fun K hK => ?_) AllReadyH.nil
            rw [if_pos (by rfl)]
            go_simp
            go_at_call 14
            refine (HA.out _).mono ?_
            rintro e wn ⟨rfl, hb⟩
            refine hK.out _ _ (⟨bthen hHeld.1 hb, Nat.lt_of_lt_of_le hHeld.2.1 hb.size, Nat.lt_of_lt_of_le hHeld.2.2.1 hb.size, (hb.cell (p := ⟨pa, 0, none⟩) hHeld.2.1).trans hHeld.2.2.2.1, (hb.cell (p := ⟨pa, 1, none⟩) hHeld.2.1).trans hHeld.2.2.2.2.1, (hb.cell (p := ⟨pb, 0, none⟩) hHeld.2.2.1).trans hHeld.2.2.2.2.2.1, (hb.cell (p := ⟨pb, 1, none⟩) hHeld.2.2.1).trans hHeld.2.2.2.2.2.2⟩) (fun hHeld => ?_)
            clear hK K
            try simp only [Act.put, List.getElem_toArray, List.getElem_cons_zero, List.getElem_cons_succ, List.setIfInBounds_toArray, List.set_cons_zero, List.set_cons_succ]
            refine wpAnyH_ready (rs := [6]) (by kernel_rfl) (by simp) ?_
            refine AllReadyH.cons rfl (fun K hK => ?_) AllReadyH.nil
            rw [if_pos (by rfl)]
            go_simp
            go_at_call 14
            rw [WT.out]
            refine (HBb.out _).mono ?_
            rintro e wn ⟨rfl, hb⟩
            refine hK.out _ _ (⟨bthen hHeld.1 hb, Nat.lt_of_lt_of_le hHeld.2.1 hb.size, Nat.lt_of_lt_of_le hHeld.2.2.1 hb.size, (hb.cell (p := ⟨pa, 0, none⟩) hHeld.2.1).trans hHeld.2.2.2.1, (hb.cell (p := ⟨pa, 1, none⟩) hHeld.2.1).trans hHeld.2.2.2.2.1, (hb.cell (p := ⟨pb, 0, none⟩) hHeld.2.2.1).trans hHeld.2.2.2.2.2.1, (hb.cell (p := ⟨pb, 1, none⟩) hHeld.2.2.1).trans hHeld.2.2.2.2.2.2⟩) (fun hHeld => ?_)
            clear hK K
            try simp only [Act.put, List.getElem_toArray, List.getElem_cons_zero, List.getElem_cons_succ, List.setIfInBounds_toArray, List.set_cons_zero, List.set_cons_succ]
            refine wpAnyH_take (i := 7) (v := ?v6) rfl (by kernel_rfl) (by kernel_rfl) (by kernel_rfl) (fun _ _ _ h => h) (Or.inl ⟨by rfl, ?y6⟩) (by assumption) ?r6
            case y6 => (intro w hSw; (go_simp <;> first | with_reducible rfl | (rw [if_pos (by omega)] <;> with_reducible rfl)))
            try simp only [Act.put, List.getElem_toArray, List.getElem_cons_zero, List.getElem_cons_succ, List.setIfInBounds_toArray, List.set_cons_zero, List.set_cons_succ]
            refine wpAnyH_done (by kernel_rfl) ?_ _
            obtain ⟨hX, za, zb, a0, a1, b0, b1⟩ := hHeld
            have T0' := (hX.cell (p := ⟨w.heap.size, 0, none⟩) zt').trans T0
            have T1' := (hX.cell (p := ⟨w.heap.size, 1, none⟩) zt').trans T1
            have zt2 := Nat.lt_of_lt_of_le zt' hX.size
            clear T0 T1 zt'
            have HX := Lib.hid (bthen HW.out hX)
            clear hX HW
            cases bit
            · go_wp2_with (first
                | (go_at_call 14; refine (HA.out _).mono ?_; rintro e w5 ⟨rfl, hb5⟩))
              go_roundw
              case rel => exact ⟨i + 1, by omega, by go_num, bthen HX.out hb5⟩
              case measure => simp [intOf]; omega
            · have HC' := Lib.hid (fun W => HC.out (by simp) rfl W)
              clear HC
              go_wp2_with (first
                | (go_at_call_of 14 (Value.int .u64 xa); refine (HA.out _).mono ?_; rintro e w5 ⟨rfl, hb5⟩; have T0 := (hb5.cell (p := ⟨w.heap.size, 0, none⟩) zt2).trans T0'; have T1 := (hb5.cell (p := ⟨w.heap.size, 1, none⟩) zt2).trans T1'; clear T0' T1')
                | (go_at_call 24; refine (OCi.out _).mono ?_; rintro e w6 ⟨rfl, hb6⟩)
                | (go_at_call_of 14 (Value.int .u64 xc); refine (HC'.out _).mono ?_; rintro e w7 ⟨rfl, hb7⟩))
              go_roundw
              case rel => exact ⟨i + 1, by omega, by go_num, bthen (bthen (bthen HX.out hb5) hb6) hb7⟩
              case measure => simp [intOf]; omega
          · obtain rfl : i = 81 := Nat.le_antisymm hi (Nat.not_lt.1 hlt)
            go_wp2
            go_ret
            exact ⟨rfl, bthen HBW.out HW.out⟩

set_option maxHeartbeats 4000000 in
theorem walk_7 (a b : Int) (q : Nat) (g2 : (Lit.int .u64 a).wf = true) (g3 : (Lit.int .u64 b).wf = true) (hq : q < 81) (w : World) (hT : Tab w) :
    Calls Tryd.prog 5 #[.int .i64 (7 : Int), .int .i64 (q : Int), .agg #[.int .u64 a, .int .u64 b]] w fun e w' => e = .returned (.bool true) ∧ Below w.heap.size w w' := by
  have hk : 1 ≤ (7 : Int) ∧ (7 : Int) ≤ 15 := by omega
  have H := Lib.hid (fun W => slides_true W)
  have R := Lib.hid (fun W => real4_any a b (bounds_u64 g2).1 (bounds_u64 g2).2 (bounds_u64 g3).1 (bounds_u64 g3).2 W)
  have s0 := realN_sq a b
  generalize realN a b = n at R s0
  have SQ := Lib.hid (fun (W : World) (hT : Tab W) (h : 1 ≤ W.heap.size) => squares_any n s0 W hT h)
  have HT := Lib.hid hT
  have S0 := Lib.hid s0
  clear g2 g3 hT s0
  generalize hx : loW n = xn at R SQ
  generalize hy : hiW n = yn at R SQ
  have HXN := Lib.hid hx
  have HYN := Lib.hid hy
  clear hx hy
  have hz := zero_set
  have hzb := build_set
  have b1 : ¬ (7 : Int) < 1 := by omega
  have b2 : ¬ 15 < (7 : Int) := by omega
  have b3 : ¬ (q : Int) < 0 := by omega
  have b4 : ¬ 80 < (q : Int) := by omega
  go_enter Tryd.func5, Tryd.ntmps5
  go_wp2_with (first
    | (go_at_call 17; refine (H.out _).mono ?_; rintro e w1 ⟨rfl, hb1⟩; obtain ⟨hc1, hf1⟩ := bcells hb1; have hz1 : w.heap.size < w1.heap.size := by (have := hb1.size; simp at this; omega))
    | (go_at_call 18; refine (R.out _).mono ?_; rintro e w2 ⟨rfl, hb2⟩; obtain ⟨hc2, hf2⟩ := bcells hb2; have hz2 : w.heap.size < w2.heap.size := by (have := hb2.size; omega))
    | (go_at_call 21; refine (SQ.out _ (HT.out.grow (ball (((bthen (bthen (ball (bref w) _) hb1) hb2).setCell (Nat.le_refl _) _).setCell (Nat.le_refl _) _) _)) (by simp)).mono ?_; rintro e w3 ⟨v, rfl, hO, hb3⟩))
  have B3 := Lib.hid (bthen (ball (((bthen (bthen (ball (bref w) _) hb1) hb2).setCell (Nat.le_refl w.heap.size) (p := ⟨w.heap.size, 0, none⟩) (.int .u64 xn)).setCell (Nat.le_refl w.heap.size) (p := ⟨w.heap.size, 1, none⟩) (.int .u64 yn)) (.cells #[.int .u64 0, .int .u64 0] 24)) hb3)
  have hl3 : w2.heap.size < w3.heap.size := by have := hb3.size; simp at this; omega
  have t0 : w3.cell? ⟨w.heap.size, 0, none⟩ = some (.int .u64 xn) := (hb3.cell (p := ⟨w.heap.size, 0, none⟩) (by simp; omega)).trans (by go_simp)
  have t1 : w3.cell? ⟨w.heap.size, 1, none⟩ = some (.int .u64 yn) := (hb3.cell (p := ⟨w.heap.size, 1, none⟩) (by simp; omega)).trans (by go_simp)
  have V7 : Var w3 w2.heap.size 0 0 := Var.grow ⟨by simp, by go_simp, by go_simp, by go_simp, by go_simp⟩ hb3
  have HO := Lib.hid (hO.mono (C := w2.heap.size + 1) (by simp)).parts
  have hne : w.heap.size < w2.heap.size := hz2
  have T0 := Lib.hid t0
  have T1 := Lib.hid t1
  have HV7 := Lib.hid V7
  have hlen := sqI_le n
  clear hO hb3 hb1 hb2 hc1 hf1 hz1 hc2 hf2 hz2 H R SQ HT hz hzb t0 t1 V7
  generalize w2.heap.size = bt at *
  have HREV := Lib.hid (fun i hi => rev_test n i hi)
  have hrl : revL n = (sqI n).map (fun x => 80 - x) := rfl
  have hrn : revN n = ofN (revL n) := rfl
  have HREVN := Lib.hid hrn.symm
  have HBG := Lib.hid (fun (g : Nat) (h : bt + 1 ≤ g) => (h : bt < g))
  have hin : ∀ x ∈ sqI n, 0 ≤ x ∧ x < 81 := by
    intro x hx
    unfold sqI at hx
    obtain ⟨i, hi, rfl⟩ := List.mem_map.1 hx
    have := ((mem_sqI n i).1 (List.mem_map.2 ⟨i, hi, rfl⟩)).1
    omega
  have HIN := Lib.hid hin
  clear hrn hin hrl
  obtain ⟨o, cap, rfl, hsl⟩ : ∃ o cap, v = .slice o (sqI n).length cap ∧ (∀ (j : Nat) (hj : j < (sqI n).length), ∃ g, o = some ⟨g, 0, none⟩ ∧ bt < g ∧ g < w3.heap.size ∧ w3.cell? ⟨g, 0 + j, none⟩ = some (.int .i64 (sqI n)[j])) := by
    rcases HO.out with ⟨rfl, hnil⟩ | ⟨g, cap, rfl, hg, hgl, hcells⟩
    · refine ⟨none, 0, by rw [hnil]; rfl, fun j hj => ?_⟩
      rw [hnil] at hj
      exact absurd hj (Nat.not_lt_zero _)
    · exact ⟨_, cap, rfl, fun j hj => ⟨g, rfl, HBG.out g hg, hgl, hcells j hj⟩⟩
  have HSL := Lib.hid hsl
  clear hsl HO HBG
  have hb3' := B3.out
  have t0 := T0.out
  have t1 := T1.out
  clear T0 T1
  go_wp2
  have hrun : Sem.run Tryd.prog (Builtin.len_ #[38] 3 #[.slice o (sqI n).length cap]) w3 = .ok (.int .i64 ((sqI n).length : Nat)) w3 := rfl
  rw [hrun]
  clear hrun
  go_wp2
  go_loopw [36] (fun i wd => ∃ j : Nat, j ≤ (sqI n).length ∧ i = .int .i64 j ∧ Below w.heap.size w wd ∧ Var wd bt (loW (ofN ((revL n).take j))) (hiW (ofN ((revL n).take j))) ∧ wd.cell? ⟨w.heap.size, 0, none⟩ = some (.int .u64 xn) ∧ wd.cell? ⟨w.heap.size, 1, none⟩ = some (.int .u64 yn) ∧ (∀ g p v, bt < g → g < w3.heap.size → w3.cell? ⟨g, p, none⟩ = some v → g < wd.heap.size ∧ wd.cell? ⟨g, p, none⟩ = some v)) (fun i _ => (sqI n).length - (intOf i).toNat)
  case atStart =>
    refine ⟨0, Nat.zero_le _, rfl, hb3', ?_, t0, t1, fun g p v _ h2 h3 => ⟨h2, h3⟩⟩
    rw [List.take_zero, show ofN [] = 0 from rfl, lo_zero, hi_zero]
    exact HV7.out
  case round =>
    rename World => wd
    obtain ⟨j, hj, rfl, hB, hV, t0, t1, hK⟩ := hrel
    have HB := Lib.hid hB
    have HV := Lib.hid hV
    have HKP := Lib.hid hK
    have hzm := hV.lt
    have hzt : w.heap.size < wd.heap.size := by omega
    clear hb3' hB hK
    by_cases hlt : j < (sqI n).length
    · obtain ⟨g, rfl, hg1, hg2, hg3⟩ := HSL.out j hlt
      obtain ⟨hg4, c1⟩ := HKP.out _ _ _ hg1 hg2 hg3
      have hgb : g ≠ bt := by omega
      have hrt : (revL n)[j]'(by simp [revL]; omega) = 80 - (sqI n)[j] := by simp [revL]
      have C := Lib.hid (fun W => with_any (ofN ((revL n).take j)) ((revL n)[j]'(by simp [revL]; omega)) (ofN_sq _) W)
      rw [← take_step (revL n) j (by simp [revL]; omega)] at C
      rw [hrt] at C
      obtain ⟨r0, r1⟩ := HIN.out _ (List.getElem_mem hlt)
      have l0 := hV.lo
      have l1 := hV.hi
      have l2 := hV.f0
      have l3 := hV.f1
      clear hV hg3 hrt
      generalize (sqI n)[j] = s at C c1 r0 r1
      obtain ⟨z, hzs⟩ : ∃ z, z = 80 - s := ⟨_, rfl⟩
      have W2 := Lib.hid (show wrap64 (80 - s) = z by rw [hzs]; unfold wrap64; omega)
      rw [← hzs] at C
      clear hzs
      generalize loW (ofN ((revL n).take j)) = x at C l0 HV
      generalize hiW (ofN ((revL n).take j)) = y at C l1 HV
      generalize hx : loW (ofN ((revL n).take (j + 1))) = x2 at C
      generalize hy : hiW (ofN ((revL n).take (j + 1))) = y2 at C
      have HX := Lib.hid hx
      have HY := Lib.hid hy
      clear hx hy HSL
      have HR01 := Lib.hid (And.intro r0 r1)
      clear r0 r1
      rw [Nat.zero_add] at c1
      go_wp2_with (first
        | (go_at_call 23; rw [W2.out]; refine (C.out _).mono ?_; rintro e w5 ⟨rfl, hb5⟩; obtain ⟨hc5, hf5⟩ := bcells hb5; have hz5 : wd.heap.size ≤ w5.heap.size := hb5.size))
      go_roundw
      case rel =>
        refine ⟨j + 1, by omega, by go_num, ?_, ?_, ?_, ?_, ?_⟩
        · exact ((HB.out.trans (hb5.mono HB.out.size)).setCell (by simp; omega) _).setCell (by simp; omega) _
        · rw [HX.out, HY.out]
          exact (HV.out.grow hb5).put _ _
        · go_simp
        · go_simp
        · intro g' p v h1 h2 h3
          obtain ⟨h4, h5⟩ := HKP.out g' p v h1 h2 h3
          have hne' : g' ≠ bt := by omega
          refine ⟨by simp; omega, ?_⟩
          go_simp
      case measure => simp [intOf]; omega
    · obtain rfl : j = (sqI n).length := by omega
      rw [List.take_of_length_le (by simp [revL]), HREVN.out] at hV
      have m0 := hV.lo
      have m1 := hV.hi
      clear hV HV HKP HSL HV7
      have OA := Lib.hid (fun W => rayOf_any (7 : Int) q n (by omega) (by omega) S0.out W)
      have OB := Lib.hid (fun W => rayOf_any ((23 : Int)) (80 - (q : Int)) (revN n) (by omega) (by omega) (ofN_sq _) W)
      have OC := Lib.hid (fun (i : Nat) W => rayOf_any (7 : Int) i n (by omega) (by omega) S0.out W)
      have HSA : Hid (∀ (i : Nat), i < 81 → ∀ W, Calls Tryd.prog 14 #[.agg #[.int .u64 (loW (rayN (7 : Int) q n)), .int .u64 (hiW (rayN (7 : Int) q n))], .int .i64 (i : Int)] W fun e w' => e = .returned (.bool ((rayN (7 : Int) q n).testBit i)) ∧ Below W.heap.size W w') := Lib.hid (fun i hi W => by
        have := has_any (rayN (7 : Int) q n) i (rayN_sq (7 : Int) q n) W
        rw [has_nat _ i hi] at this
        exact this)
      have HSB : Hid (∀ (i : Nat), i < 81 → ∀ W, Calls Tryd.prog 14 #[.agg #[.int .u64 (loW (rayN ((23 : Int)) (80 - (q : Int)) (revN n))), .int .u64 (hiW (rayN ((23 : Int)) (80 - (q : Int)) (revN n)))], .int .i64 (80 - (i : Int))] W fun e w' => e = .returned (.bool ((rayN (7 : Int) q n).testBit i)) ∧ Below W.heap.size W w') := Lib.hid (fun i hi W => by
        have := has_any (rayN ((23 : Int)) (80 - (q : Int)) (revN n)) ((80 - i : Nat) : Int) (rayN_sq _ _ _) W
        have rt : (rayN ((23 : Int)) (80 - (q : Int)) (revN n)).testBit (80 - i) = (rayN (7 : Int) q n).testBit i := ray_turn (7 : Int) hk q i hq hi n (revN n) (fun t ht => rev_test n t ht) (between_inside q i)
        rw [has_nat _ (80 - i) (by omega), rt, show ((80 - i : Nat) : Int) = 80 - (i : Int) by omega] at this
        exact this)
      have HSC : Hid (∀ (i : Nat), i < 81 → ((7 : Int) = 6 ∨ (7 : Int) = 7 ∨ (7 : Int) = 8 ∨ (7 : Int) = 14 ∨ (7 : Int) = 15) → (rayN (7 : Int) q n).testBit i = true → ∀ W, Calls Tryd.prog 14 #[.agg #[.int .u64 (loW (rayN (7 : Int) i n)), .int .u64 (hiW (rayN (7 : Int) i n))], .int .i64 (q : Int)] W fun e w' => e = .returned (.bool true) ∧ Below W.heap.size W w') := Lib.hid (fun i hi hk' hb W => by
        have := has_any (rayN (7 : Int) i n) q (rayN_sq _ _ _) W
        rw [has_nat _ q hq, ray_back (7 : Int) hk' q i hq hi n hb] at this
        exact this)
      rw [HXN.out, HYN.out] at OA OC
      generalize rayN (7 : Int) q n = ma at OA HSA HSB HSC
      generalize loW ma = xa at OA HSA
      generalize hiW ma = ya at OA HSA
      generalize loW (rayN ((23 : Int)) (80 - (q : Int)) (revN n)) = xb at OB HSB
      generalize hiW (rayN ((23 : Int)) (80 - (q : Int)) (revN n)) = yb at OB HSB
      generalize loW (revN n) = xm at OB m0
      generalize hiW (revN n) = ym at OB m1
      have W8 := Lib.hid (show IntKind.i8.wrap (7 : Int) = (7 : Int) from wrap_i8_eq _ (by omega) (by omega))
      have W16 := Lib.hid (show IntKind.i8.wrap ((23 : Int)) = (23 : Int) from wrap_i8_eq _ (by omega) (by omega))
      have WK := Lib.hid (show IntKind.i64.wrap ((23 : Int)) = (23 : Int) by rw [IntKind.wrap_i64]; omega)
      have WK2 := Lib.hid (show wrap64 ((23 : Int)) = (23 : Int) by unfold wrap64; omega)
      have WQ := Lib.hid (show IntKind.i64.wrap (80 - (q : Int)) = 80 - (q : Int) by rw [IntKind.wrap_i64]; omega)
      have WQ2 := Lib.hid (show wrap64 (80 - (q : Int)) = 80 - (q : Int) by unfold wrap64; omega)
      obtain ⟨NN, nn0, nn1⟩ : ∃ NN : Nat → Array Value, NN 0 = #[.int .u64 xa, .int .u64 ya] ∧ NN 1 = #[.int .u64 xb, .int .u64 yb] := ⟨fun j => if j = 0 then _ else _, rfl, rfl⟩
      go_wp2_with fail
      refine wp_region_any (by kernel_rfl) ?_
      change wpAny _ _ _ _ _ _ _ (World.drew _)
      refine wpAny_inv3 (fun a0 => a0.eval (.tmp 0) = .int .i64 (7 : Int) ∧ a0.eval (.tmp 1) = .int .i64 (q : Int) ∧ a0.eval (.tmp 5) = .pointer (some ⟨w.heap.size, 0, none⟩) ∧ a0.eval (.tmp 7) = .pointer (some ⟨bt, 0, none⟩) ∧ 80 < a0.tmps.size) ⟨rfl, rfl, rfl, rfl, of_decide_eq_true rfl⟩
        (fun a0 ls a w' => ls.size = 16 ∧ Below wd.heap.size wd w' ∧ ∃ g : Nat → Nat, Blgs 24 #[.int .u64 0, .int .u64 0] wd w' NN ls 12 14 2 g ∧ a = cput (ls.getD 13 false) 11 (.pointer (some ⟨g 1, 0, none⟩)) (cput (ls.getD 12 false) 10 (.pointer (some ⟨g 0, 0, none⟩)) (cput (ls.getD 11 false) 56 (.agg #[.int .u64 xb, .int .u64 yb]) (cput (ls.getD 10 false) 55 (.agg #[.int .u64 xm, .int .u64 ym]) (cput (ls.getD 9 false) 54 (.int .i64 (80 - (q : Int))) (cput (ls.getD 8 false) 53 (.int .i64 (q : Int)) (cput (ls.getD 7 false) 52 (.int .i8 ((23 : Int))) (cput (ls.getD 6 false) 51 (.int .i64 ((23 : Int))) (cput (ls.getD 5 false) 50 (.int .i64 (7 : Int)) (cput (ls.getD 4 false) 49 (.agg #[.int .u64 xa, .int .u64 ya]) (cput (ls.getD 3 false) 48 (.agg #[.int .u64 xn, .int .u64 yn]) (cput (ls.getD 2 false) 47 (.int .i64 (q : Int)) (cput (ls.getD 1 false) 46 (.int .i8 (7 : Int)) (cput (ls.getD 0 false) 45 (.int .i64 (7 : Int)) (a0))))))))))))))) ?step ?fin ?start (by decide)
      case start => exact ⟨rfl, (bref wd).drew, fun _ => 0, ⟨fun j hj h => absurd h (by (obtain rfl | rfl : j = 0 ∨ j = 1 := by omega) <;> decide), fun i j hi hj _ h => absurd h (by (obtain rfl | rfl : i = 0 ∨ i = 1 := by omega) <;> decide), fun j hj h => absurd h (by (obtain rfl | rfl : j = 0 ∨ j = 1 := by omega) <;> decide)⟩, rfl⟩
      case step =>
        rintro a0 ⟨e0, e1, e5, e7, esz⟩ ls a w' ⟨hl, hb, g, hK, ha⟩ i o ho hu hw
        have hu' := undone hu
        rcases i with _ | _ | _ | _ | _ | _ | _ | _ | _ | _ | _ | _ | _ | _ | _ | _ | i
        · have ho' : some _ = some o := ho
          cases ho'
          have E0 : a.eval (.tmp 0) = .int .i64 (7 : Int) := by rw [ha]; simp [eval_cput_ne, e0]
          refine wpOp_step ho (fun K hK' => ?_)
          rw [if_pos (by rfl)]
          refine wp_valueK (w' := w') (.int .i64 (7 : Int)) ?_ (hK' _ _ ⟨by simp [hl], hb, g, hK.other (bref w') 0 (by omega) (fun j hj => by omega) (fun j hj => by omega), by rw [ha]; simp [cput_put, getF, hl, hu', cput_at]⟩)
          exact congrArg (fun v => Result.ok (Next.value v) w') E0
        · have ho' : some _ = some o := ho
          cases ho'
          have d45 : ls.getD 0 false = true := hw ⟨0, .data⟩ (by simp) rfl
          have z45 : 45 < a0.tmps.size := by omega
          have E45 : a.eval (.tmp 45) = .int .i64 (7 : Int) := by rw [ha]; simp [eval_cput_ne, d45, eval_cput_at, size_cput, z45]
          refine wpOp_step ho (fun K hK' => ?_)
          rw [if_pos (by rfl)]
          refine wp_valueK (w' := w') (.int .i8 (7 : Int)) ?_ (hK' _ _ ⟨by simp [hl], hb, g, hK.other (bref w') 1 (by omega) (fun j hj => by omega) (fun j hj => by omega), by rw [ha]; simp [cput_put, getF, hl, hu', cput_at]⟩)
          clear ha
          have w1 : IntKind.i8.wrap (7 : Int) = (7 : Int) := W8.out
          have EE : a.tmps[45]?.getD undef = .int .i64 (7 : Int) := by first | exact E45 | simpa [Act.eval] using E45
          go_simp
          all_goals first | (rw [EE]; go_simp; done) | decide | rfl
        · have ho' : some _ = some o := ho
          cases ho'
          have E1 : a.eval (.tmp 1) = .int .i64 (q : Int) := by rw [ha]; simp [eval_cput_ne, e1]
          refine wpOp_step ho (fun K hK' => ?_)
          rw [if_pos (by rfl)]
          refine wp_valueK (w' := w') (.int .i64 (q : Int)) ?_ (hK' _ _ ⟨by simp [hl], hb, g, hK.other (bref w') 2 (by omega) (fun j hj => by omega) (fun j hj => by omega), by rw [ha]; simp [cput_put, getF, hl, hu', cput_at]⟩)
          exact congrArg (fun v => Result.ok (Next.value v) w') E1
        · have ho' : some _ = some o := ho
          cases ho'
          have E5 : a.eval (.tmp 5) = .pointer (some ⟨w.heap.size, 0, none⟩) := by rw [ha]; simp [eval_cput_ne, e5]
          refine wpOp_step ho (fun K hK' => ?_)
          rw [if_pos (by rfl)]
          refine wp_load_mid _ _ rfl (w.heap.size) 0 E5 [.int .u64 xn, .int .u64 yn] _ (range2 ((hb.cell (p := ⟨w.heap.size, 0, none⟩) hzt).trans t0) ((hb.cell (p := ⟨w.heap.size, 1, none⟩) hzt).trans t1)) Tryd.underlying24 rfl infoSet2 ?_
          exact hK' _ _ ⟨by simp [hl], hb, g, hK.other (bref w') 3 (by omega) (fun j hj => by omega) (fun j hj => by omega), by rw [ha]; simp [cput_put, getF, hl, hu', cput_at]⟩
        · have ho' : some _ = some o := ho
          cases ho'
          have d46 : ls.getD 1 false = true := hw ⟨1, .data⟩ (by simp) rfl
          have z46 : 46 < a0.tmps.size := by omega
          have E46 : a.eval (.tmp 46) = .int .i8 (7 : Int) := by rw [ha]; simp [eval_cput_ne, d46, eval_cput_at, size_cput, z46]
          have d47 : ls.getD 2 false = true := hw ⟨2, .data⟩ (by simp) rfl
          have z47 : 47 < a0.tmps.size := by omega
          have E47 : a.eval (.tmp 47) = .int .i64 (q : Int) := by rw [ha]; simp [eval_cput_ne, d47, eval_cput_at, size_cput, z47]
          have d48 : ls.getD 3 false = true := hw ⟨3, .data⟩ (by simp) rfl
          have z48 : 48 < a0.tmps.size := by omega
          have E48 : a.eval (.tmp 48) = .agg #[.int .u64 xn, .int .u64 yn] := by rw [ha]; simp [eval_cput_ne, d48, eval_cput_at, size_cput, z48]
          refine wpOp_step ho (fun K hK' => ?_)
          rw [if_pos (by rfl)]
          refine wp_callK 24 #[a.eval (.tmp 46), a.eval (.tmp 47), a.eval (.tmp 48)] ?_ ?_
          · clear ha E46 E47 E48
            go_simp
          · rw [E46, E47, E48]
            refine (OA.out _).mono ?_
            rintro e w2 ⟨rfl, hb2⟩
            exact ⟨_, rfl, hK' _ _ ⟨by simp [hl], bthen hb hb2, g, hK.other hb2 4 (by omega) (fun j hj => by omega) (fun j hj => by omega), by rw [ha]; simp [cput_put, getF, hl, hu', cput_at]⟩⟩
        · have ho' : some _ = some o := ho
          cases ho'
          have E0 : a.eval (.tmp 0) = .int .i64 (7 : Int) := by rw [ha]; simp [eval_cput_ne, e0]
          refine wpOp_step ho (fun K hK' => ?_)
          rw [if_pos (by rfl)]
          refine wp_valueK (w' := w') (.int .i64 (7 : Int)) ?_ (hK' _ _ ⟨by simp [hl], hb, g, hK.other (bref w') 5 (by omega) (fun j hj => by omega) (fun j hj => by omega), by rw [ha]; simp [cput_put, getF, hl, hu', cput_at]⟩)
          exact congrArg (fun v => Result.ok (Next.value v) w') E0
        · have ho' : some _ = some o := ho
          cases ho'
          have d50 : ls.getD 5 false = true := hw ⟨5, .data⟩ (by simp) rfl
          have z50 : 50 < a0.tmps.size := by omega
          have E50 : a.eval (.tmp 50) = .int .i64 (7 : Int) := by rw [ha]; simp [eval_cput_ne, d50, eval_cput_at, size_cput, z50]
          refine wpOp_step ho (fun K hK' => ?_)
          rw [if_pos (by rfl)]
          refine wp_valueK (w' := w') (.int .i64 ((23 : Int))) ?_ (hK' _ _ ⟨by simp [hl], hb, g, hK.other (bref w') 6 (by omega) (fun j hj => by omega) (fun j hj => by omega), by rw [ha]; simp [cput_put, getF, hl, hu', cput_at]⟩)
          clear ha
          have w1 : IntKind.i64.wrap ((23 : Int)) = (23 : Int) := WK.out
          have w2 : wrap64 ((23 : Int)) = (23 : Int) := WK2.out
          have EE : a.tmps[50]?.getD undef = .int .i64 (7 : Int) := by first | exact E50 | simpa [Act.eval] using E50
          go_simp
          all_goals first | (rw [EE]; go_simp; done) | decide | rfl
        · have ho' : some _ = some o := ho
          cases ho'
          have d51 : ls.getD 6 false = true := hw ⟨6, .data⟩ (by simp) rfl
          have z51 : 51 < a0.tmps.size := by omega
          have E51 : a.eval (.tmp 51) = .int .i64 ((23 : Int)) := by rw [ha]; simp [eval_cput_ne, d51, eval_cput_at, size_cput, z51]
          refine wpOp_step ho (fun K hK' => ?_)
          rw [if_pos (by rfl)]
          refine wp_valueK (w' := w') (.int .i8 ((23 : Int))) ?_ (hK' _ _ ⟨by simp [hl], hb, g, hK.other (bref w') 7 (by omega) (fun j hj => by omega) (fun j hj => by omega), by rw [ha]; simp [cput_put, getF, hl, hu', cput_at]⟩)
          clear ha
          have w1 : IntKind.i8.wrap ((23 : Int)) = (23 : Int) := W16.out
          have EE : a.tmps[51]?.getD undef = .int .i64 ((23 : Int)) := by first | exact E51 | simpa [Act.eval] using E51
          go_simp
          all_goals first | (rw [EE]; go_simp; done) | decide | rfl
        · have ho' : some _ = some o := ho
          cases ho'
          have E1 : a.eval (.tmp 1) = .int .i64 (q : Int) := by rw [ha]; simp [eval_cput_ne, e1]
          refine wpOp_step ho (fun K hK' => ?_)
          rw [if_pos (by rfl)]
          refine wp_valueK (w' := w') (.int .i64 (q : Int)) ?_ (hK' _ _ ⟨by simp [hl], hb, g, hK.other (bref w') 8 (by omega) (fun j hj => by omega) (fun j hj => by omega), by rw [ha]; simp [cput_put, getF, hl, hu', cput_at]⟩)
          exact congrArg (fun v => Result.ok (Next.value v) w') E1
        · have ho' : some _ = some o := ho
          cases ho'
          have d53 : ls.getD 8 false = true := hw ⟨8, .data⟩ (by simp) rfl
          have z53 : 53 < a0.tmps.size := by omega
          have E53 : a.eval (.tmp 53) = .int .i64 (q : Int) := by rw [ha]; simp [eval_cput_ne, d53, eval_cput_at, size_cput, z53]
          refine wpOp_step ho (fun K hK' => ?_)
          rw [if_pos (by rfl)]
          refine wp_valueK (w' := w') (.int .i64 (80 - (q : Int))) ?_ (hK' _ _ ⟨by simp [hl], hb, g, hK.other (bref w') 9 (by omega) (fun j hj => by omega) (fun j hj => by omega), by rw [ha]; simp [cput_put, getF, hl, hu', cput_at]⟩)
          clear ha
          have w1 : IntKind.i64.wrap (80 - (q : Int)) = 80 - (q : Int) := WQ.out
          have w2 : wrap64 (80 - (q : Int)) = 80 - (q : Int) := WQ2.out
          have EE : a.tmps[53]?.getD undef = .int .i64 (q : Int) := by first | exact E53 | simpa [Act.eval] using E53
          go_simp
          all_goals first | (rw [EE]; go_simp; done) | decide | rfl
        · have ho' : some _ = some o := ho
          cases ho'
          have E7 : a.eval (.tmp 7) = .pointer (some ⟨bt, 0, none⟩) := by rw [ha]; simp [eval_cput_ne, e7]
          refine wpOp_step ho (fun K hK' => ?_)
          rw [if_pos (by rfl)]
          refine wp_load_mid _ _ rfl (bt) 0 E7 [.int .u64 xm, .int .u64 ym] _ (range2 ((hb.cell (p := ⟨bt, 0, none⟩) hzm).trans m0) ((hb.cell (p := ⟨bt, 1, none⟩) hzm).trans m1)) Tryd.underlying24 rfl infoSet2 ?_
          exact hK' _ _ ⟨by simp [hl], hb, g, hK.other (bref w') 10 (by omega) (fun j hj => by omega) (fun j hj => by omega), by rw [ha]; simp [cput_put, getF, hl, hu', cput_at]⟩
        · have ho' : some _ = some o := ho
          cases ho'
          have d52 : ls.getD 7 false = true := hw ⟨7, .data⟩ (by simp) rfl
          have z52 : 52 < a0.tmps.size := by omega
          have E52 : a.eval (.tmp 52) = .int .i8 ((23 : Int)) := by rw [ha]; simp [eval_cput_ne, d52, eval_cput_at, size_cput, z52]
          have d54 : ls.getD 9 false = true := hw ⟨9, .data⟩ (by simp) rfl
          have z54 : 54 < a0.tmps.size := by omega
          have E54 : a.eval (.tmp 54) = .int .i64 (80 - (q : Int)) := by rw [ha]; simp [eval_cput_ne, d54, eval_cput_at, size_cput, z54]
          have d55 : ls.getD 10 false = true := hw ⟨10, .data⟩ (by simp) rfl
          have z55 : 55 < a0.tmps.size := by omega
          have E55 : a.eval (.tmp 55) = .agg #[.int .u64 xm, .int .u64 ym] := by rw [ha]; simp [eval_cput_ne, d55, eval_cput_at, size_cput, z55]
          refine wpOp_step ho (fun K hK' => ?_)
          rw [if_pos (by rfl)]
          refine wp_callK 24 #[a.eval (.tmp 52), a.eval (.tmp 54), a.eval (.tmp 55)] ?_ ?_
          · clear ha E52 E54 E55
            go_simp
          · rw [E52, E54, E55]
            refine (OB.out _).mono ?_
            rintro e w2 ⟨rfl, hb2⟩
            exact ⟨_, rfl, hK' _ _ ⟨by simp [hl], bthen hb hb2, g, hK.other hb2 11 (by omega) (fun j hj => by omega) (fun j hj => by omega), by rw [ha]; simp [cput_put, getF, hl, hu', cput_at]⟩⟩
        · have ho' : some _ = some o := ho
          cases ho'
          refine wpOp_step ho (fun K hK' => ?_)
          rw [if_pos (by rfl)]
          refine wp_valueK (w' := w'.alloc (.cells #[.int .u64 0, .int .u64 0] 24)) (.pointer (some ⟨w'.heap.size, 0, none⟩)) ?_ ?_
          · have hz := zero_set
            clear ha
            go_simp
          · exact hK' _ _ ⟨by simp [hl], ball hb _, _, hK.laid hb 0 (by omega) (by omega) hu' (by omega), by rw [ha]; simp [cput_put, getF, hl, hu', cput_at]⟩
        · have ho' : some _ = some o := ho
          cases ho'
          refine wpOp_step ho (fun K hK' => ?_)
          rw [if_pos (by rfl)]
          refine wp_valueK (w' := w'.alloc (.cells #[.int .u64 0, .int .u64 0] 24)) (.pointer (some ⟨w'.heap.size, 0, none⟩)) ?_ ?_
          · have hz := zero_set
            clear ha
            go_simp
          · exact hK' _ _ ⟨by simp [hl], ball hb _, _, hK.laid hb 1 (by omega) (by omega) hu' (by omega), by rw [ha]; simp [cput_put, getF, hl, hu', cput_at]⟩
        · have ho' : some _ = some o := ho
          cases ho'
          have d10 : ls.getD 12 false = true := hw ⟨12, .data⟩ (by simp) rfl
          have z10 : 10 < a0.tmps.size := by omega
          have E10 : a.eval (.tmp 10) = .pointer (some ⟨g 0, 0, none⟩) := by rw [ha]; simp [eval_cput_ne, d10, eval_cput_at, size_cput, z10]
          have d49 : ls.getD 4 false = true := hw ⟨4, .data⟩ (by simp) rfl
          have z49 : 49 < a0.tmps.size := by omega
          have E49 : a.eval (.tmp 49) = .agg #[.int .u64 xa, .int .u64 ya] := by rw [ha]; simp [eval_cput_ne, d49, eval_cput_at, size_cput, z49]
          refine wpOp_step ho (fun K hK' => ?_)
          rw [if_pos (by rfl)]
          have hB := hK.blk 0 (by omega) d10
          rw [show ls.getD (14 + 0) false = false from hu', if_neg (by decide)] at hB
          have gg : ∀ j, j ≠ 14 → (ls.setIfInBounds 14 true).getD j false = ls.getD j false := fun j hj => (getF (by omega : 14 < ls.size)).trans (if_neg (Ne.symm hj))
          have hF := hK.filled 0 (by omega) (by omega) d10 (by omega)
          rw [nn0] at hF
          refine wp_store_row 24 _ _ rfl (g 0) (#[.int .u64 xa, .int .u64 ya]) E10 E49 24 #[.int .u64 0, .int .u64 0] hB.row infoSet2 rfl (by simp [Value.oneCell']) ?_
          refine hK' _ _ ⟨by simp [hl], below_setRow hb hB.le _, g, hF, ?_⟩
          rw [gg 13 (by decide), gg 12 (by decide), gg 11 (by decide), gg 10 (by decide), gg 9 (by decide), gg 8 (by decide), gg 7 (by decide), gg 6 (by decide), gg 5 (by decide), gg 4 (by decide), gg 3 (by decide), gg 2 (by decide), gg 1 (by decide), gg 0 (by decide), ha]
          rfl
        · have ho' : some _ = some o := ho
          cases ho'
          have d11 : ls.getD 13 false = true := hw ⟨13, .data⟩ (by simp) rfl
          have z11 : 11 < a0.tmps.size := by omega
          have E11 : a.eval (.tmp 11) = .pointer (some ⟨g 1, 0, none⟩) := by rw [ha]; simp [eval_cput_ne, d11, eval_cput_at, size_cput, z11]
          have d56 : ls.getD 11 false = true := hw ⟨11, .data⟩ (by simp) rfl
          have z56 : 56 < a0.tmps.size := by omega
          have E56 : a.eval (.tmp 56) = .agg #[.int .u64 xb, .int .u64 yb] := by rw [ha]; simp [eval_cput_ne, d56, eval_cput_at, size_cput, z56]
          refine wpOp_step ho (fun K hK' => ?_)
          rw [if_pos (by rfl)]
          have hB := hK.blk 1 (by omega) d11
          rw [show ls.getD (14 + 1) false = false from hu', if_neg (by decide)] at hB
          have gg : ∀ j, j ≠ 15 → (ls.setIfInBounds 15 true).getD j false = ls.getD j false := fun j hj => (getF (by omega : 15 < ls.size)).trans (if_neg (Ne.symm hj))
          have hF := hK.filled 1 (by omega) (by omega) d11 (by omega)
          rw [nn1] at hF
          refine wp_store_row 24 _ _ rfl (g 1) (#[.int .u64 xb, .int .u64 yb]) E11 E56 24 #[.int .u64 0, .int .u64 0] hB.row infoSet2 rfl (by simp [Value.oneCell']) ?_
          refine hK' _ _ ⟨by simp [hl], below_setRow hb hB.le _, g, hF, ?_⟩
          rw [gg 13 (by decide), gg 12 (by decide), gg 11 (by decide), gg 10 (by decide), gg 9 (by decide), gg 8 (by decide), gg 7 (by decide), gg 6 (by decide), gg 5 (by decide), gg 4 (by decide), gg 3 (by decide), gg 2 (by decide), gg 1 (by decide), gg 0 (by decide), ha]
          rfl
        · cases ho
      case fin =>
        rintro ls a w' ⟨hl, hb, g, hK, ha⟩ hr
        have d : ∀ i, i < 16 → ls.getD i false = true := all_doneB hr (by kernel_rfl) (by rw [hl]; rfl)
        have K0 := hK.blk 0 (by omega) (d 12 (by decide))
        rw [show ls.getD (14 + 0) false = true from d 14 (by decide), if_pos rfl, nn0] at K0
        have K1 := hK.blk 1 (by omega) (d 13 (by decide))
        rw [show ls.getD (14 + 1) false = true from d 15 (by decide), if_pos rfl, nn1] at K1
        rw [d 13 (by decide), d 12 (by decide), d 11 (by decide), d 10 (by decide), d 9 (by decide), d 8 (by decide), d 7 (by decide), d 6 (by decide), d 5 (by decide), d 4 (by decide), d 3 (by decide), d 2 (by decide), d 1 (by decide), d 0 (by decide)] at ha
        subst ha
        simp only [cput, if_true, Act.put, List.setIfInBounds_toArray, List.set_cons_zero, List.set_cons_succ]
        clear d hr hl hK
        have za := K0.lt
        have zb := K1.lt
        have ra := K0.row
        have rb := K1.row
        generalize g 0 = pa at *
        generalize g 1 = pb at *
        have a0 : w'.cell? ⟨pa, 0, none⟩ = some (.int .u64 xa) := row_cell0 ra
        have a1 : w'.cell? ⟨pa, 1, none⟩ = some (.int .u64 ya) := row_cell1 ra
        have b0 : w'.cell? ⟨pb, 0, none⟩ = some (.int .u64 xb) := row_cell0 rb
        have b1 : w'.cell? ⟨pb, 1, none⟩ = some (.int .u64 yb) := row_cell1 rb
        have t0' : w'.cell? ⟨w.heap.size, 0, none⟩ = some (.int .u64 xn) := (hb.cell (p := ⟨w.heap.size, 0, none⟩) hzt).trans t0
        have t1' : w'.cell? ⟨w.heap.size, 1, none⟩ = some (.int .u64 yn) := (hb.cell (p := ⟨w.heap.size, 1, none⟩) hzt).trans t1
        have zt : w.heap.size < w'.heap.size := Nat.lt_of_lt_of_le hzt hb.size
        have HBW := Lib.hid (bthen HB.out hb)
        clear K0 K1 ra rb t0 t1 m0 m1 hb HB nn0 nn1 OA OB hzm hzt
        go_wp2_with fail
        go_loopw [12] (fun i wr => ∃ m : Nat, m ≤ 81 ∧ i = .int .i64 m ∧ Below w'.heap.size w' wr) (fun i _ => 81 - (intOf i).toNat)
        case atStart => exact ⟨0, Nat.zero_le _, rfl, bref _⟩
        case round =>
          obtain ⟨i, hi, rfl, hW⟩ := hrel
          have A0 := (hW.cell (p := ⟨pa, 0, none⟩) za).trans a0
          have A1 := (hW.cell (p := ⟨pa, 1, none⟩) za).trans a1
          have B0 := (hW.cell (p := ⟨pb, 0, none⟩) zb).trans b0
          have B1 := (hW.cell (p := ⟨pb, 1, none⟩) zb).trans b1
          have T0 := (hW.cell (p := ⟨w.heap.size, 0, none⟩) zt).trans t0'
          have T1 := (hW.cell (p := ⟨w.heap.size, 1, none⟩) zt).trans t1'
          have za' := Nat.lt_of_lt_of_le za hW.size
          have zb' := Nat.lt_of_lt_of_le zb hW.size
          have zt' := Nat.lt_of_lt_of_le zt hW.size
          clear a0 a1 b0 b1 t0' t1' za zb zt
          have HW := Lib.hid hW
          clear hW
          have a0 := A0
          have a1 := A1
          have b0 := B0
          have b1 := B1
          have za := za'
          have zb := zb'
          clear A0 A1 B0 B1 za' zb'
          by_cases hlt : i < 81
          · have HA := Lib.hid (fun W => HSA.out i hlt W)
            have HBb := Lib.hid (fun W => HSB.out i hlt W)
            have HC := Lib.hid (fun h1 h2 W => HSC.out i hlt h1 h2 W)
            have OCi := Lib.hid (fun W => OC.out i W)
            generalize loW (rayN (7 : Int) i n) = xc at HC OCi
            generalize hiW (rayN (7 : Int) i n) = yc at HC OCi
            generalize ma.testBit i = bit at HA HBb HC
            have WT := Lib.hid (show IntKind.i64.wrap (80 - (i : Int)) = 80 - (i : Int) by rw [IntKind.wrap_i64]; omega)
            clear HSA HSB HSC OC
            go_wp2_with fail
            refine wp_region_held_drew (S := fun w' => Below wr.heap.size wr w' ∧ pa < w'.heap.size ∧ pb < w'.heap.size ∧ w'.cell? ⟨pa, 0, none⟩ = some (.int .u64 xa) ∧ w'.cell? ⟨pa, 1, none⟩ = some (.int .u64 ya) ∧ w'.cell? ⟨pb, 0, none⟩ = some (.int .u64 xb) ∧ w'.cell? ⟨pb, 1, none⟩ = some (.int .u64 yb)) (by kernel_rfl) ?_ (fun hHeld => ?_)
            · exact ⟨(bref wr).drew, za, zb, a0, a1, b0, b1⟩
            refine wpAnyH_take (i := 0) (v := ?v7) rfl (by kernel_rfl) (by kernel_rfl) (by kernel_rfl) (fun _ _ _ h => h) (Or.inl ⟨by rfl, ?y7⟩) (by assumption) ?r7
            case y7 => (intro w hSw; (go_simp <;> first | with_reducible rfl | (rw [if_pos (by omega)] <;> with_reducible rfl)))
            try simp only [Act.put, List.getElem_toArray, List.getElem_cons_zero, List.getElem_cons_succ, List.setIfInBounds_toArray, List.set_cons_zero, List.set_cons_succ]
            refine wpAnyH_take (i := 1) (v := ?v8) rfl (by kernel_rfl) (by kernel_rfl) (by kernel_rfl) (fun _ _ _ h => h) (Or.inl ⟨by rfl, ?y8⟩) (by assumption) ?r8
            case y8 => (intro w hSw; (go_simp <;> first | with_reducible rfl | (rw [if_pos (by omega)] <;> with_reducible rfl)))
            try simp only [Act.put, List.getElem_toArray, List.getElem_cons_zero, List.getElem_cons_succ, List.setIfInBounds_toArray, List.set_cons_zero, List.set_cons_succ]
            refine wpAnyH_take (i := 3) (v := ?v9) rfl (by kernel_rfl) (by kernel_rfl) (by kernel_rfl) (fun _ _ _ h => h) (Or.inl ⟨by rfl, ?y9⟩) (by assumption) ?r9
            case y9 => (intro w hSw; (go_simp <;> first | with_reducible rfl | (rw [if_pos (by omega)] <;> with_reducible rfl)))
            try simp only [Act.put, List.getElem_toArray, List.getElem_cons_zero, List.getElem_cons_succ, List.setIfInBounds_toArray, List.set_cons_zero, List.set_cons_succ]
            refine wpAnyH_take (i := 4) (v := ?v10) rfl (by kernel_rfl) (by kernel_rfl) (by kernel_rfl) (fun _ _ _ h => h) (Or.inl ⟨by rfl, ?y10⟩) (by assumption) ?r10
            case y10 => (intro w hSw; (go_simp <;> first | with_reducible rfl | (rw [if_pos (by omega)] <;> with_reducible rfl)))
            try simp only [Act.put, List.getElem_toArray, List.getElem_cons_zero, List.getElem_cons_succ, List.setIfInBounds_toArray, List.set_cons_zero, List.set_cons_succ]
            refine wpAnyH_take (i := 5) (v := ?v11) rfl (by kernel_rfl) (by kernel_rfl) (by kernel_rfl) (fun _ _ _ h => h) (Or.inl ⟨by rfl, ?y11⟩) (by assumption) ?r11
            case y11 => (intro w hSw; (go_simp <;> first | with_reducible rfl | (rw [if_pos (by omega)] <;> with_reducible rfl)))
            try simp only [Act.put, List.getElem_toArray, List.getElem_cons_zero, List.getElem_cons_succ, List.setIfInBounds_toArray, List.set_cons_zero, List.set_cons_succ]
            refine wpAnyH_ready (rs := [2]) (by kernel_rfl) (by simp) ?_
            refine AllReadyH.cons rfl (fun K hK => ?_) AllReadyH.nil
            rw [if_pos (by rfl)]
            go_simp
            go_at_call 14
            refine (HA.out _).mono ?_
            rintro e wn ⟨rfl, hb⟩
            refine hK.out _ _ (⟨bthen hHeld.1 hb, Nat.lt_of_lt_of_le hHeld.2.1 hb.size, Nat.lt_of_lt_of_le hHeld.2.2.1 hb.size, (hb.cell (p := ⟨pa, 0, none⟩) hHeld.2.1).trans hHeld.2.2.2.1, (hb.cell (p := ⟨pa, 1, none⟩) hHeld.2.1).trans hHeld.2.2.2.2.1, (hb.cell (p := ⟨pb, 0, none⟩) hHeld.2.2.1).trans hHeld.2.2.2.2.2.1, (hb.cell (p := ⟨pb, 1, none⟩) hHeld.2.2.1).trans hHeld.2.2.2.2.2.2⟩) (fun hHeld => ?_)
            clear hK K
            try simp only [Act.put, List.getElem_toArray, List.getElem_cons_zero, List.getElem_cons_succ, List.setIfInBounds_toArray, List.set_cons_zero, List.set_cons_succ]
            refine wpAnyH_ready (rs := [6]) (by kernel_rfl) (by simp) ?_
            refine AllReadyH.cons rfl (fun K hK => ?_) AllReadyH.nil
            rw [if_pos (by rfl)]
            go_simp
            go_at_call 14
            rw [WT.out]
            refine (HBb.out _).mono ?_
            rintro e wn ⟨rfl, hb⟩
            refine hK.out _ _ (⟨bthen hHeld.1 hb, Nat.lt_of_lt_of_le hHeld.2.1 hb.size, Nat.lt_of_lt_of_le hHeld.2.2.1 hb.size, (hb.cell (p := ⟨pa, 0, none⟩) hHeld.2.1).trans hHeld.2.2.2.1, (hb.cell (p := ⟨pa, 1, none⟩) hHeld.2.1).trans hHeld.2.2.2.2.1, (hb.cell (p := ⟨pb, 0, none⟩) hHeld.2.2.1).trans hHeld.2.2.2.2.2.1, (hb.cell (p := ⟨pb, 1, none⟩) hHeld.2.2.1).trans hHeld.2.2.2.2.2.2⟩) (fun hHeld => ?_)
            clear hK K
            try simp only [Act.put, List.getElem_toArray, List.getElem_cons_zero, List.getElem_cons_succ, List.setIfInBounds_toArray, List.set_cons_zero, List.set_cons_succ]
            refine wpAnyH_take (i := 7) (v := ?v12) rfl (by kernel_rfl) (by kernel_rfl) (by kernel_rfl) (fun _ _ _ h => h) (Or.inl ⟨by rfl, ?y12⟩) (by assumption) ?r12
            case y12 => (intro w hSw; (go_simp <;> first | with_reducible rfl | (rw [if_pos (by omega)] <;> with_reducible rfl)))
            try simp only [Act.put, List.getElem_toArray, List.getElem_cons_zero, List.getElem_cons_succ, List.setIfInBounds_toArray, List.set_cons_zero, List.set_cons_succ]
            refine wpAnyH_done (by kernel_rfl) ?_ _
            obtain ⟨hX, za, zb, a0, a1, b0, b1⟩ := hHeld
            have T0' := (hX.cell (p := ⟨w.heap.size, 0, none⟩) zt').trans T0
            have T1' := (hX.cell (p := ⟨w.heap.size, 1, none⟩) zt').trans T1
            have zt2 := Nat.lt_of_lt_of_le zt' hX.size
            clear T0 T1 zt'
            have HX := Lib.hid (bthen HW.out hX)
            clear hX HW
            cases bit
            · go_wp2_with (first
                | (go_at_call 14; refine (HA.out _).mono ?_; rintro e w5 ⟨rfl, hb5⟩))
              go_roundw
              case rel => exact ⟨i + 1, by omega, by go_num, bthen HX.out hb5⟩
              case measure => simp [intOf]; omega
            · have HC' := Lib.hid (fun W => HC.out (by simp) rfl W)
              clear HC
              go_wp2_with (first
                | (go_at_call_of 14 (Value.int .u64 xa); refine (HA.out _).mono ?_; rintro e w5 ⟨rfl, hb5⟩; have T0 := (hb5.cell (p := ⟨w.heap.size, 0, none⟩) zt2).trans T0'; have T1 := (hb5.cell (p := ⟨w.heap.size, 1, none⟩) zt2).trans T1'; clear T0' T1')
                | (go_at_call 24; refine (OCi.out _).mono ?_; rintro e w6 ⟨rfl, hb6⟩)
                | (go_at_call_of 14 (Value.int .u64 xc); refine (HC'.out _).mono ?_; rintro e w7 ⟨rfl, hb7⟩))
              go_roundw
              case rel => exact ⟨i + 1, by omega, by go_num, bthen (bthen (bthen HX.out hb5) hb6) hb7⟩
              case measure => simp [intOf]; omega
          · obtain rfl : i = 81 := Nat.le_antisymm hi (Nat.not_lt.1 hlt)
            go_wp2
            go_ret
            exact ⟨rfl, bthen HBW.out HW.out⟩

set_option maxHeartbeats 4000000 in
theorem walk_8 (a b : Int) (q : Nat) (g2 : (Lit.int .u64 a).wf = true) (g3 : (Lit.int .u64 b).wf = true) (hq : q < 81) (w : World) (hT : Tab w) :
    Calls Tryd.prog 5 #[.int .i64 (8 : Int), .int .i64 (q : Int), .agg #[.int .u64 a, .int .u64 b]] w fun e w' => e = .returned (.bool true) ∧ Below w.heap.size w w' := by
  have hk : 1 ≤ (8 : Int) ∧ (8 : Int) ≤ 15 := by omega
  have H := Lib.hid (fun W => slides_true W)
  have R := Lib.hid (fun W => real4_any a b (bounds_u64 g2).1 (bounds_u64 g2).2 (bounds_u64 g3).1 (bounds_u64 g3).2 W)
  have s0 := realN_sq a b
  generalize realN a b = n at R s0
  have SQ := Lib.hid (fun (W : World) (hT : Tab W) (h : 1 ≤ W.heap.size) => squares_any n s0 W hT h)
  have HT := Lib.hid hT
  have S0 := Lib.hid s0
  clear g2 g3 hT s0
  generalize hx : loW n = xn at R SQ
  generalize hy : hiW n = yn at R SQ
  have HXN := Lib.hid hx
  have HYN := Lib.hid hy
  clear hx hy
  have hz := zero_set
  have hzb := build_set
  have b1 : ¬ (8 : Int) < 1 := by omega
  have b2 : ¬ 15 < (8 : Int) := by omega
  have b3 : ¬ (q : Int) < 0 := by omega
  have b4 : ¬ 80 < (q : Int) := by omega
  go_enter Tryd.func5, Tryd.ntmps5
  go_wp2_with (first
    | (go_at_call 17; refine (H.out _).mono ?_; rintro e w1 ⟨rfl, hb1⟩; obtain ⟨hc1, hf1⟩ := bcells hb1; have hz1 : w.heap.size < w1.heap.size := by (have := hb1.size; simp at this; omega))
    | (go_at_call 18; refine (R.out _).mono ?_; rintro e w2 ⟨rfl, hb2⟩; obtain ⟨hc2, hf2⟩ := bcells hb2; have hz2 : w.heap.size < w2.heap.size := by (have := hb2.size; omega))
    | (go_at_call 21; refine (SQ.out _ (HT.out.grow (ball (((bthen (bthen (ball (bref w) _) hb1) hb2).setCell (Nat.le_refl _) _).setCell (Nat.le_refl _) _) _)) (by simp)).mono ?_; rintro e w3 ⟨v, rfl, hO, hb3⟩))
  have B3 := Lib.hid (bthen (ball (((bthen (bthen (ball (bref w) _) hb1) hb2).setCell (Nat.le_refl w.heap.size) (p := ⟨w.heap.size, 0, none⟩) (.int .u64 xn)).setCell (Nat.le_refl w.heap.size) (p := ⟨w.heap.size, 1, none⟩) (.int .u64 yn)) (.cells #[.int .u64 0, .int .u64 0] 24)) hb3)
  have hl3 : w2.heap.size < w3.heap.size := by have := hb3.size; simp at this; omega
  have t0 : w3.cell? ⟨w.heap.size, 0, none⟩ = some (.int .u64 xn) := (hb3.cell (p := ⟨w.heap.size, 0, none⟩) (by simp; omega)).trans (by go_simp)
  have t1 : w3.cell? ⟨w.heap.size, 1, none⟩ = some (.int .u64 yn) := (hb3.cell (p := ⟨w.heap.size, 1, none⟩) (by simp; omega)).trans (by go_simp)
  have V7 : Var w3 w2.heap.size 0 0 := Var.grow ⟨by simp, by go_simp, by go_simp, by go_simp, by go_simp⟩ hb3
  have HO := Lib.hid (hO.mono (C := w2.heap.size + 1) (by simp)).parts
  have hne : w.heap.size < w2.heap.size := hz2
  have T0 := Lib.hid t0
  have T1 := Lib.hid t1
  have HV7 := Lib.hid V7
  have hlen := sqI_le n
  clear hO hb3 hb1 hb2 hc1 hf1 hz1 hc2 hf2 hz2 H R SQ HT hz hzb t0 t1 V7
  generalize w2.heap.size = bt at *
  have HREV := Lib.hid (fun i hi => rev_test n i hi)
  have hrl : revL n = (sqI n).map (fun x => 80 - x) := rfl
  have hrn : revN n = ofN (revL n) := rfl
  have HREVN := Lib.hid hrn.symm
  have HBG := Lib.hid (fun (g : Nat) (h : bt + 1 ≤ g) => (h : bt < g))
  have hin : ∀ x ∈ sqI n, 0 ≤ x ∧ x < 81 := by
    intro x hx
    unfold sqI at hx
    obtain ⟨i, hi, rfl⟩ := List.mem_map.1 hx
    have := ((mem_sqI n i).1 (List.mem_map.2 ⟨i, hi, rfl⟩)).1
    omega
  have HIN := Lib.hid hin
  clear hrn hin hrl
  obtain ⟨o, cap, rfl, hsl⟩ : ∃ o cap, v = .slice o (sqI n).length cap ∧ (∀ (j : Nat) (hj : j < (sqI n).length), ∃ g, o = some ⟨g, 0, none⟩ ∧ bt < g ∧ g < w3.heap.size ∧ w3.cell? ⟨g, 0 + j, none⟩ = some (.int .i64 (sqI n)[j])) := by
    rcases HO.out with ⟨rfl, hnil⟩ | ⟨g, cap, rfl, hg, hgl, hcells⟩
    · refine ⟨none, 0, by rw [hnil]; rfl, fun j hj => ?_⟩
      rw [hnil] at hj
      exact absurd hj (Nat.not_lt_zero _)
    · exact ⟨_, cap, rfl, fun j hj => ⟨g, rfl, HBG.out g hg, hgl, hcells j hj⟩⟩
  have HSL := Lib.hid hsl
  clear hsl HO HBG
  have hb3' := B3.out
  have t0 := T0.out
  have t1 := T1.out
  clear T0 T1
  go_wp2
  have hrun : Sem.run Tryd.prog (Builtin.len_ #[38] 3 #[.slice o (sqI n).length cap]) w3 = .ok (.int .i64 ((sqI n).length : Nat)) w3 := rfl
  rw [hrun]
  clear hrun
  go_wp2
  go_loopw [36] (fun i wd => ∃ j : Nat, j ≤ (sqI n).length ∧ i = .int .i64 j ∧ Below w.heap.size w wd ∧ Var wd bt (loW (ofN ((revL n).take j))) (hiW (ofN ((revL n).take j))) ∧ wd.cell? ⟨w.heap.size, 0, none⟩ = some (.int .u64 xn) ∧ wd.cell? ⟨w.heap.size, 1, none⟩ = some (.int .u64 yn) ∧ (∀ g p v, bt < g → g < w3.heap.size → w3.cell? ⟨g, p, none⟩ = some v → g < wd.heap.size ∧ wd.cell? ⟨g, p, none⟩ = some v)) (fun i _ => (sqI n).length - (intOf i).toNat)
  case atStart =>
    refine ⟨0, Nat.zero_le _, rfl, hb3', ?_, t0, t1, fun g p v _ h2 h3 => ⟨h2, h3⟩⟩
    rw [List.take_zero, show ofN [] = 0 from rfl, lo_zero, hi_zero]
    exact HV7.out
  case round =>
    rename World => wd
    obtain ⟨j, hj, rfl, hB, hV, t0, t1, hK⟩ := hrel
    have HB := Lib.hid hB
    have HV := Lib.hid hV
    have HKP := Lib.hid hK
    have hzm := hV.lt
    have hzt : w.heap.size < wd.heap.size := by omega
    clear hb3' hB hK
    by_cases hlt : j < (sqI n).length
    · obtain ⟨g, rfl, hg1, hg2, hg3⟩ := HSL.out j hlt
      obtain ⟨hg4, c1⟩ := HKP.out _ _ _ hg1 hg2 hg3
      have hgb : g ≠ bt := by omega
      have hrt : (revL n)[j]'(by simp [revL]; omega) = 80 - (sqI n)[j] := by simp [revL]
      have C := Lib.hid (fun W => with_any (ofN ((revL n).take j)) ((revL n)[j]'(by simp [revL]; omega)) (ofN_sq _) W)
      rw [← take_step (revL n) j (by simp [revL]; omega)] at C
      rw [hrt] at C
      obtain ⟨r0, r1⟩ := HIN.out _ (List.getElem_mem hlt)
      have l0 := hV.lo
      have l1 := hV.hi
      have l2 := hV.f0
      have l3 := hV.f1
      clear hV hg3 hrt
      generalize (sqI n)[j] = s at C c1 r0 r1
      obtain ⟨z, hzs⟩ : ∃ z, z = 80 - s := ⟨_, rfl⟩
      have W2 := Lib.hid (show wrap64 (80 - s) = z by rw [hzs]; unfold wrap64; omega)
      rw [← hzs] at C
      clear hzs
      generalize loW (ofN ((revL n).take j)) = x at C l0 HV
      generalize hiW (ofN ((revL n).take j)) = y at C l1 HV
      generalize hx : loW (ofN ((revL n).take (j + 1))) = x2 at C
      generalize hy : hiW (ofN ((revL n).take (j + 1))) = y2 at C
      have HX := Lib.hid hx
      have HY := Lib.hid hy
      clear hx hy HSL
      have HR01 := Lib.hid (And.intro r0 r1)
      clear r0 r1
      rw [Nat.zero_add] at c1
      go_wp2_with (first
        | (go_at_call 23; rw [W2.out]; refine (C.out _).mono ?_; rintro e w5 ⟨rfl, hb5⟩; obtain ⟨hc5, hf5⟩ := bcells hb5; have hz5 : wd.heap.size ≤ w5.heap.size := hb5.size))
      go_roundw
      case rel =>
        refine ⟨j + 1, by omega, by go_num, ?_, ?_, ?_, ?_, ?_⟩
        · exact ((HB.out.trans (hb5.mono HB.out.size)).setCell (by simp; omega) _).setCell (by simp; omega) _
        · rw [HX.out, HY.out]
          exact (HV.out.grow hb5).put _ _
        · go_simp
        · go_simp
        · intro g' p v h1 h2 h3
          obtain ⟨h4, h5⟩ := HKP.out g' p v h1 h2 h3
          have hne' : g' ≠ bt := by omega
          refine ⟨by simp; omega, ?_⟩
          go_simp
      case measure => simp [intOf]; omega
    · obtain rfl : j = (sqI n).length := by omega
      rw [List.take_of_length_le (by simp [revL]), HREVN.out] at hV
      have m0 := hV.lo
      have m1 := hV.hi
      clear hV HV HKP HSL HV7
      have OA := Lib.hid (fun W => rayOf_any (8 : Int) q n (by omega) (by omega) S0.out W)
      have OB := Lib.hid (fun W => rayOf_any ((24 : Int)) (80 - (q : Int)) (revN n) (by omega) (by omega) (ofN_sq _) W)
      have OC := Lib.hid (fun (i : Nat) W => rayOf_any (8 : Int) i n (by omega) (by omega) S0.out W)
      have HSA : Hid (∀ (i : Nat), i < 81 → ∀ W, Calls Tryd.prog 14 #[.agg #[.int .u64 (loW (rayN (8 : Int) q n)), .int .u64 (hiW (rayN (8 : Int) q n))], .int .i64 (i : Int)] W fun e w' => e = .returned (.bool ((rayN (8 : Int) q n).testBit i)) ∧ Below W.heap.size W w') := Lib.hid (fun i hi W => by
        have := has_any (rayN (8 : Int) q n) i (rayN_sq (8 : Int) q n) W
        rw [has_nat _ i hi] at this
        exact this)
      have HSB : Hid (∀ (i : Nat), i < 81 → ∀ W, Calls Tryd.prog 14 #[.agg #[.int .u64 (loW (rayN ((24 : Int)) (80 - (q : Int)) (revN n))), .int .u64 (hiW (rayN ((24 : Int)) (80 - (q : Int)) (revN n)))], .int .i64 (80 - (i : Int))] W fun e w' => e = .returned (.bool ((rayN (8 : Int) q n).testBit i)) ∧ Below W.heap.size W w') := Lib.hid (fun i hi W => by
        have := has_any (rayN ((24 : Int)) (80 - (q : Int)) (revN n)) ((80 - i : Nat) : Int) (rayN_sq _ _ _) W
        have rt : (rayN ((24 : Int)) (80 - (q : Int)) (revN n)).testBit (80 - i) = (rayN (8 : Int) q n).testBit i := ray_turn (8 : Int) hk q i hq hi n (revN n) (fun t ht => rev_test n t ht) (between_inside q i)
        rw [has_nat _ (80 - i) (by omega), rt, show ((80 - i : Nat) : Int) = 80 - (i : Int) by omega] at this
        exact this)
      have HSC : Hid (∀ (i : Nat), i < 81 → ((8 : Int) = 6 ∨ (8 : Int) = 7 ∨ (8 : Int) = 8 ∨ (8 : Int) = 14 ∨ (8 : Int) = 15) → (rayN (8 : Int) q n).testBit i = true → ∀ W, Calls Tryd.prog 14 #[.agg #[.int .u64 (loW (rayN (8 : Int) i n)), .int .u64 (hiW (rayN (8 : Int) i n))], .int .i64 (q : Int)] W fun e w' => e = .returned (.bool true) ∧ Below W.heap.size W w') := Lib.hid (fun i hi hk' hb W => by
        have := has_any (rayN (8 : Int) i n) q (rayN_sq _ _ _) W
        rw [has_nat _ q hq, ray_back (8 : Int) hk' q i hq hi n hb] at this
        exact this)
      rw [HXN.out, HYN.out] at OA OC
      generalize rayN (8 : Int) q n = ma at OA HSA HSB HSC
      generalize loW ma = xa at OA HSA
      generalize hiW ma = ya at OA HSA
      generalize loW (rayN ((24 : Int)) (80 - (q : Int)) (revN n)) = xb at OB HSB
      generalize hiW (rayN ((24 : Int)) (80 - (q : Int)) (revN n)) = yb at OB HSB
      generalize loW (revN n) = xm at OB m0
      generalize hiW (revN n) = ym at OB m1
      have W8 := Lib.hid (show IntKind.i8.wrap (8 : Int) = (8 : Int) from wrap_i8_eq _ (by omega) (by omega))
      have W16 := Lib.hid (show IntKind.i8.wrap ((24 : Int)) = (24 : Int) from wrap_i8_eq _ (by omega) (by omega))
      have WK := Lib.hid (show IntKind.i64.wrap ((24 : Int)) = (24 : Int) by rw [IntKind.wrap_i64]; omega)
      have WK2 := Lib.hid (show wrap64 ((24 : Int)) = (24 : Int) by unfold wrap64; omega)
      have WQ := Lib.hid (show IntKind.i64.wrap (80 - (q : Int)) = 80 - (q : Int) by rw [IntKind.wrap_i64]; omega)
      have WQ2 := Lib.hid (show wrap64 (80 - (q : Int)) = 80 - (q : Int) by unfold wrap64; omega)
      obtain ⟨NN, nn0, nn1⟩ : ∃ NN : Nat → Array Value, NN 0 = #[.int .u64 xa, .int .u64 ya] ∧ NN 1 = #[.int .u64 xb, .int .u64 yb] := ⟨fun j => if j = 0 then _ else _, rfl, rfl⟩
      go_wp2_with fail
      refine wp_region_any (by kernel_rfl) ?_
      change wpAny _ _ _ _ _ _ _ (World.drew _)
      refine wpAny_inv3 (fun a0 => a0.eval (.tmp 0) = .int .i64 (8 : Int) ∧ a0.eval (.tmp 1) = .int .i64 (q : Int) ∧ a0.eval (.tmp 5) = .pointer (some ⟨w.heap.size, 0, none⟩) ∧ a0.eval (.tmp 7) = .pointer (some ⟨bt, 0, none⟩) ∧ 80 < a0.tmps.size) ⟨rfl, rfl, rfl, rfl, of_decide_eq_true rfl⟩
        (fun a0 ls a w' => ls.size = 16 ∧ Below wd.heap.size wd w' ∧ ∃ g : Nat → Nat, Blgs 24 #[.int .u64 0, .int .u64 0] wd w' NN ls 12 14 2 g ∧ a = cput (ls.getD 13 false) 11 (.pointer (some ⟨g 1, 0, none⟩)) (cput (ls.getD 12 false) 10 (.pointer (some ⟨g 0, 0, none⟩)) (cput (ls.getD 11 false) 56 (.agg #[.int .u64 xb, .int .u64 yb]) (cput (ls.getD 10 false) 55 (.agg #[.int .u64 xm, .int .u64 ym]) (cput (ls.getD 9 false) 54 (.int .i64 (80 - (q : Int))) (cput (ls.getD 8 false) 53 (.int .i64 (q : Int)) (cput (ls.getD 7 false) 52 (.int .i8 ((24 : Int))) (cput (ls.getD 6 false) 51 (.int .i64 ((24 : Int))) (cput (ls.getD 5 false) 50 (.int .i64 (8 : Int)) (cput (ls.getD 4 false) 49 (.agg #[.int .u64 xa, .int .u64 ya]) (cput (ls.getD 3 false) 48 (.agg #[.int .u64 xn, .int .u64 yn]) (cput (ls.getD 2 false) 47 (.int .i64 (q : Int)) (cput (ls.getD 1 false) 46 (.int .i8 (8 : Int)) (cput (ls.getD 0 false) 45 (.int .i64 (8 : Int)) (a0))))))))))))))) ?step ?fin ?start (by decide)
      case start => exact ⟨rfl, (bref wd).drew, fun _ => 0, ⟨fun j hj h => absurd h (by (obtain rfl | rfl : j = 0 ∨ j = 1 := by omega) <;> decide), fun i j hi hj _ h => absurd h (by (obtain rfl | rfl : i = 0 ∨ i = 1 := by omega) <;> decide), fun j hj h => absurd h (by (obtain rfl | rfl : j = 0 ∨ j = 1 := by omega) <;> decide)⟩, rfl⟩
      case step =>
        rintro a0 ⟨e0, e1, e5, e7, esz⟩ ls a w' ⟨hl, hb, g, hK, ha⟩ i o ho hu hw
        have hu' := undone hu
        rcases i with _ | _ | _ | _ | _ | _ | _ | _ | _ | _ | _ | _ | _ | _ | _ | _ | i
        · have ho' : some _ = some o := ho
          cases ho'
          have E0 : a.eval (.tmp 0) = .int .i64 (8 : Int) := by rw [ha]; simp [eval_cput_ne, e0]
          refine wpOp_step ho (fun K hK' => ?_)
          rw [if_pos (by rfl)]
          refine wp_valueK (w' := w') (.int .i64 (8 : Int)) ?_ (hK' _ _ ⟨by simp [hl], hb, g, hK.other (bref w') 0 (by omega) (fun j hj => by omega) (fun j hj => by omega), by rw [ha]; simp [cput_put, getF, hl, hu', cput_at]⟩)
          exact congrArg (fun v => Result.ok (Next.value v) w') E0
        · have ho' : some _ = some o := ho
          cases ho'
          have d45 : ls.getD 0 false = true := hw ⟨0, .data⟩ (by simp) rfl
          have z45 : 45 < a0.tmps.size := by omega
          have E45 : a.eval (.tmp 45) = .int .i64 (8 : Int) := by rw [ha]; simp [eval_cput_ne, d45, eval_cput_at, size_cput, z45]
          refine wpOp_step ho (fun K hK' => ?_)
          rw [if_pos (by rfl)]
          refine wp_valueK (w' := w') (.int .i8 (8 : Int)) ?_ (hK' _ _ ⟨by simp [hl], hb, g, hK.other (bref w') 1 (by omega) (fun j hj => by omega) (fun j hj => by omega), by rw [ha]; simp [cput_put, getF, hl, hu', cput_at]⟩)
          clear ha
          have w1 : IntKind.i8.wrap (8 : Int) = (8 : Int) := W8.out
          have EE : a.tmps[45]?.getD undef = .int .i64 (8 : Int) := by first | exact E45 | simpa [Act.eval] using E45
          go_simp
          all_goals first | (rw [EE]; go_simp; done) | decide | rfl
        · have ho' : some _ = some o := ho
          cases ho'
          have E1 : a.eval (.tmp 1) = .int .i64 (q : Int) := by rw [ha]; simp [eval_cput_ne, e1]
          refine wpOp_step ho (fun K hK' => ?_)
          rw [if_pos (by rfl)]
          refine wp_valueK (w' := w') (.int .i64 (q : Int)) ?_ (hK' _ _ ⟨by simp [hl], hb, g, hK.other (bref w') 2 (by omega) (fun j hj => by omega) (fun j hj => by omega), by rw [ha]; simp [cput_put, getF, hl, hu', cput_at]⟩)
          exact congrArg (fun v => Result.ok (Next.value v) w') E1
        · have ho' : some _ = some o := ho
          cases ho'
          have E5 : a.eval (.tmp 5) = .pointer (some ⟨w.heap.size, 0, none⟩) := by rw [ha]; simp [eval_cput_ne, e5]
          refine wpOp_step ho (fun K hK' => ?_)
          rw [if_pos (by rfl)]
          refine wp_load_mid _ _ rfl (w.heap.size) 0 E5 [.int .u64 xn, .int .u64 yn] _ (range2 ((hb.cell (p := ⟨w.heap.size, 0, none⟩) hzt).trans t0) ((hb.cell (p := ⟨w.heap.size, 1, none⟩) hzt).trans t1)) Tryd.underlying24 rfl infoSet2 ?_
          exact hK' _ _ ⟨by simp [hl], hb, g, hK.other (bref w') 3 (by omega) (fun j hj => by omega) (fun j hj => by omega), by rw [ha]; simp [cput_put, getF, hl, hu', cput_at]⟩
        · have ho' : some _ = some o := ho
          cases ho'
          have d46 : ls.getD 1 false = true := hw ⟨1, .data⟩ (by simp) rfl
          have z46 : 46 < a0.tmps.size := by omega
          have E46 : a.eval (.tmp 46) = .int .i8 (8 : Int) := by rw [ha]; simp [eval_cput_ne, d46, eval_cput_at, size_cput, z46]
          have d47 : ls.getD 2 false = true := hw ⟨2, .data⟩ (by simp) rfl
          have z47 : 47 < a0.tmps.size := by omega
          have E47 : a.eval (.tmp 47) = .int .i64 (q : Int) := by rw [ha]; simp [eval_cput_ne, d47, eval_cput_at, size_cput, z47]
          have d48 : ls.getD 3 false = true := hw ⟨3, .data⟩ (by simp) rfl
          have z48 : 48 < a0.tmps.size := by omega
          have E48 : a.eval (.tmp 48) = .agg #[.int .u64 xn, .int .u64 yn] := by rw [ha]; simp [eval_cput_ne, d48, eval_cput_at, size_cput, z48]
          refine wpOp_step ho (fun K hK' => ?_)
          rw [if_pos (by rfl)]
          refine wp_callK 24 #[a.eval (.tmp 46), a.eval (.tmp 47), a.eval (.tmp 48)] ?_ ?_
          · clear ha E46 E47 E48
            go_simp
          · rw [E46, E47, E48]
            refine (OA.out _).mono ?_
            rintro e w2 ⟨rfl, hb2⟩
            exact ⟨_, rfl, hK' _ _ ⟨by simp [hl], bthen hb hb2, g, hK.other hb2 4 (by omega) (fun j hj => by omega) (fun j hj => by omega), by rw [ha]; simp [cput_put, getF, hl, hu', cput_at]⟩⟩
        · have ho' : some _ = some o := ho
          cases ho'
          have E0 : a.eval (.tmp 0) = .int .i64 (8 : Int) := by rw [ha]; simp [eval_cput_ne, e0]
          refine wpOp_step ho (fun K hK' => ?_)
          rw [if_pos (by rfl)]
          refine wp_valueK (w' := w') (.int .i64 (8 : Int)) ?_ (hK' _ _ ⟨by simp [hl], hb, g, hK.other (bref w') 5 (by omega) (fun j hj => by omega) (fun j hj => by omega), by rw [ha]; simp [cput_put, getF, hl, hu', cput_at]⟩)
          exact congrArg (fun v => Result.ok (Next.value v) w') E0
        · have ho' : some _ = some o := ho
          cases ho'
          have d50 : ls.getD 5 false = true := hw ⟨5, .data⟩ (by simp) rfl
          have z50 : 50 < a0.tmps.size := by omega
          have E50 : a.eval (.tmp 50) = .int .i64 (8 : Int) := by rw [ha]; simp [eval_cput_ne, d50, eval_cput_at, size_cput, z50]
          refine wpOp_step ho (fun K hK' => ?_)
          rw [if_pos (by rfl)]
          refine wp_valueK (w' := w') (.int .i64 ((24 : Int))) ?_ (hK' _ _ ⟨by simp [hl], hb, g, hK.other (bref w') 6 (by omega) (fun j hj => by omega) (fun j hj => by omega), by rw [ha]; simp [cput_put, getF, hl, hu', cput_at]⟩)
          clear ha
          have w1 : IntKind.i64.wrap ((24 : Int)) = (24 : Int) := WK.out
          have w2 : wrap64 ((24 : Int)) = (24 : Int) := WK2.out
          have EE : a.tmps[50]?.getD undef = .int .i64 (8 : Int) := by first | exact E50 | simpa [Act.eval] using E50
          go_simp
          all_goals first | (rw [EE]; go_simp; done) | decide | rfl
        · have ho' : some _ = some o := ho
          cases ho'
          have d51 : ls.getD 6 false = true := hw ⟨6, .data⟩ (by simp) rfl
          have z51 : 51 < a0.tmps.size := by omega
          have E51 : a.eval (.tmp 51) = .int .i64 ((24 : Int)) := by rw [ha]; simp [eval_cput_ne, d51, eval_cput_at, size_cput, z51]
          refine wpOp_step ho (fun K hK' => ?_)
          rw [if_pos (by rfl)]
          refine wp_valueK (w' := w') (.int .i8 ((24 : Int))) ?_ (hK' _ _ ⟨by simp [hl], hb, g, hK.other (bref w') 7 (by omega) (fun j hj => by omega) (fun j hj => by omega), by rw [ha]; simp [cput_put, getF, hl, hu', cput_at]⟩)
          clear ha
          have w1 : IntKind.i8.wrap ((24 : Int)) = (24 : Int) := W16.out
          have EE : a.tmps[51]?.getD undef = .int .i64 ((24 : Int)) := by first | exact E51 | simpa [Act.eval] using E51
          go_simp
          all_goals first | (rw [EE]; go_simp; done) | decide | rfl
        · have ho' : some _ = some o := ho
          cases ho'
          have E1 : a.eval (.tmp 1) = .int .i64 (q : Int) := by rw [ha]; simp [eval_cput_ne, e1]
          refine wpOp_step ho (fun K hK' => ?_)
          rw [if_pos (by rfl)]
          refine wp_valueK (w' := w') (.int .i64 (q : Int)) ?_ (hK' _ _ ⟨by simp [hl], hb, g, hK.other (bref w') 8 (by omega) (fun j hj => by omega) (fun j hj => by omega), by rw [ha]; simp [cput_put, getF, hl, hu', cput_at]⟩)
          exact congrArg (fun v => Result.ok (Next.value v) w') E1
        · have ho' : some _ = some o := ho
          cases ho'
          have d53 : ls.getD 8 false = true := hw ⟨8, .data⟩ (by simp) rfl
          have z53 : 53 < a0.tmps.size := by omega
          have E53 : a.eval (.tmp 53) = .int .i64 (q : Int) := by rw [ha]; simp [eval_cput_ne, d53, eval_cput_at, size_cput, z53]
          refine wpOp_step ho (fun K hK' => ?_)
          rw [if_pos (by rfl)]
          refine wp_valueK (w' := w') (.int .i64 (80 - (q : Int))) ?_ (hK' _ _ ⟨by simp [hl], hb, g, hK.other (bref w') 9 (by omega) (fun j hj => by omega) (fun j hj => by omega), by rw [ha]; simp [cput_put, getF, hl, hu', cput_at]⟩)
          clear ha
          have w1 : IntKind.i64.wrap (80 - (q : Int)) = 80 - (q : Int) := WQ.out
          have w2 : wrap64 (80 - (q : Int)) = 80 - (q : Int) := WQ2.out
          have EE : a.tmps[53]?.getD undef = .int .i64 (q : Int) := by first | exact E53 | simpa [Act.eval] using E53
          go_simp
          all_goals first | (rw [EE]; go_simp; done) | decide | rfl
        · have ho' : some _ = some o := ho
          cases ho'
          have E7 : a.eval (.tmp 7) = .pointer (some ⟨bt, 0, none⟩) := by rw [ha]; simp [eval_cput_ne, e7]
          refine wpOp_step ho (fun K hK' => ?_)
          rw [if_pos (by rfl)]
          refine wp_load_mid _ _ rfl (bt) 0 E7 [.int .u64 xm, .int .u64 ym] _ (range2 ((hb.cell (p := ⟨bt, 0, none⟩) hzm).trans m0) ((hb.cell (p := ⟨bt, 1, none⟩) hzm).trans m1)) Tryd.underlying24 rfl infoSet2 ?_
          exact hK' _ _ ⟨by simp [hl], hb, g, hK.other (bref w') 10 (by omega) (fun j hj => by omega) (fun j hj => by omega), by rw [ha]; simp [cput_put, getF, hl, hu', cput_at]⟩
        · have ho' : some _ = some o := ho
          cases ho'
          have d52 : ls.getD 7 false = true := hw ⟨7, .data⟩ (by simp) rfl
          have z52 : 52 < a0.tmps.size := by omega
          have E52 : a.eval (.tmp 52) = .int .i8 ((24 : Int)) := by rw [ha]; simp [eval_cput_ne, d52, eval_cput_at, size_cput, z52]
          have d54 : ls.getD 9 false = true := hw ⟨9, .data⟩ (by simp) rfl
          have z54 : 54 < a0.tmps.size := by omega
          have E54 : a.eval (.tmp 54) = .int .i64 (80 - (q : Int)) := by rw [ha]; simp [eval_cput_ne, d54, eval_cput_at, size_cput, z54]
          have d55 : ls.getD 10 false = true := hw ⟨10, .data⟩ (by simp) rfl
          have z55 : 55 < a0.tmps.size := by omega
          have E55 : a.eval (.tmp 55) = .agg #[.int .u64 xm, .int .u64 ym] := by rw [ha]; simp [eval_cput_ne, d55, eval_cput_at, size_cput, z55]
          refine wpOp_step ho (fun K hK' => ?_)
          rw [if_pos (by rfl)]
          refine wp_callK 24 #[a.eval (.tmp 52), a.eval (.tmp 54), a.eval (.tmp 55)] ?_ ?_
          · clear ha E52 E54 E55
            go_simp
          · rw [E52, E54, E55]
            refine (OB.out _).mono ?_
            rintro e w2 ⟨rfl, hb2⟩
            exact ⟨_, rfl, hK' _ _ ⟨by simp [hl], bthen hb hb2, g, hK.other hb2 11 (by omega) (fun j hj => by omega) (fun j hj => by omega), by rw [ha]; simp [cput_put, getF, hl, hu', cput_at]⟩⟩
        · have ho' : some _ = some o := ho
          cases ho'
          refine wpOp_step ho (fun K hK' => ?_)
          rw [if_pos (by rfl)]
          refine wp_valueK (w' := w'.alloc (.cells #[.int .u64 0, .int .u64 0] 24)) (.pointer (some ⟨w'.heap.size, 0, none⟩)) ?_ ?_
          · have hz := zero_set
            clear ha
            go_simp
          · exact hK' _ _ ⟨by simp [hl], ball hb _, _, hK.laid hb 0 (by omega) (by omega) hu' (by omega), by rw [ha]; simp [cput_put, getF, hl, hu', cput_at]⟩
        · have ho' : some _ = some o := ho
          cases ho'
          refine wpOp_step ho (fun K hK' => ?_)
          rw [if_pos (by rfl)]
          refine wp_valueK (w' := w'.alloc (.cells #[.int .u64 0, .int .u64 0] 24)) (.pointer (some ⟨w'.heap.size, 0, none⟩)) ?_ ?_
          · have hz := zero_set
            clear ha
            go_simp
          · exact hK' _ _ ⟨by simp [hl], ball hb _, _, hK.laid hb 1 (by omega) (by omega) hu' (by omega), by rw [ha]; simp [cput_put, getF, hl, hu', cput_at]⟩
        · have ho' : some _ = some o := ho
          cases ho'
          have d10 : ls.getD 12 false = true := hw ⟨12, .data⟩ (by simp) rfl
          have z10 : 10 < a0.tmps.size := by omega
          have E10 : a.eval (.tmp 10) = .pointer (some ⟨g 0, 0, none⟩) := by rw [ha]; simp [eval_cput_ne, d10, eval_cput_at, size_cput, z10]
          have d49 : ls.getD 4 false = true := hw ⟨4, .data⟩ (by simp) rfl
          have z49 : 49 < a0.tmps.size := by omega
          have E49 : a.eval (.tmp 49) = .agg #[.int .u64 xa, .int .u64 ya] := by rw [ha]; simp [eval_cput_ne, d49, eval_cput_at, size_cput, z49]
          refine wpOp_step ho (fun K hK' => ?_)
          rw [if_pos (by rfl)]
          have hB := hK.blk 0 (by omega) d10
          rw [show ls.getD (14 + 0) false = false from hu', if_neg (by decide)] at hB
          have gg : ∀ j, j ≠ 14 → (ls.setIfInBounds 14 true).getD j false = ls.getD j false := fun j hj => (getF (by omega : 14 < ls.size)).trans (if_neg (Ne.symm hj))
          have hF := hK.filled 0 (by omega) (by omega) d10 (by omega)
          rw [nn0] at hF
          refine wp_store_row 24 _ _ rfl (g 0) (#[.int .u64 xa, .int .u64 ya]) E10 E49 24 #[.int .u64 0, .int .u64 0] hB.row infoSet2 rfl (by simp [Value.oneCell']) ?_
          refine hK' _ _ ⟨by simp [hl], below_setRow hb hB.le _, g, hF, ?_⟩
          rw [gg 13 (by decide), gg 12 (by decide), gg 11 (by decide), gg 10 (by decide), gg 9 (by decide), gg 8 (by decide), gg 7 (by decide), gg 6 (by decide), gg 5 (by decide), gg 4 (by decide), gg 3 (by decide), gg 2 (by decide), gg 1 (by decide), gg 0 (by decide), ha]
          rfl
        · have ho' : some _ = some o := ho
          cases ho'
          have d11 : ls.getD 13 false = true := hw ⟨13, .data⟩ (by simp) rfl
          have z11 : 11 < a0.tmps.size := by omega
          have E11 : a.eval (.tmp 11) = .pointer (some ⟨g 1, 0, none⟩) := by rw [ha]; simp [eval_cput_ne, d11, eval_cput_at, size_cput, z11]
          have d56 : ls.getD 11 false = true := hw ⟨11, .data⟩ (by simp) rfl
          have z56 : 56 < a0.tmps.size := by omega
          have E56 : a.eval (.tmp 56) = .agg #[.int .u64 xb, .int .u64 yb] := by rw [ha]; simp [eval_cput_ne, d56, eval_cput_at, size_cput, z56]
          refine wpOp_step ho (fun K hK' => ?_)
          rw [if_pos (by rfl)]
          have hB := hK.blk 1 (by omega) d11
          rw [show ls.getD (14 + 1) false = false from hu', if_neg (by decide)] at hB
          have gg : ∀ j, j ≠ 15 → (ls.setIfInBounds 15 true).getD j false = ls.getD j false := fun j hj => (getF (by omega : 15 < ls.size)).trans (if_neg (Ne.symm hj))
          have hF := hK.filled 1 (by omega) (by omega) d11 (by omega)
          rw [nn1] at hF
          refine wp_store_row 24 _ _ rfl (g 1) (#[.int .u64 xb, .int .u64 yb]) E11 E56 24 #[.int .u64 0, .int .u64 0] hB.row infoSet2 rfl (by simp [Value.oneCell']) ?_
          refine hK' _ _ ⟨by simp [hl], below_setRow hb hB.le _, g, hF, ?_⟩
          rw [gg 13 (by decide), gg 12 (by decide), gg 11 (by decide), gg 10 (by decide), gg 9 (by decide), gg 8 (by decide), gg 7 (by decide), gg 6 (by decide), gg 5 (by decide), gg 4 (by decide), gg 3 (by decide), gg 2 (by decide), gg 1 (by decide), gg 0 (by decide), ha]
          rfl
        · cases ho
      case fin =>
        rintro ls a w' ⟨hl, hb, g, hK, ha⟩ hr
        have d : ∀ i, i < 16 → ls.getD i false = true := all_doneB hr (by kernel_rfl) (by rw [hl]; rfl)
        have K0 := hK.blk 0 (by omega) (d 12 (by decide))
        rw [show ls.getD (14 + 0) false = true from d 14 (by decide), if_pos rfl, nn0] at K0
        have K1 := hK.blk 1 (by omega) (d 13 (by decide))
        rw [show ls.getD (14 + 1) false = true from d 15 (by decide), if_pos rfl, nn1] at K1
        rw [d 13 (by decide), d 12 (by decide), d 11 (by decide), d 10 (by decide), d 9 (by decide), d 8 (by decide), d 7 (by decide), d 6 (by decide), d 5 (by decide), d 4 (by decide), d 3 (by decide), d 2 (by decide), d 1 (by decide), d 0 (by decide)] at ha
        subst ha
        simp only [cput, if_true, Act.put, List.setIfInBounds_toArray, List.set_cons_zero, List.set_cons_succ]
        clear d hr hl hK
        have za := K0.lt
        have zb := K1.lt
        have ra := K0.row
        have rb := K1.row
        generalize g 0 = pa at *
        generalize g 1 = pb at *
        have a0 : w'.cell? ⟨pa, 0, none⟩ = some (.int .u64 xa) := row_cell0 ra
        have a1 : w'.cell? ⟨pa, 1, none⟩ = some (.int .u64 ya) := row_cell1 ra
        have b0 : w'.cell? ⟨pb, 0, none⟩ = some (.int .u64 xb) := row_cell0 rb
        have b1 : w'.cell? ⟨pb, 1, none⟩ = some (.int .u64 yb) := row_cell1 rb
        have t0' : w'.cell? ⟨w.heap.size, 0, none⟩ = some (.int .u64 xn) := (hb.cell (p := ⟨w.heap.size, 0, none⟩) hzt).trans t0
        have t1' : w'.cell? ⟨w.heap.size, 1, none⟩ = some (.int .u64 yn) := (hb.cell (p := ⟨w.heap.size, 1, none⟩) hzt).trans t1
        have zt : w.heap.size < w'.heap.size := Nat.lt_of_lt_of_le hzt hb.size
        have HBW := Lib.hid (bthen HB.out hb)
        clear K0 K1 ra rb t0 t1 m0 m1 hb HB nn0 nn1 OA OB hzm hzt
        go_wp2_with fail
        go_loopw [12] (fun i wr => ∃ m : Nat, m ≤ 81 ∧ i = .int .i64 m ∧ Below w'.heap.size w' wr) (fun i _ => 81 - (intOf i).toNat)
        case atStart => exact ⟨0, Nat.zero_le _, rfl, bref _⟩
        case round =>
          obtain ⟨i, hi, rfl, hW⟩ := hrel
          have A0 := (hW.cell (p := ⟨pa, 0, none⟩) za).trans a0
          have A1 := (hW.cell (p := ⟨pa, 1, none⟩) za).trans a1
          have B0 := (hW.cell (p := ⟨pb, 0, none⟩) zb).trans b0
          have B1 := (hW.cell (p := ⟨pb, 1, none⟩) zb).trans b1
          have T0 := (hW.cell (p := ⟨w.heap.size, 0, none⟩) zt).trans t0'
          have T1 := (hW.cell (p := ⟨w.heap.size, 1, none⟩) zt).trans t1'
          have za' := Nat.lt_of_lt_of_le za hW.size
          have zb' := Nat.lt_of_lt_of_le zb hW.size
          have zt' := Nat.lt_of_lt_of_le zt hW.size
          clear a0 a1 b0 b1 t0' t1' za zb zt
          have HW := Lib.hid hW
          clear hW
          have a0 := A0
          have a1 := A1
          have b0 := B0
          have b1 := B1
          have za := za'
          have zb := zb'
          clear A0 A1 B0 B1 za' zb'
          by_cases hlt : i < 81
          · have HA := Lib.hid (fun W => HSA.out i hlt W)
            have HBb := Lib.hid (fun W => HSB.out i hlt W)
            have HC := Lib.hid (fun h1 h2 W => HSC.out i hlt h1 h2 W)
            have OCi := Lib.hid (fun W => OC.out i W)
            generalize loW (rayN (8 : Int) i n) = xc at HC OCi
            generalize hiW (rayN (8 : Int) i n) = yc at HC OCi
            generalize ma.testBit i = bit at HA HBb HC
            have WT := Lib.hid (show IntKind.i64.wrap (80 - (i : Int)) = 80 - (i : Int) by rw [IntKind.wrap_i64]; omega)
            clear HSA HSB HSC OC
            go_wp2_with fail
            refine wp_region_held_drew (S := fun w' => Below wr.heap.size wr w' ∧ pa < w'.heap.size ∧ pb < w'.heap.size ∧ w'.cell? ⟨pa, 0, none⟩ = some (.int .u64 xa) ∧ w'.cell? ⟨pa, 1, none⟩ = some (.int .u64 ya) ∧ w'.cell? ⟨pb, 0, none⟩ = some (.int .u64 xb) ∧ w'.cell? ⟨pb, 1, none⟩ = some (.int .u64 yb)) (by kernel_rfl) ?_ (fun hHeld => ?_)
            · exact ⟨(bref wr).drew, za, zb, a0, a1, b0, b1⟩
            refine wpAnyH_take (i := 0) (v := ?v13) rfl (by kernel_rfl) (by kernel_rfl) (by kernel_rfl) (fun _ _ _ h => h) (Or.inl ⟨by rfl, ?y13⟩) (by assumption) ?r13
            case y13 => (intro w hSw; (go_simp <;> first | with_reducible rfl | (rw [if_pos (by omega)] <;> with_reducible rfl)))
            try simp only [Act.put, List.getElem_toArray, List.getElem_cons_zero, List.getElem_cons_succ, List.setIfInBounds_toArray, List.set_cons_zero, List.set_cons_succ]
            refine wpAnyH_take (i := 1) (v := ?v14) rfl (by kernel_rfl) (by kernel_rfl) (by kernel_rfl) (fun _ _ _ h => h) (Or.inl ⟨by rfl, ?y14⟩) (by assumption) ?r14
            case y14 => (intro w hSw; (go_simp <;> first | with_reducible rfl | (rw [if_pos (by omega)] <;> with_reducible rfl)))
            try simp only [Act.put, List.getElem_toArray, List.getElem_cons_zero, List.getElem_cons_succ, List.setIfInBounds_toArray, List.set_cons_zero, List.set_cons_succ]
            refine wpAnyH_take (i := 3) (v := ?v15) rfl (by kernel_rfl) (by kernel_rfl) (by kernel_rfl) (fun _ _ _ h => h) (Or.inl ⟨by rfl, ?y15⟩) (by assumption) ?r15
            case y15 => (intro w hSw; (go_simp <;> first | with_reducible rfl | (rw [if_pos (by omega)] <;> with_reducible rfl)))
            try simp only [Act.put, List.getElem_toArray, List.getElem_cons_zero, List.getElem_cons_succ, List.setIfInBounds_toArray, List.set_cons_zero, List.set_cons_succ]
            refine wpAnyH_take (i := 4) (v := ?v16) rfl (by kernel_rfl) (by kernel_rfl) (by kernel_rfl) (fun _ _ _ h => h) (Or.inl ⟨by rfl, ?y16⟩) (by assumption) ?r16
            case y16 => (intro w hSw; (go_simp <;> first | with_reducible rfl | (rw [if_pos (by omega)] <;> with_reducible rfl)))
            try simp only [Act.put, List.getElem_toArray, List.getElem_cons_zero, List.getElem_cons_succ, List.setIfInBounds_toArray, List.set_cons_zero, List.set_cons_succ]
            refine wpAnyH_take (i := 5) (v := ?v17) rfl (by kernel_rfl) (by kernel_rfl) (by kernel_rfl) (fun _ _ _ h => h) (Or.inl ⟨by rfl, ?y17⟩) (by assumption) ?r17
            case y17 => (intro w hSw; (go_simp <;> first | with_reducible rfl | (rw [if_pos (by omega)] <;> with_reducible rfl)))
            try simp only [Act.put, List.getElem_toArray, List.getElem_cons_zero, List.getElem_cons_succ, List.setIfInBounds_toArray, List.set_cons_zero, List.set_cons_succ]
            refine wpAnyH_ready (rs := [2]) (by kernel_rfl) (by simp) ?_
            refine AllReadyH.cons rfl (fun K hK => ?_) AllReadyH.nil
            rw [if_pos (by rfl)]
            go_simp
            go_at_call 14
            refine (HA.out _).mono ?_
            rintro e wn ⟨rfl, hb⟩
            refine hK.out _ _ (⟨bthen hHeld.1 hb, Nat.lt_of_lt_of_le hHeld.2.1 hb.size, Nat.lt_of_lt_of_le hHeld.2.2.1 hb.size, (hb.cell (p := ⟨pa, 0, none⟩) hHeld.2.1).trans hHeld.2.2.2.1, (hb.cell (p := ⟨pa, 1, none⟩) hHeld.2.1).trans hHeld.2.2.2.2.1, (hb.cell (p := ⟨pb, 0, none⟩) hHeld.2.2.1).trans hHeld.2.2.2.2.2.1, (hb.cell (p := ⟨pb, 1, none⟩) hHeld.2.2.1).trans hHeld.2.2.2.2.2.2⟩) (fun hHeld => ?_)
            clear hK K
            try simp only [Act.put, List.getElem_toArray, List.getElem_cons_zero, List.getElem_cons_succ, List.setIfInBounds_toArray, List.set_cons_zero, List.set_cons_succ]
            refine wpAnyH_ready (rs := [6]) (by kernel_rfl) (by simp) ?_
            refine AllReadyH.cons rfl (fun K hK => ?_) AllReadyH.nil
            rw [if_pos (by rfl)]
            go_simp
            go_at_call 14
            rw [WT.out]
            refine (HBb.out _).mono ?_
            rintro e wn ⟨rfl, hb⟩
            refine hK.out _ _ (⟨bthen hHeld.1 hb, Nat.lt_of_lt_of_le hHeld.2.1 hb.size, Nat.lt_of_lt_of_le hHeld.2.2.1 hb.size, (hb.cell (p := ⟨pa, 0, none⟩) hHeld.2.1).trans hHeld.2.2.2.1, (hb.cell (p := ⟨pa, 1, none⟩) hHeld.2.1).trans hHeld.2.2.2.2.1, (hb.cell (p := ⟨pb, 0, none⟩) hHeld.2.2.1).trans hHeld.2.2.2.2.2.1, (hb.cell (p := ⟨pb, 1, none⟩) hHeld.2.2.1).trans hHeld.2.2.2.2.2.2⟩) (fun hHeld => ?_)
            clear hK K
            try simp only [Act.put, List.getElem_toArray, List.getElem_cons_zero, List.getElem_cons_succ, List.setIfInBounds_toArray, List.set_cons_zero, List.set_cons_succ]
            refine wpAnyH_take (i := 7) (v := ?v18) rfl (by kernel_rfl) (by kernel_rfl) (by kernel_rfl) (fun _ _ _ h => h) (Or.inl ⟨by rfl, ?y18⟩) (by assumption) ?r18
            case y18 => (intro w hSw; (go_simp <;> first | with_reducible rfl | (rw [if_pos (by omega)] <;> with_reducible rfl)))
            try simp only [Act.put, List.getElem_toArray, List.getElem_cons_zero, List.getElem_cons_succ, List.setIfInBounds_toArray, List.set_cons_zero, List.set_cons_succ]
            refine wpAnyH_done (by kernel_rfl) ?_ _
            obtain ⟨hX, za, zb, a0, a1, b0, b1⟩ := hHeld
            have T0' := (hX.cell (p := ⟨w.heap.size, 0, none⟩) zt').trans T0
            have T1' := (hX.cell (p := ⟨w.heap.size, 1, none⟩) zt').trans T1
            have zt2 := Nat.lt_of_lt_of_le zt' hX.size
            clear T0 T1 zt'
            have HX := Lib.hid (bthen HW.out hX)
            clear hX HW
            cases bit
            · go_wp2_with (first
                | (go_at_call 14; refine (HA.out _).mono ?_; rintro e w5 ⟨rfl, hb5⟩))
              go_roundw
              case rel => exact ⟨i + 1, by omega, by go_num, bthen HX.out hb5⟩
              case measure => simp [intOf]; omega
            · have HC' := Lib.hid (fun W => HC.out (by simp) rfl W)
              clear HC
              go_wp2_with (first
                | (go_at_call_of 14 (Value.int .u64 xa); refine (HA.out _).mono ?_; rintro e w5 ⟨rfl, hb5⟩; have T0 := (hb5.cell (p := ⟨w.heap.size, 0, none⟩) zt2).trans T0'; have T1 := (hb5.cell (p := ⟨w.heap.size, 1, none⟩) zt2).trans T1'; clear T0' T1')
                | (go_at_call 24; refine (OCi.out _).mono ?_; rintro e w6 ⟨rfl, hb6⟩)
                | (go_at_call_of 14 (Value.int .u64 xc); refine (HC'.out _).mono ?_; rintro e w7 ⟨rfl, hb7⟩))
              go_roundw
              case rel => exact ⟨i + 1, by omega, by go_num, bthen (bthen (bthen HX.out hb5) hb6) hb7⟩
              case measure => simp [intOf]; omega
          · obtain rfl : i = 81 := Nat.le_antisymm hi (Nat.not_lt.1 hlt)
            go_wp2
            go_ret
            exact ⟨rfl, bthen HBW.out HW.out⟩

set_option maxHeartbeats 4000000 in
theorem walk_14 (a b : Int) (q : Nat) (g2 : (Lit.int .u64 a).wf = true) (g3 : (Lit.int .u64 b).wf = true) (hq : q < 81) (w : World) (hT : Tab w) :
    Calls Tryd.prog 5 #[.int .i64 (14 : Int), .int .i64 (q : Int), .agg #[.int .u64 a, .int .u64 b]] w fun e w' => e = .returned (.bool true) ∧ Below w.heap.size w w' := by
  have hk : 1 ≤ (14 : Int) ∧ (14 : Int) ≤ 15 := by omega
  have H := Lib.hid (fun W => slides_true W)
  have R := Lib.hid (fun W => real4_any a b (bounds_u64 g2).1 (bounds_u64 g2).2 (bounds_u64 g3).1 (bounds_u64 g3).2 W)
  have s0 := realN_sq a b
  generalize realN a b = n at R s0
  have SQ := Lib.hid (fun (W : World) (hT : Tab W) (h : 1 ≤ W.heap.size) => squares_any n s0 W hT h)
  have HT := Lib.hid hT
  have S0 := Lib.hid s0
  clear g2 g3 hT s0
  generalize hx : loW n = xn at R SQ
  generalize hy : hiW n = yn at R SQ
  have HXN := Lib.hid hx
  have HYN := Lib.hid hy
  clear hx hy
  have hz := zero_set
  have hzb := build_set
  have b1 : ¬ (14 : Int) < 1 := by omega
  have b2 : ¬ 15 < (14 : Int) := by omega
  have b3 : ¬ (q : Int) < 0 := by omega
  have b4 : ¬ 80 < (q : Int) := by omega
  go_enter Tryd.func5, Tryd.ntmps5
  go_wp2_with (first
    | (go_at_call 17; refine (H.out _).mono ?_; rintro e w1 ⟨rfl, hb1⟩; obtain ⟨hc1, hf1⟩ := bcells hb1; have hz1 : w.heap.size < w1.heap.size := by (have := hb1.size; simp at this; omega))
    | (go_at_call 18; refine (R.out _).mono ?_; rintro e w2 ⟨rfl, hb2⟩; obtain ⟨hc2, hf2⟩ := bcells hb2; have hz2 : w.heap.size < w2.heap.size := by (have := hb2.size; omega))
    | (go_at_call 21; refine (SQ.out _ (HT.out.grow (ball (((bthen (bthen (ball (bref w) _) hb1) hb2).setCell (Nat.le_refl _) _).setCell (Nat.le_refl _) _) _)) (by simp)).mono ?_; rintro e w3 ⟨v, rfl, hO, hb3⟩))
  have B3 := Lib.hid (bthen (ball (((bthen (bthen (ball (bref w) _) hb1) hb2).setCell (Nat.le_refl w.heap.size) (p := ⟨w.heap.size, 0, none⟩) (.int .u64 xn)).setCell (Nat.le_refl w.heap.size) (p := ⟨w.heap.size, 1, none⟩) (.int .u64 yn)) (.cells #[.int .u64 0, .int .u64 0] 24)) hb3)
  have hl3 : w2.heap.size < w3.heap.size := by have := hb3.size; simp at this; omega
  have t0 : w3.cell? ⟨w.heap.size, 0, none⟩ = some (.int .u64 xn) := (hb3.cell (p := ⟨w.heap.size, 0, none⟩) (by simp; omega)).trans (by go_simp)
  have t1 : w3.cell? ⟨w.heap.size, 1, none⟩ = some (.int .u64 yn) := (hb3.cell (p := ⟨w.heap.size, 1, none⟩) (by simp; omega)).trans (by go_simp)
  have V7 : Var w3 w2.heap.size 0 0 := Var.grow ⟨by simp, by go_simp, by go_simp, by go_simp, by go_simp⟩ hb3
  have HO := Lib.hid (hO.mono (C := w2.heap.size + 1) (by simp)).parts
  have hne : w.heap.size < w2.heap.size := hz2
  have T0 := Lib.hid t0
  have T1 := Lib.hid t1
  have HV7 := Lib.hid V7
  have hlen := sqI_le n
  clear hO hb3 hb1 hb2 hc1 hf1 hz1 hc2 hf2 hz2 H R SQ HT hz hzb t0 t1 V7
  generalize w2.heap.size = bt at *
  have HREV := Lib.hid (fun i hi => rev_test n i hi)
  have hrl : revL n = (sqI n).map (fun x => 80 - x) := rfl
  have hrn : revN n = ofN (revL n) := rfl
  have HREVN := Lib.hid hrn.symm
  have HBG := Lib.hid (fun (g : Nat) (h : bt + 1 ≤ g) => (h : bt < g))
  have hin : ∀ x ∈ sqI n, 0 ≤ x ∧ x < 81 := by
    intro x hx
    unfold sqI at hx
    obtain ⟨i, hi, rfl⟩ := List.mem_map.1 hx
    have := ((mem_sqI n i).1 (List.mem_map.2 ⟨i, hi, rfl⟩)).1
    omega
  have HIN := Lib.hid hin
  clear hrn hin hrl
  obtain ⟨o, cap, rfl, hsl⟩ : ∃ o cap, v = .slice o (sqI n).length cap ∧ (∀ (j : Nat) (hj : j < (sqI n).length), ∃ g, o = some ⟨g, 0, none⟩ ∧ bt < g ∧ g < w3.heap.size ∧ w3.cell? ⟨g, 0 + j, none⟩ = some (.int .i64 (sqI n)[j])) := by
    rcases HO.out with ⟨rfl, hnil⟩ | ⟨g, cap, rfl, hg, hgl, hcells⟩
    · refine ⟨none, 0, by rw [hnil]; rfl, fun j hj => ?_⟩
      rw [hnil] at hj
      exact absurd hj (Nat.not_lt_zero _)
    · exact ⟨_, cap, rfl, fun j hj => ⟨g, rfl, HBG.out g hg, hgl, hcells j hj⟩⟩
  have HSL := Lib.hid hsl
  clear hsl HO HBG
  have hb3' := B3.out
  have t0 := T0.out
  have t1 := T1.out
  clear T0 T1
  go_wp2
  have hrun : Sem.run Tryd.prog (Builtin.len_ #[38] 3 #[.slice o (sqI n).length cap]) w3 = .ok (.int .i64 ((sqI n).length : Nat)) w3 := rfl
  rw [hrun]
  clear hrun
  go_wp2
  go_loopw [36] (fun i wd => ∃ j : Nat, j ≤ (sqI n).length ∧ i = .int .i64 j ∧ Below w.heap.size w wd ∧ Var wd bt (loW (ofN ((revL n).take j))) (hiW (ofN ((revL n).take j))) ∧ wd.cell? ⟨w.heap.size, 0, none⟩ = some (.int .u64 xn) ∧ wd.cell? ⟨w.heap.size, 1, none⟩ = some (.int .u64 yn) ∧ (∀ g p v, bt < g → g < w3.heap.size → w3.cell? ⟨g, p, none⟩ = some v → g < wd.heap.size ∧ wd.cell? ⟨g, p, none⟩ = some v)) (fun i _ => (sqI n).length - (intOf i).toNat)
  case atStart =>
    refine ⟨0, Nat.zero_le _, rfl, hb3', ?_, t0, t1, fun g p v _ h2 h3 => ⟨h2, h3⟩⟩
    rw [List.take_zero, show ofN [] = 0 from rfl, lo_zero, hi_zero]
    exact HV7.out
  case round =>
    rename World => wd
    obtain ⟨j, hj, rfl, hB, hV, t0, t1, hK⟩ := hrel
    have HB := Lib.hid hB
    have HV := Lib.hid hV
    have HKP := Lib.hid hK
    have hzm := hV.lt
    have hzt : w.heap.size < wd.heap.size := by omega
    clear hb3' hB hK
    by_cases hlt : j < (sqI n).length
    · obtain ⟨g, rfl, hg1, hg2, hg3⟩ := HSL.out j hlt
      obtain ⟨hg4, c1⟩ := HKP.out _ _ _ hg1 hg2 hg3
      have hgb : g ≠ bt := by omega
      have hrt : (revL n)[j]'(by simp [revL]; omega) = 80 - (sqI n)[j] := by simp [revL]
      have C := Lib.hid (fun W => with_any (ofN ((revL n).take j)) ((revL n)[j]'(by simp [revL]; omega)) (ofN_sq _) W)
      rw [← take_step (revL n) j (by simp [revL]; omega)] at C
      rw [hrt] at C
      obtain ⟨r0, r1⟩ := HIN.out _ (List.getElem_mem hlt)
      have l0 := hV.lo
      have l1 := hV.hi
      have l2 := hV.f0
      have l3 := hV.f1
      clear hV hg3 hrt
      generalize (sqI n)[j] = s at C c1 r0 r1
      obtain ⟨z, hzs⟩ : ∃ z, z = 80 - s := ⟨_, rfl⟩
      have W2 := Lib.hid (show wrap64 (80 - s) = z by rw [hzs]; unfold wrap64; omega)
      rw [← hzs] at C
      clear hzs
      generalize loW (ofN ((revL n).take j)) = x at C l0 HV
      generalize hiW (ofN ((revL n).take j)) = y at C l1 HV
      generalize hx : loW (ofN ((revL n).take (j + 1))) = x2 at C
      generalize hy : hiW (ofN ((revL n).take (j + 1))) = y2 at C
      have HX := Lib.hid hx
      have HY := Lib.hid hy
      clear hx hy HSL
      have HR01 := Lib.hid (And.intro r0 r1)
      clear r0 r1
      rw [Nat.zero_add] at c1
      go_wp2_with (first
        | (go_at_call 23; rw [W2.out]; refine (C.out _).mono ?_; rintro e w5 ⟨rfl, hb5⟩; obtain ⟨hc5, hf5⟩ := bcells hb5; have hz5 : wd.heap.size ≤ w5.heap.size := hb5.size))
      go_roundw
      case rel =>
        refine ⟨j + 1, by omega, by go_num, ?_, ?_, ?_, ?_, ?_⟩
        · exact ((HB.out.trans (hb5.mono HB.out.size)).setCell (by simp; omega) _).setCell (by simp; omega) _
        · rw [HX.out, HY.out]
          exact (HV.out.grow hb5).put _ _
        · go_simp
        · go_simp
        · intro g' p v h1 h2 h3
          obtain ⟨h4, h5⟩ := HKP.out g' p v h1 h2 h3
          have hne' : g' ≠ bt := by omega
          refine ⟨by simp; omega, ?_⟩
          go_simp
      case measure => simp [intOf]; omega
    · obtain rfl : j = (sqI n).length := by omega
      rw [List.take_of_length_le (by simp [revL]), HREVN.out] at hV
      have m0 := hV.lo
      have m1 := hV.hi
      clear hV HV HKP HSL HV7
      have OA := Lib.hid (fun W => rayOf_any (14 : Int) q n (by omega) (by omega) S0.out W)
      have OB := Lib.hid (fun W => rayOf_any ((30 : Int)) (80 - (q : Int)) (revN n) (by omega) (by omega) (ofN_sq _) W)
      have OC := Lib.hid (fun (i : Nat) W => rayOf_any (14 : Int) i n (by omega) (by omega) S0.out W)
      have HSA : Hid (∀ (i : Nat), i < 81 → ∀ W, Calls Tryd.prog 14 #[.agg #[.int .u64 (loW (rayN (14 : Int) q n)), .int .u64 (hiW (rayN (14 : Int) q n))], .int .i64 (i : Int)] W fun e w' => e = .returned (.bool ((rayN (14 : Int) q n).testBit i)) ∧ Below W.heap.size W w') := Lib.hid (fun i hi W => by
        have := has_any (rayN (14 : Int) q n) i (rayN_sq (14 : Int) q n) W
        rw [has_nat _ i hi] at this
        exact this)
      have HSB : Hid (∀ (i : Nat), i < 81 → ∀ W, Calls Tryd.prog 14 #[.agg #[.int .u64 (loW (rayN ((30 : Int)) (80 - (q : Int)) (revN n))), .int .u64 (hiW (rayN ((30 : Int)) (80 - (q : Int)) (revN n)))], .int .i64 (80 - (i : Int))] W fun e w' => e = .returned (.bool ((rayN (14 : Int) q n).testBit i)) ∧ Below W.heap.size W w') := Lib.hid (fun i hi W => by
        have := has_any (rayN ((30 : Int)) (80 - (q : Int)) (revN n)) ((80 - i : Nat) : Int) (rayN_sq _ _ _) W
        have rt : (rayN ((30 : Int)) (80 - (q : Int)) (revN n)).testBit (80 - i) = (rayN (14 : Int) q n).testBit i := ray_turn (14 : Int) hk q i hq hi n (revN n) (fun t ht => rev_test n t ht) (between_inside q i)
        rw [has_nat _ (80 - i) (by omega), rt, show ((80 - i : Nat) : Int) = 80 - (i : Int) by omega] at this
        exact this)
      have HSC : Hid (∀ (i : Nat), i < 81 → ((14 : Int) = 6 ∨ (14 : Int) = 7 ∨ (14 : Int) = 8 ∨ (14 : Int) = 14 ∨ (14 : Int) = 15) → (rayN (14 : Int) q n).testBit i = true → ∀ W, Calls Tryd.prog 14 #[.agg #[.int .u64 (loW (rayN (14 : Int) i n)), .int .u64 (hiW (rayN (14 : Int) i n))], .int .i64 (q : Int)] W fun e w' => e = .returned (.bool true) ∧ Below W.heap.size W w') := Lib.hid (fun i hi hk' hb W => by
        have := has_any (rayN (14 : Int) i n) q (rayN_sq _ _ _) W
        rw [has_nat _ q hq, ray_back (14 : Int) hk' q i hq hi n hb] at this
        exact this)
      rw [HXN.out, HYN.out] at OA OC
      generalize rayN (14 : Int) q n = ma at OA HSA HSB HSC
      generalize loW ma = xa at OA HSA
      generalize hiW ma = ya at OA HSA
      generalize loW (rayN ((30 : Int)) (80 - (q : Int)) (revN n)) = xb at OB HSB
      generalize hiW (rayN ((30 : Int)) (80 - (q : Int)) (revN n)) = yb at OB HSB
      generalize loW (revN n) = xm at OB m0
      generalize hiW (revN n) = ym at OB m1
      have W8 := Lib.hid (show IntKind.i8.wrap (14 : Int) = (14 : Int) from wrap_i8_eq _ (by omega) (by omega))
      have W16 := Lib.hid (show IntKind.i8.wrap ((30 : Int)) = (30 : Int) from wrap_i8_eq _ (by omega) (by omega))
      have WK := Lib.hid (show IntKind.i64.wrap ((30 : Int)) = (30 : Int) by rw [IntKind.wrap_i64]; omega)
      have WK2 := Lib.hid (show wrap64 ((30 : Int)) = (30 : Int) by unfold wrap64; omega)
      have WQ := Lib.hid (show IntKind.i64.wrap (80 - (q : Int)) = 80 - (q : Int) by rw [IntKind.wrap_i64]; omega)
      have WQ2 := Lib.hid (show wrap64 (80 - (q : Int)) = 80 - (q : Int) by unfold wrap64; omega)
      obtain ⟨NN, nn0, nn1⟩ : ∃ NN : Nat → Array Value, NN 0 = #[.int .u64 xa, .int .u64 ya] ∧ NN 1 = #[.int .u64 xb, .int .u64 yb] := ⟨fun j => if j = 0 then _ else _, rfl, rfl⟩
      go_wp2_with fail
      refine wp_region_any (by kernel_rfl) ?_
      change wpAny _ _ _ _ _ _ _ (World.drew _)
      refine wpAny_inv3 (fun a0 => a0.eval (.tmp 0) = .int .i64 (14 : Int) ∧ a0.eval (.tmp 1) = .int .i64 (q : Int) ∧ a0.eval (.tmp 5) = .pointer (some ⟨w.heap.size, 0, none⟩) ∧ a0.eval (.tmp 7) = .pointer (some ⟨bt, 0, none⟩) ∧ 80 < a0.tmps.size) ⟨rfl, rfl, rfl, rfl, of_decide_eq_true rfl⟩
        (fun a0 ls a w' => ls.size = 16 ∧ Below wd.heap.size wd w' ∧ ∃ g : Nat → Nat, Blgs 24 #[.int .u64 0, .int .u64 0] wd w' NN ls 12 14 2 g ∧ a = cput (ls.getD 13 false) 11 (.pointer (some ⟨g 1, 0, none⟩)) (cput (ls.getD 12 false) 10 (.pointer (some ⟨g 0, 0, none⟩)) (cput (ls.getD 11 false) 56 (.agg #[.int .u64 xb, .int .u64 yb]) (cput (ls.getD 10 false) 55 (.agg #[.int .u64 xm, .int .u64 ym]) (cput (ls.getD 9 false) 54 (.int .i64 (80 - (q : Int))) (cput (ls.getD 8 false) 53 (.int .i64 (q : Int)) (cput (ls.getD 7 false) 52 (.int .i8 ((30 : Int))) (cput (ls.getD 6 false) 51 (.int .i64 ((30 : Int))) (cput (ls.getD 5 false) 50 (.int .i64 (14 : Int)) (cput (ls.getD 4 false) 49 (.agg #[.int .u64 xa, .int .u64 ya]) (cput (ls.getD 3 false) 48 (.agg #[.int .u64 xn, .int .u64 yn]) (cput (ls.getD 2 false) 47 (.int .i64 (q : Int)) (cput (ls.getD 1 false) 46 (.int .i8 (14 : Int)) (cput (ls.getD 0 false) 45 (.int .i64 (14 : Int)) (a0))))))))))))))) ?step ?fin ?start (by decide)
      case start => exact ⟨rfl, (bref wd).drew, fun _ => 0, ⟨fun j hj h => absurd h (by (obtain rfl | rfl : j = 0 ∨ j = 1 := by omega) <;> decide), fun i j hi hj _ h => absurd h (by (obtain rfl | rfl : i = 0 ∨ i = 1 := by omega) <;> decide), fun j hj h => absurd h (by (obtain rfl | rfl : j = 0 ∨ j = 1 := by omega) <;> decide)⟩, rfl⟩
      case step =>
        rintro a0 ⟨e0, e1, e5, e7, esz⟩ ls a w' ⟨hl, hb, g, hK, ha⟩ i o ho hu hw
        have hu' := undone hu
        rcases i with _ | _ | _ | _ | _ | _ | _ | _ | _ | _ | _ | _ | _ | _ | _ | _ | i
        · have ho' : some _ = some o := ho
          cases ho'
          have E0 : a.eval (.tmp 0) = .int .i64 (14 : Int) := by rw [ha]; simp [eval_cput_ne, e0]
          refine wpOp_step ho (fun K hK' => ?_)
          rw [if_pos (by rfl)]
          refine wp_valueK (w' := w') (.int .i64 (14 : Int)) ?_ (hK' _ _ ⟨by simp [hl], hb, g, hK.other (bref w') 0 (by omega) (fun j hj => by omega) (fun j hj => by omega), by rw [ha]; simp [cput_put, getF, hl, hu', cput_at]⟩)
          exact congrArg (fun v => Result.ok (Next.value v) w') E0
        · have ho' : some _ = some o := ho
          cases ho'
          have d45 : ls.getD 0 false = true := hw ⟨0, .data⟩ (by simp) rfl
          have z45 : 45 < a0.tmps.size := by omega
          have E45 : a.eval (.tmp 45) = .int .i64 (14 : Int) := by rw [ha]; simp [eval_cput_ne, d45, eval_cput_at, size_cput, z45]
          refine wpOp_step ho (fun K hK' => ?_)
          rw [if_pos (by rfl)]
          refine wp_valueK (w' := w') (.int .i8 (14 : Int)) ?_ (hK' _ _ ⟨by simp [hl], hb, g, hK.other (bref w') 1 (by omega) (fun j hj => by omega) (fun j hj => by omega), by rw [ha]; simp [cput_put, getF, hl, hu', cput_at]⟩)
          clear ha
          have w1 : IntKind.i8.wrap (14 : Int) = (14 : Int) := W8.out
          have EE : a.tmps[45]?.getD undef = .int .i64 (14 : Int) := by first | exact E45 | simpa [Act.eval] using E45
          go_simp
          all_goals first | (rw [EE]; go_simp; done) | decide | rfl
        · have ho' : some _ = some o := ho
          cases ho'
          have E1 : a.eval (.tmp 1) = .int .i64 (q : Int) := by rw [ha]; simp [eval_cput_ne, e1]
          refine wpOp_step ho (fun K hK' => ?_)
          rw [if_pos (by rfl)]
          refine wp_valueK (w' := w') (.int .i64 (q : Int)) ?_ (hK' _ _ ⟨by simp [hl], hb, g, hK.other (bref w') 2 (by omega) (fun j hj => by omega) (fun j hj => by omega), by rw [ha]; simp [cput_put, getF, hl, hu', cput_at]⟩)
          exact congrArg (fun v => Result.ok (Next.value v) w') E1
        · have ho' : some _ = some o := ho
          cases ho'
          have E5 : a.eval (.tmp 5) = .pointer (some ⟨w.heap.size, 0, none⟩) := by rw [ha]; simp [eval_cput_ne, e5]
          refine wpOp_step ho (fun K hK' => ?_)
          rw [if_pos (by rfl)]
          refine wp_load_mid _ _ rfl (w.heap.size) 0 E5 [.int .u64 xn, .int .u64 yn] _ (range2 ((hb.cell (p := ⟨w.heap.size, 0, none⟩) hzt).trans t0) ((hb.cell (p := ⟨w.heap.size, 1, none⟩) hzt).trans t1)) Tryd.underlying24 rfl infoSet2 ?_
          exact hK' _ _ ⟨by simp [hl], hb, g, hK.other (bref w') 3 (by omega) (fun j hj => by omega) (fun j hj => by omega), by rw [ha]; simp [cput_put, getF, hl, hu', cput_at]⟩
        · have ho' : some _ = some o := ho
          cases ho'
          have d46 : ls.getD 1 false = true := hw ⟨1, .data⟩ (by simp) rfl
          have z46 : 46 < a0.tmps.size := by omega
          have E46 : a.eval (.tmp 46) = .int .i8 (14 : Int) := by rw [ha]; simp [eval_cput_ne, d46, eval_cput_at, size_cput, z46]
          have d47 : ls.getD 2 false = true := hw ⟨2, .data⟩ (by simp) rfl
          have z47 : 47 < a0.tmps.size := by omega
          have E47 : a.eval (.tmp 47) = .int .i64 (q : Int) := by rw [ha]; simp [eval_cput_ne, d47, eval_cput_at, size_cput, z47]
          have d48 : ls.getD 3 false = true := hw ⟨3, .data⟩ (by simp) rfl
          have z48 : 48 < a0.tmps.size := by omega
          have E48 : a.eval (.tmp 48) = .agg #[.int .u64 xn, .int .u64 yn] := by rw [ha]; simp [eval_cput_ne, d48, eval_cput_at, size_cput, z48]
          refine wpOp_step ho (fun K hK' => ?_)
          rw [if_pos (by rfl)]
          refine wp_callK 24 #[a.eval (.tmp 46), a.eval (.tmp 47), a.eval (.tmp 48)] ?_ ?_
          · clear ha E46 E47 E48
            go_simp
          · rw [E46, E47, E48]
            refine (OA.out _).mono ?_
            rintro e w2 ⟨rfl, hb2⟩
            exact ⟨_, rfl, hK' _ _ ⟨by simp [hl], bthen hb hb2, g, hK.other hb2 4 (by omega) (fun j hj => by omega) (fun j hj => by omega), by rw [ha]; simp [cput_put, getF, hl, hu', cput_at]⟩⟩
        · have ho' : some _ = some o := ho
          cases ho'
          have E0 : a.eval (.tmp 0) = .int .i64 (14 : Int) := by rw [ha]; simp [eval_cput_ne, e0]
          refine wpOp_step ho (fun K hK' => ?_)
          rw [if_pos (by rfl)]
          refine wp_valueK (w' := w') (.int .i64 (14 : Int)) ?_ (hK' _ _ ⟨by simp [hl], hb, g, hK.other (bref w') 5 (by omega) (fun j hj => by omega) (fun j hj => by omega), by rw [ha]; simp [cput_put, getF, hl, hu', cput_at]⟩)
          exact congrArg (fun v => Result.ok (Next.value v) w') E0
        · have ho' : some _ = some o := ho
          cases ho'
          have d50 : ls.getD 5 false = true := hw ⟨5, .data⟩ (by simp) rfl
          have z50 : 50 < a0.tmps.size := by omega
          have E50 : a.eval (.tmp 50) = .int .i64 (14 : Int) := by rw [ha]; simp [eval_cput_ne, d50, eval_cput_at, size_cput, z50]
          refine wpOp_step ho (fun K hK' => ?_)
          rw [if_pos (by rfl)]
          refine wp_valueK (w' := w') (.int .i64 ((30 : Int))) ?_ (hK' _ _ ⟨by simp [hl], hb, g, hK.other (bref w') 6 (by omega) (fun j hj => by omega) (fun j hj => by omega), by rw [ha]; simp [cput_put, getF, hl, hu', cput_at]⟩)
          clear ha
          have w1 : IntKind.i64.wrap ((30 : Int)) = (30 : Int) := WK.out
          have w2 : wrap64 ((30 : Int)) = (30 : Int) := WK2.out
          have EE : a.tmps[50]?.getD undef = .int .i64 (14 : Int) := by first | exact E50 | simpa [Act.eval] using E50
          go_simp
          all_goals first | (rw [EE]; go_simp; done) | decide | rfl
        · have ho' : some _ = some o := ho
          cases ho'
          have d51 : ls.getD 6 false = true := hw ⟨6, .data⟩ (by simp) rfl
          have z51 : 51 < a0.tmps.size := by omega
          have E51 : a.eval (.tmp 51) = .int .i64 ((30 : Int)) := by rw [ha]; simp [eval_cput_ne, d51, eval_cput_at, size_cput, z51]
          refine wpOp_step ho (fun K hK' => ?_)
          rw [if_pos (by rfl)]
          refine wp_valueK (w' := w') (.int .i8 ((30 : Int))) ?_ (hK' _ _ ⟨by simp [hl], hb, g, hK.other (bref w') 7 (by omega) (fun j hj => by omega) (fun j hj => by omega), by rw [ha]; simp [cput_put, getF, hl, hu', cput_at]⟩)
          clear ha
          have w1 : IntKind.i8.wrap ((30 : Int)) = (30 : Int) := W16.out
          have EE : a.tmps[51]?.getD undef = .int .i64 ((30 : Int)) := by first | exact E51 | simpa [Act.eval] using E51
          go_simp
          all_goals first | (rw [EE]; go_simp; done) | decide | rfl
        · have ho' : some _ = some o := ho
          cases ho'
          have E1 : a.eval (.tmp 1) = .int .i64 (q : Int) := by rw [ha]; simp [eval_cput_ne, e1]
          refine wpOp_step ho (fun K hK' => ?_)
          rw [if_pos (by rfl)]
          refine wp_valueK (w' := w') (.int .i64 (q : Int)) ?_ (hK' _ _ ⟨by simp [hl], hb, g, hK.other (bref w') 8 (by omega) (fun j hj => by omega) (fun j hj => by omega), by rw [ha]; simp [cput_put, getF, hl, hu', cput_at]⟩)
          exact congrArg (fun v => Result.ok (Next.value v) w') E1
        · have ho' : some _ = some o := ho
          cases ho'
          have d53 : ls.getD 8 false = true := hw ⟨8, .data⟩ (by simp) rfl
          have z53 : 53 < a0.tmps.size := by omega
          have E53 : a.eval (.tmp 53) = .int .i64 (q : Int) := by rw [ha]; simp [eval_cput_ne, d53, eval_cput_at, size_cput, z53]
          refine wpOp_step ho (fun K hK' => ?_)
          rw [if_pos (by rfl)]
          refine wp_valueK (w' := w') (.int .i64 (80 - (q : Int))) ?_ (hK' _ _ ⟨by simp [hl], hb, g, hK.other (bref w') 9 (by omega) (fun j hj => by omega) (fun j hj => by omega), by rw [ha]; simp [cput_put, getF, hl, hu', cput_at]⟩)
          clear ha
          have w1 : IntKind.i64.wrap (80 - (q : Int)) = 80 - (q : Int) := WQ.out
          have w2 : wrap64 (80 - (q : Int)) = 80 - (q : Int) := WQ2.out
          have EE : a.tmps[53]?.getD undef = .int .i64 (q : Int) := by first | exact E53 | simpa [Act.eval] using E53
          go_simp
          all_goals first | (rw [EE]; go_simp; done) | decide | rfl
        · have ho' : some _ = some o := ho
          cases ho'
          have E7 : a.eval (.tmp 7) = .pointer (some ⟨bt, 0, none⟩) := by rw [ha]; simp [eval_cput_ne, e7]
          refine wpOp_step ho (fun K hK' => ?_)
          rw [if_pos (by rfl)]
          refine wp_load_mid _ _ rfl (bt) 0 E7 [.int .u64 xm, .int .u64 ym] _ (range2 ((hb.cell (p := ⟨bt, 0, none⟩) hzm).trans m0) ((hb.cell (p := ⟨bt, 1, none⟩) hzm).trans m1)) Tryd.underlying24 rfl infoSet2 ?_
          exact hK' _ _ ⟨by simp [hl], hb, g, hK.other (bref w') 10 (by omega) (fun j hj => by omega) (fun j hj => by omega), by rw [ha]; simp [cput_put, getF, hl, hu', cput_at]⟩
        · have ho' : some _ = some o := ho
          cases ho'
          have d52 : ls.getD 7 false = true := hw ⟨7, .data⟩ (by simp) rfl
          have z52 : 52 < a0.tmps.size := by omega
          have E52 : a.eval (.tmp 52) = .int .i8 ((30 : Int)) := by rw [ha]; simp [eval_cput_ne, d52, eval_cput_at, size_cput, z52]
          have d54 : ls.getD 9 false = true := hw ⟨9, .data⟩ (by simp) rfl
          have z54 : 54 < a0.tmps.size := by omega
          have E54 : a.eval (.tmp 54) = .int .i64 (80 - (q : Int)) := by rw [ha]; simp [eval_cput_ne, d54, eval_cput_at, size_cput, z54]
          have d55 : ls.getD 10 false = true := hw ⟨10, .data⟩ (by simp) rfl
          have z55 : 55 < a0.tmps.size := by omega
          have E55 : a.eval (.tmp 55) = .agg #[.int .u64 xm, .int .u64 ym] := by rw [ha]; simp [eval_cput_ne, d55, eval_cput_at, size_cput, z55]
          refine wpOp_step ho (fun K hK' => ?_)
          rw [if_pos (by rfl)]
          refine wp_callK 24 #[a.eval (.tmp 52), a.eval (.tmp 54), a.eval (.tmp 55)] ?_ ?_
          · clear ha E52 E54 E55
            go_simp
          · rw [E52, E54, E55]
            refine (OB.out _).mono ?_
            rintro e w2 ⟨rfl, hb2⟩
            exact ⟨_, rfl, hK' _ _ ⟨by simp [hl], bthen hb hb2, g, hK.other hb2 11 (by omega) (fun j hj => by omega) (fun j hj => by omega), by rw [ha]; simp [cput_put, getF, hl, hu', cput_at]⟩⟩
        · have ho' : some _ = some o := ho
          cases ho'
          refine wpOp_step ho (fun K hK' => ?_)
          rw [if_pos (by rfl)]
          refine wp_valueK (w' := w'.alloc (.cells #[.int .u64 0, .int .u64 0] 24)) (.pointer (some ⟨w'.heap.size, 0, none⟩)) ?_ ?_
          · have hz := zero_set
            clear ha
            go_simp
          · exact hK' _ _ ⟨by simp [hl], ball hb _, _, hK.laid hb 0 (by omega) (by omega) hu' (by omega), by rw [ha]; simp [cput_put, getF, hl, hu', cput_at]⟩
        · have ho' : some _ = some o := ho
          cases ho'
          refine wpOp_step ho (fun K hK' => ?_)
          rw [if_pos (by rfl)]
          refine wp_valueK (w' := w'.alloc (.cells #[.int .u64 0, .int .u64 0] 24)) (.pointer (some ⟨w'.heap.size, 0, none⟩)) ?_ ?_
          · have hz := zero_set
            clear ha
            go_simp
          · exact hK' _ _ ⟨by simp [hl], ball hb _, _, hK.laid hb 1 (by omega) (by omega) hu' (by omega), by rw [ha]; simp [cput_put, getF, hl, hu', cput_at]⟩
        · have ho' : some _ = some o := ho
          cases ho'
          have d10 : ls.getD 12 false = true := hw ⟨12, .data⟩ (by simp) rfl
          have z10 : 10 < a0.tmps.size := by omega
          have E10 : a.eval (.tmp 10) = .pointer (some ⟨g 0, 0, none⟩) := by rw [ha]; simp [eval_cput_ne, d10, eval_cput_at, size_cput, z10]
          have d49 : ls.getD 4 false = true := hw ⟨4, .data⟩ (by simp) rfl
          have z49 : 49 < a0.tmps.size := by omega
          have E49 : a.eval (.tmp 49) = .agg #[.int .u64 xa, .int .u64 ya] := by rw [ha]; simp [eval_cput_ne, d49, eval_cput_at, size_cput, z49]
          refine wpOp_step ho (fun K hK' => ?_)
          rw [if_pos (by rfl)]
          have hB := hK.blk 0 (by omega) d10
          rw [show ls.getD (14 + 0) false = false from hu', if_neg (by decide)] at hB
          have gg : ∀ j, j ≠ 14 → (ls.setIfInBounds 14 true).getD j false = ls.getD j false := fun j hj => (getF (by omega : 14 < ls.size)).trans (if_neg (Ne.symm hj))
          have hF := hK.filled 0 (by omega) (by omega) d10 (by omega)
          rw [nn0] at hF
          refine wp_store_row 24 _ _ rfl (g 0) (#[.int .u64 xa, .int .u64 ya]) E10 E49 24 #[.int .u64 0, .int .u64 0] hB.row infoSet2 rfl (by simp [Value.oneCell']) ?_
          refine hK' _ _ ⟨by simp [hl], below_setRow hb hB.le _, g, hF, ?_⟩
          rw [gg 13 (by decide), gg 12 (by decide), gg 11 (by decide), gg 10 (by decide), gg 9 (by decide), gg 8 (by decide), gg 7 (by decide), gg 6 (by decide), gg 5 (by decide), gg 4 (by decide), gg 3 (by decide), gg 2 (by decide), gg 1 (by decide), gg 0 (by decide), ha]
          rfl
        · have ho' : some _ = some o := ho
          cases ho'
          have d11 : ls.getD 13 false = true := hw ⟨13, .data⟩ (by simp) rfl
          have z11 : 11 < a0.tmps.size := by omega
          have E11 : a.eval (.tmp 11) = .pointer (some ⟨g 1, 0, none⟩) := by rw [ha]; simp [eval_cput_ne, d11, eval_cput_at, size_cput, z11]
          have d56 : ls.getD 11 false = true := hw ⟨11, .data⟩ (by simp) rfl
          have z56 : 56 < a0.tmps.size := by omega
          have E56 : a.eval (.tmp 56) = .agg #[.int .u64 xb, .int .u64 yb] := by rw [ha]; simp [eval_cput_ne, d56, eval_cput_at, size_cput, z56]
          refine wpOp_step ho (fun K hK' => ?_)
          rw [if_pos (by rfl)]
          have hB := hK.blk 1 (by omega) d11
          rw [show ls.getD (14 + 1) false = false from hu', if_neg (by decide)] at hB
          have gg : ∀ j, j ≠ 15 → (ls.setIfInBounds 15 true).getD j false = ls.getD j false := fun j hj => (getF (by omega : 15 < ls.size)).trans (if_neg (Ne.symm hj))
          have hF := hK.filled 1 (by omega) (by omega) d11 (by omega)
          rw [nn1] at hF
          refine wp_store_row 24 _ _ rfl (g 1) (#[.int .u64 xb, .int .u64 yb]) E11 E56 24 #[.int .u64 0, .int .u64 0] hB.row infoSet2 rfl (by simp [Value.oneCell']) ?_
          refine hK' _ _ ⟨by simp [hl], below_setRow hb hB.le _, g, hF, ?_⟩
          rw [gg 13 (by decide), gg 12 (by decide), gg 11 (by decide), gg 10 (by decide), gg 9 (by decide), gg 8 (by decide), gg 7 (by decide), gg 6 (by decide), gg 5 (by decide), gg 4 (by decide), gg 3 (by decide), gg 2 (by decide), gg 1 (by decide), gg 0 (by decide), ha]
          rfl
        · cases ho
      case fin =>
        rintro ls a w' ⟨hl, hb, g, hK, ha⟩ hr
        have d : ∀ i, i < 16 → ls.getD i false = true := all_doneB hr (by kernel_rfl) (by rw [hl]; rfl)
        have K0 := hK.blk 0 (by omega) (d 12 (by decide))
        rw [show ls.getD (14 + 0) false = true from d 14 (by decide), if_pos rfl, nn0] at K0
        have K1 := hK.blk 1 (by omega) (d 13 (by decide))
        rw [show ls.getD (14 + 1) false = true from d 15 (by decide), if_pos rfl, nn1] at K1
        rw [d 13 (by decide), d 12 (by decide), d 11 (by decide), d 10 (by decide), d 9 (by decide), d 8 (by decide), d 7 (by decide), d 6 (by decide), d 5 (by decide), d 4 (by decide), d 3 (by decide), d 2 (by decide), d 1 (by decide), d 0 (by decide)] at ha
        subst ha
        simp only [cput, if_true, Act.put, List.setIfInBounds_toArray, List.set_cons_zero, List.set_cons_succ]
        clear d hr hl hK
        have za := K0.lt
        have zb := K1.lt
        have ra := K0.row
        have rb := K1.row
        generalize g 0 = pa at *
        generalize g 1 = pb at *
        have a0 : w'.cell? ⟨pa, 0, none⟩ = some (.int .u64 xa) := row_cell0 ra
        have a1 : w'.cell? ⟨pa, 1, none⟩ = some (.int .u64 ya) := row_cell1 ra
        have b0 : w'.cell? ⟨pb, 0, none⟩ = some (.int .u64 xb) := row_cell0 rb
        have b1 : w'.cell? ⟨pb, 1, none⟩ = some (.int .u64 yb) := row_cell1 rb
        have t0' : w'.cell? ⟨w.heap.size, 0, none⟩ = some (.int .u64 xn) := (hb.cell (p := ⟨w.heap.size, 0, none⟩) hzt).trans t0
        have t1' : w'.cell? ⟨w.heap.size, 1, none⟩ = some (.int .u64 yn) := (hb.cell (p := ⟨w.heap.size, 1, none⟩) hzt).trans t1
        have zt : w.heap.size < w'.heap.size := Nat.lt_of_lt_of_le hzt hb.size
        have HBW := Lib.hid (bthen HB.out hb)
        clear K0 K1 ra rb t0 t1 m0 m1 hb HB nn0 nn1 OA OB hzm hzt
        go_wp2_with fail
        go_loopw [12] (fun i wr => ∃ m : Nat, m ≤ 81 ∧ i = .int .i64 m ∧ Below w'.heap.size w' wr) (fun i _ => 81 - (intOf i).toNat)
        case atStart => exact ⟨0, Nat.zero_le _, rfl, bref _⟩
        case round =>
          obtain ⟨i, hi, rfl, hW⟩ := hrel
          have A0 := (hW.cell (p := ⟨pa, 0, none⟩) za).trans a0
          have A1 := (hW.cell (p := ⟨pa, 1, none⟩) za).trans a1
          have B0 := (hW.cell (p := ⟨pb, 0, none⟩) zb).trans b0
          have B1 := (hW.cell (p := ⟨pb, 1, none⟩) zb).trans b1
          have T0 := (hW.cell (p := ⟨w.heap.size, 0, none⟩) zt).trans t0'
          have T1 := (hW.cell (p := ⟨w.heap.size, 1, none⟩) zt).trans t1'
          have za' := Nat.lt_of_lt_of_le za hW.size
          have zb' := Nat.lt_of_lt_of_le zb hW.size
          have zt' := Nat.lt_of_lt_of_le zt hW.size
          clear a0 a1 b0 b1 t0' t1' za zb zt
          have HW := Lib.hid hW
          clear hW
          have a0 := A0
          have a1 := A1
          have b0 := B0
          have b1 := B1
          have za := za'
          have zb := zb'
          clear A0 A1 B0 B1 za' zb'
          by_cases hlt : i < 81
          · have HA := Lib.hid (fun W => HSA.out i hlt W)
            have HBb := Lib.hid (fun W => HSB.out i hlt W)
            have HC := Lib.hid (fun h1 h2 W => HSC.out i hlt h1 h2 W)
            have OCi := Lib.hid (fun W => OC.out i W)
            generalize loW (rayN (14 : Int) i n) = xc at HC OCi
            generalize hiW (rayN (14 : Int) i n) = yc at HC OCi
            generalize ma.testBit i = bit at HA HBb HC
            have WT := Lib.hid (show IntKind.i64.wrap (80 - (i : Int)) = 80 - (i : Int) by rw [IntKind.wrap_i64]; omega)
            clear HSA HSB HSC OC
            go_wp2_with fail
            refine wp_region_held_drew (S := fun w' => Below wr.heap.size wr w' ∧ pa < w'.heap.size ∧ pb < w'.heap.size ∧ w'.cell? ⟨pa, 0, none⟩ = some (.int .u64 xa) ∧ w'.cell? ⟨pa, 1, none⟩ = some (.int .u64 ya) ∧ w'.cell? ⟨pb, 0, none⟩ = some (.int .u64 xb) ∧ w'.cell? ⟨pb, 1, none⟩ = some (.int .u64 yb)) (by kernel_rfl) ?_ (fun hHeld => ?_)
            · exact ⟨(bref wr).drew, za, zb, a0, a1, b0, b1⟩
            refine wpAnyH_take (i := 0) (v := ?v19) rfl (by kernel_rfl) (by kernel_rfl) (by kernel_rfl) (fun _ _ _ h => h) (Or.inl ⟨by rfl, ?y19⟩) (by assumption) ?r19
            case y19 => (intro w hSw; (go_simp <;> first | with_reducible rfl | (rw [if_pos (by omega)] <;> with_reducible rfl)))
            try simp only [Act.put, List.getElem_toArray, List.getElem_cons_zero, List.getElem_cons_succ, List.setIfInBounds_toArray, List.set_cons_zero, List.set_cons_succ]
            refine wpAnyH_take (i := 1) (v := ?v20) rfl (by kernel_rfl) (by kernel_rfl) (by kernel_rfl) (fun _ _ _ h => h) (Or.inl ⟨by rfl, ?y20⟩) (by assumption) ?r20
            case y20 => (intro w hSw; (go_simp <;> first | with_reducible rfl | (rw [if_pos (by omega)] <;> with_reducible rfl)))
            try simp only [Act.put, List.getElem_toArray, List.getElem_cons_zero, List.getElem_cons_succ, List.setIfInBounds_toArray, List.set_cons_zero, List.set_cons_succ]
            refine wpAnyH_take (i := 3) (v := ?v21) rfl (by kernel_rfl) (by kernel_rfl) (by kernel_rfl) (fun _ _ _ h => h) (Or.inl ⟨by rfl, ?y21⟩) (by assumption) ?r21
            case y21 => (intro w hSw; (go_simp <;> first | with_reducible rfl | (rw [if_pos (by omega)] <;> with_reducible rfl)))
            try simp only [Act.put, List.getElem_toArray, List.getElem_cons_zero, List.getElem_cons_succ, List.setIfInBounds_toArray, List.set_cons_zero, List.set_cons_succ]
            refine wpAnyH_take (i := 4) (v := ?v22) rfl (by kernel_rfl) (by kernel_rfl) (by kernel_rfl) (fun _ _ _ h => h) (Or.inl ⟨by rfl, ?y22⟩) (by assumption) ?r22
            case y22 => (intro w hSw; (go_simp <;> first | with_reducible rfl | (rw [if_pos (by omega)] <;> with_reducible rfl)))
            try simp only [Act.put, List.getElem_toArray, List.getElem_cons_zero, List.getElem_cons_succ, List.setIfInBounds_toArray, List.set_cons_zero, List.set_cons_succ]
            refine wpAnyH_take (i := 5) (v := ?v23) rfl (by kernel_rfl) (by kernel_rfl) (by kernel_rfl) (fun _ _ _ h => h) (Or.inl ⟨by rfl, ?y23⟩) (by assumption) ?r23
            case y23 => (intro w hSw; (go_simp <;> first | with_reducible rfl | (rw [if_pos (by omega)] <;> with_reducible rfl)))
            try simp only [Act.put, List.getElem_toArray, List.getElem_cons_zero, List.getElem_cons_succ, List.setIfInBounds_toArray, List.set_cons_zero, List.set_cons_succ]
            refine wpAnyH_ready (rs := [2]) (by kernel_rfl) (by simp) ?_
            refine AllReadyH.cons rfl (fun K hK => ?_) AllReadyH.nil
            rw [if_pos (by rfl)]
            go_simp
            go_at_call 14
            refine (HA.out _).mono ?_
            rintro e wn ⟨rfl, hb⟩
            refine hK.out _ _ (⟨bthen hHeld.1 hb, Nat.lt_of_lt_of_le hHeld.2.1 hb.size, Nat.lt_of_lt_of_le hHeld.2.2.1 hb.size, (hb.cell (p := ⟨pa, 0, none⟩) hHeld.2.1).trans hHeld.2.2.2.1, (hb.cell (p := ⟨pa, 1, none⟩) hHeld.2.1).trans hHeld.2.2.2.2.1, (hb.cell (p := ⟨pb, 0, none⟩) hHeld.2.2.1).trans hHeld.2.2.2.2.2.1, (hb.cell (p := ⟨pb, 1, none⟩) hHeld.2.2.1).trans hHeld.2.2.2.2.2.2⟩) (fun hHeld => ?_)
            clear hK K
            try simp only [Act.put, List.getElem_toArray, List.getElem_cons_zero, List.getElem_cons_succ, List.setIfInBounds_toArray, List.set_cons_zero, List.set_cons_succ]
            refine wpAnyH_ready (rs := [6]) (by kernel_rfl) (by simp) ?_
            refine AllReadyH.cons rfl (fun K hK => ?_) AllReadyH.nil
            rw [if_pos (by rfl)]
            go_simp
            go_at_call 14
            rw [WT.out]
            refine (HBb.out _).mono ?_
            rintro e wn ⟨rfl, hb⟩
            refine hK.out _ _ (⟨bthen hHeld.1 hb, Nat.lt_of_lt_of_le hHeld.2.1 hb.size, Nat.lt_of_lt_of_le hHeld.2.2.1 hb.size, (hb.cell (p := ⟨pa, 0, none⟩) hHeld.2.1).trans hHeld.2.2.2.1, (hb.cell (p := ⟨pa, 1, none⟩) hHeld.2.1).trans hHeld.2.2.2.2.1, (hb.cell (p := ⟨pb, 0, none⟩) hHeld.2.2.1).trans hHeld.2.2.2.2.2.1, (hb.cell (p := ⟨pb, 1, none⟩) hHeld.2.2.1).trans hHeld.2.2.2.2.2.2⟩) (fun hHeld => ?_)
            clear hK K
            try simp only [Act.put, List.getElem_toArray, List.getElem_cons_zero, List.getElem_cons_succ, List.setIfInBounds_toArray, List.set_cons_zero, List.set_cons_succ]
            refine wpAnyH_take (i := 7) (v := ?v24) rfl (by kernel_rfl) (by kernel_rfl) (by kernel_rfl) (fun _ _ _ h => h) (Or.inl ⟨by rfl, ?y24⟩) (by assumption) ?r24
            case y24 => (intro w hSw; (go_simp <;> first | with_reducible rfl | (rw [if_pos (by omega)] <;> with_reducible rfl)))
            try simp only [Act.put, List.getElem_toArray, List.getElem_cons_zero, List.getElem_cons_succ, List.setIfInBounds_toArray, List.set_cons_zero, List.set_cons_succ]
            refine wpAnyH_done (by kernel_rfl) ?_ _
            obtain ⟨hX, za, zb, a0, a1, b0, b1⟩ := hHeld
            have T0' := (hX.cell (p := ⟨w.heap.size, 0, none⟩) zt').trans T0
            have T1' := (hX.cell (p := ⟨w.heap.size, 1, none⟩) zt').trans T1
            have zt2 := Nat.lt_of_lt_of_le zt' hX.size
            clear T0 T1 zt'
            have HX := Lib.hid (bthen HW.out hX)
            clear hX HW
            cases bit
            · go_wp2_with (first
                | (go_at_call 14; refine (HA.out _).mono ?_; rintro e w5 ⟨rfl, hb5⟩))
              go_roundw
              case rel => exact ⟨i + 1, by omega, by go_num, bthen HX.out hb5⟩
              case measure => simp [intOf]; omega
            · have HC' := Lib.hid (fun W => HC.out (by simp) rfl W)
              clear HC
              go_wp2_with (first
                | (go_at_call_of 14 (Value.int .u64 xa); refine (HA.out _).mono ?_; rintro e w5 ⟨rfl, hb5⟩; have T0 := (hb5.cell (p := ⟨w.heap.size, 0, none⟩) zt2).trans T0'; have T1 := (hb5.cell (p := ⟨w.heap.size, 1, none⟩) zt2).trans T1'; clear T0' T1')
                | (go_at_call 24; refine (OCi.out _).mono ?_; rintro e w6 ⟨rfl, hb6⟩)
                | (go_at_call_of 14 (Value.int .u64 xc); refine (HC'.out _).mono ?_; rintro e w7 ⟨rfl, hb7⟩))
              go_roundw
              case rel => exact ⟨i + 1, by omega, by go_num, bthen (bthen (bthen HX.out hb5) hb6) hb7⟩
              case measure => simp [intOf]; omega
          · obtain rfl : i = 81 := Nat.le_antisymm hi (Nat.not_lt.1 hlt)
            go_wp2
            go_ret
            exact ⟨rfl, bthen HBW.out HW.out⟩

set_option maxHeartbeats 4000000 in
theorem walk_15 (a b : Int) (q : Nat) (g2 : (Lit.int .u64 a).wf = true) (g3 : (Lit.int .u64 b).wf = true) (hq : q < 81) (w : World) (hT : Tab w) :
    Calls Tryd.prog 5 #[.int .i64 (15 : Int), .int .i64 (q : Int), .agg #[.int .u64 a, .int .u64 b]] w fun e w' => e = .returned (.bool true) ∧ Below w.heap.size w w' := by
  have hk : 1 ≤ (15 : Int) ∧ (15 : Int) ≤ 15 := by omega
  have H := Lib.hid (fun W => slides_true W)
  have R := Lib.hid (fun W => real4_any a b (bounds_u64 g2).1 (bounds_u64 g2).2 (bounds_u64 g3).1 (bounds_u64 g3).2 W)
  have s0 := realN_sq a b
  generalize realN a b = n at R s0
  have SQ := Lib.hid (fun (W : World) (hT : Tab W) (h : 1 ≤ W.heap.size) => squares_any n s0 W hT h)
  have HT := Lib.hid hT
  have S0 := Lib.hid s0
  clear g2 g3 hT s0
  generalize hx : loW n = xn at R SQ
  generalize hy : hiW n = yn at R SQ
  have HXN := Lib.hid hx
  have HYN := Lib.hid hy
  clear hx hy
  have hz := zero_set
  have hzb := build_set
  have b1 : ¬ (15 : Int) < 1 := by omega
  have b2 : ¬ 15 < (15 : Int) := by omega
  have b3 : ¬ (q : Int) < 0 := by omega
  have b4 : ¬ 80 < (q : Int) := by omega
  go_enter Tryd.func5, Tryd.ntmps5
  go_wp2_with (first
    | (go_at_call 17; refine (H.out _).mono ?_; rintro e w1 ⟨rfl, hb1⟩; obtain ⟨hc1, hf1⟩ := bcells hb1; have hz1 : w.heap.size < w1.heap.size := by (have := hb1.size; simp at this; omega))
    | (go_at_call 18; refine (R.out _).mono ?_; rintro e w2 ⟨rfl, hb2⟩; obtain ⟨hc2, hf2⟩ := bcells hb2; have hz2 : w.heap.size < w2.heap.size := by (have := hb2.size; omega))
    | (go_at_call 21; refine (SQ.out _ (HT.out.grow (ball (((bthen (bthen (ball (bref w) _) hb1) hb2).setCell (Nat.le_refl _) _).setCell (Nat.le_refl _) _) _)) (by simp)).mono ?_; rintro e w3 ⟨v, rfl, hO, hb3⟩))
  have B3 := Lib.hid (bthen (ball (((bthen (bthen (ball (bref w) _) hb1) hb2).setCell (Nat.le_refl w.heap.size) (p := ⟨w.heap.size, 0, none⟩) (.int .u64 xn)).setCell (Nat.le_refl w.heap.size) (p := ⟨w.heap.size, 1, none⟩) (.int .u64 yn)) (.cells #[.int .u64 0, .int .u64 0] 24)) hb3)
  have hl3 : w2.heap.size < w3.heap.size := by have := hb3.size; simp at this; omega
  have t0 : w3.cell? ⟨w.heap.size, 0, none⟩ = some (.int .u64 xn) := (hb3.cell (p := ⟨w.heap.size, 0, none⟩) (by simp; omega)).trans (by go_simp)
  have t1 : w3.cell? ⟨w.heap.size, 1, none⟩ = some (.int .u64 yn) := (hb3.cell (p := ⟨w.heap.size, 1, none⟩) (by simp; omega)).trans (by go_simp)
  have V7 : Var w3 w2.heap.size 0 0 := Var.grow ⟨by simp, by go_simp, by go_simp, by go_simp, by go_simp⟩ hb3
  have HO := Lib.hid (hO.mono (C := w2.heap.size + 1) (by simp)).parts
  have hne : w.heap.size < w2.heap.size := hz2
  have T0 := Lib.hid t0
  have T1 := Lib.hid t1
  have HV7 := Lib.hid V7
  have hlen := sqI_le n
  clear hO hb3 hb1 hb2 hc1 hf1 hz1 hc2 hf2 hz2 H R SQ HT hz hzb t0 t1 V7
  generalize w2.heap.size = bt at *
  have HREV := Lib.hid (fun i hi => rev_test n i hi)
  have hrl : revL n = (sqI n).map (fun x => 80 - x) := rfl
  have hrn : revN n = ofN (revL n) := rfl
  have HREVN := Lib.hid hrn.symm
  have HBG := Lib.hid (fun (g : Nat) (h : bt + 1 ≤ g) => (h : bt < g))
  have hin : ∀ x ∈ sqI n, 0 ≤ x ∧ x < 81 := by
    intro x hx
    unfold sqI at hx
    obtain ⟨i, hi, rfl⟩ := List.mem_map.1 hx
    have := ((mem_sqI n i).1 (List.mem_map.2 ⟨i, hi, rfl⟩)).1
    omega
  have HIN := Lib.hid hin
  clear hrn hin hrl
  obtain ⟨o, cap, rfl, hsl⟩ : ∃ o cap, v = .slice o (sqI n).length cap ∧ (∀ (j : Nat) (hj : j < (sqI n).length), ∃ g, o = some ⟨g, 0, none⟩ ∧ bt < g ∧ g < w3.heap.size ∧ w3.cell? ⟨g, 0 + j, none⟩ = some (.int .i64 (sqI n)[j])) := by
    rcases HO.out with ⟨rfl, hnil⟩ | ⟨g, cap, rfl, hg, hgl, hcells⟩
    · refine ⟨none, 0, by rw [hnil]; rfl, fun j hj => ?_⟩
      rw [hnil] at hj
      exact absurd hj (Nat.not_lt_zero _)
    · exact ⟨_, cap, rfl, fun j hj => ⟨g, rfl, HBG.out g hg, hgl, hcells j hj⟩⟩
  have HSL := Lib.hid hsl
  clear hsl HO HBG
  have hb3' := B3.out
  have t0 := T0.out
  have t1 := T1.out
  clear T0 T1
  go_wp2
  have hrun : Sem.run Tryd.prog (Builtin.len_ #[38] 3 #[.slice o (sqI n).length cap]) w3 = .ok (.int .i64 ((sqI n).length : Nat)) w3 := rfl
  rw [hrun]
  clear hrun
  go_wp2
  go_loopw [36] (fun i wd => ∃ j : Nat, j ≤ (sqI n).length ∧ i = .int .i64 j ∧ Below w.heap.size w wd ∧ Var wd bt (loW (ofN ((revL n).take j))) (hiW (ofN ((revL n).take j))) ∧ wd.cell? ⟨w.heap.size, 0, none⟩ = some (.int .u64 xn) ∧ wd.cell? ⟨w.heap.size, 1, none⟩ = some (.int .u64 yn) ∧ (∀ g p v, bt < g → g < w3.heap.size → w3.cell? ⟨g, p, none⟩ = some v → g < wd.heap.size ∧ wd.cell? ⟨g, p, none⟩ = some v)) (fun i _ => (sqI n).length - (intOf i).toNat)
  case atStart =>
    refine ⟨0, Nat.zero_le _, rfl, hb3', ?_, t0, t1, fun g p v _ h2 h3 => ⟨h2, h3⟩⟩
    rw [List.take_zero, show ofN [] = 0 from rfl, lo_zero, hi_zero]
    exact HV7.out
  case round =>
    rename World => wd
    obtain ⟨j, hj, rfl, hB, hV, t0, t1, hK⟩ := hrel
    have HB := Lib.hid hB
    have HV := Lib.hid hV
    have HKP := Lib.hid hK
    have hzm := hV.lt
    have hzt : w.heap.size < wd.heap.size := by omega
    clear hb3' hB hK
    by_cases hlt : j < (sqI n).length
    · obtain ⟨g, rfl, hg1, hg2, hg3⟩ := HSL.out j hlt
      obtain ⟨hg4, c1⟩ := HKP.out _ _ _ hg1 hg2 hg3
      have hgb : g ≠ bt := by omega
      have hrt : (revL n)[j]'(by simp [revL]; omega) = 80 - (sqI n)[j] := by simp [revL]
      have C := Lib.hid (fun W => with_any (ofN ((revL n).take j)) ((revL n)[j]'(by simp [revL]; omega)) (ofN_sq _) W)
      rw [← take_step (revL n) j (by simp [revL]; omega)] at C
      rw [hrt] at C
      obtain ⟨r0, r1⟩ := HIN.out _ (List.getElem_mem hlt)
      have l0 := hV.lo
      have l1 := hV.hi
      have l2 := hV.f0
      have l3 := hV.f1
      clear hV hg3 hrt
      generalize (sqI n)[j] = s at C c1 r0 r1
      obtain ⟨z, hzs⟩ : ∃ z, z = 80 - s := ⟨_, rfl⟩
      have W2 := Lib.hid (show wrap64 (80 - s) = z by rw [hzs]; unfold wrap64; omega)
      rw [← hzs] at C
      clear hzs
      generalize loW (ofN ((revL n).take j)) = x at C l0 HV
      generalize hiW (ofN ((revL n).take j)) = y at C l1 HV
      generalize hx : loW (ofN ((revL n).take (j + 1))) = x2 at C
      generalize hy : hiW (ofN ((revL n).take (j + 1))) = y2 at C
      have HX := Lib.hid hx
      have HY := Lib.hid hy
      clear hx hy HSL
      have HR01 := Lib.hid (And.intro r0 r1)
      clear r0 r1
      rw [Nat.zero_add] at c1
      go_wp2_with (first
        | (go_at_call 23; rw [W2.out]; refine (C.out _).mono ?_; rintro e w5 ⟨rfl, hb5⟩; obtain ⟨hc5, hf5⟩ := bcells hb5; have hz5 : wd.heap.size ≤ w5.heap.size := hb5.size))
      go_roundw
      case rel =>
        refine ⟨j + 1, by omega, by go_num, ?_, ?_, ?_, ?_, ?_⟩
        · exact ((HB.out.trans (hb5.mono HB.out.size)).setCell (by simp; omega) _).setCell (by simp; omega) _
        · rw [HX.out, HY.out]
          exact (HV.out.grow hb5).put _ _
        · go_simp
        · go_simp
        · intro g' p v h1 h2 h3
          obtain ⟨h4, h5⟩ := HKP.out g' p v h1 h2 h3
          have hne' : g' ≠ bt := by omega
          refine ⟨by simp; omega, ?_⟩
          go_simp
      case measure => simp [intOf]; omega
    · obtain rfl : j = (sqI n).length := by omega
      rw [List.take_of_length_le (by simp [revL]), HREVN.out] at hV
      have m0 := hV.lo
      have m1 := hV.hi
      clear hV HV HKP HSL HV7
      have OA := Lib.hid (fun W => rayOf_any (15 : Int) q n (by omega) (by omega) S0.out W)
      have OB := Lib.hid (fun W => rayOf_any ((31 : Int)) (80 - (q : Int)) (revN n) (by omega) (by omega) (ofN_sq _) W)
      have OC := Lib.hid (fun (i : Nat) W => rayOf_any (15 : Int) i n (by omega) (by omega) S0.out W)
      have HSA : Hid (∀ (i : Nat), i < 81 → ∀ W, Calls Tryd.prog 14 #[.agg #[.int .u64 (loW (rayN (15 : Int) q n)), .int .u64 (hiW (rayN (15 : Int) q n))], .int .i64 (i : Int)] W fun e w' => e = .returned (.bool ((rayN (15 : Int) q n).testBit i)) ∧ Below W.heap.size W w') := Lib.hid (fun i hi W => by
        have := has_any (rayN (15 : Int) q n) i (rayN_sq (15 : Int) q n) W
        rw [has_nat _ i hi] at this
        exact this)
      have HSB : Hid (∀ (i : Nat), i < 81 → ∀ W, Calls Tryd.prog 14 #[.agg #[.int .u64 (loW (rayN ((31 : Int)) (80 - (q : Int)) (revN n))), .int .u64 (hiW (rayN ((31 : Int)) (80 - (q : Int)) (revN n)))], .int .i64 (80 - (i : Int))] W fun e w' => e = .returned (.bool ((rayN (15 : Int) q n).testBit i)) ∧ Below W.heap.size W w') := Lib.hid (fun i hi W => by
        have := has_any (rayN ((31 : Int)) (80 - (q : Int)) (revN n)) ((80 - i : Nat) : Int) (rayN_sq _ _ _) W
        have rt : (rayN ((31 : Int)) (80 - (q : Int)) (revN n)).testBit (80 - i) = (rayN (15 : Int) q n).testBit i := ray_turn (15 : Int) hk q i hq hi n (revN n) (fun t ht => rev_test n t ht) (between_inside q i)
        rw [has_nat _ (80 - i) (by omega), rt, show ((80 - i : Nat) : Int) = 80 - (i : Int) by omega] at this
        exact this)
      have HSC : Hid (∀ (i : Nat), i < 81 → ((15 : Int) = 6 ∨ (15 : Int) = 7 ∨ (15 : Int) = 8 ∨ (15 : Int) = 14 ∨ (15 : Int) = 15) → (rayN (15 : Int) q n).testBit i = true → ∀ W, Calls Tryd.prog 14 #[.agg #[.int .u64 (loW (rayN (15 : Int) i n)), .int .u64 (hiW (rayN (15 : Int) i n))], .int .i64 (q : Int)] W fun e w' => e = .returned (.bool true) ∧ Below W.heap.size W w') := Lib.hid (fun i hi hk' hb W => by
        have := has_any (rayN (15 : Int) i n) q (rayN_sq _ _ _) W
        rw [has_nat _ q hq, ray_back (15 : Int) hk' q i hq hi n hb] at this
        exact this)
      rw [HXN.out, HYN.out] at OA OC
      generalize rayN (15 : Int) q n = ma at OA HSA HSB HSC
      generalize loW ma = xa at OA HSA
      generalize hiW ma = ya at OA HSA
      generalize loW (rayN ((31 : Int)) (80 - (q : Int)) (revN n)) = xb at OB HSB
      generalize hiW (rayN ((31 : Int)) (80 - (q : Int)) (revN n)) = yb at OB HSB
      generalize loW (revN n) = xm at OB m0
      generalize hiW (revN n) = ym at OB m1
      have W8 := Lib.hid (show IntKind.i8.wrap (15 : Int) = (15 : Int) from wrap_i8_eq _ (by omega) (by omega))
      have W16 := Lib.hid (show IntKind.i8.wrap ((31 : Int)) = (31 : Int) from wrap_i8_eq _ (by omega) (by omega))
      have WK := Lib.hid (show IntKind.i64.wrap ((31 : Int)) = (31 : Int) by rw [IntKind.wrap_i64]; omega)
      have WK2 := Lib.hid (show wrap64 ((31 : Int)) = (31 : Int) by unfold wrap64; omega)
      have WQ := Lib.hid (show IntKind.i64.wrap (80 - (q : Int)) = 80 - (q : Int) by rw [IntKind.wrap_i64]; omega)
      have WQ2 := Lib.hid (show wrap64 (80 - (q : Int)) = 80 - (q : Int) by unfold wrap64; omega)
      obtain ⟨NN, nn0, nn1⟩ : ∃ NN : Nat → Array Value, NN 0 = #[.int .u64 xa, .int .u64 ya] ∧ NN 1 = #[.int .u64 xb, .int .u64 yb] := ⟨fun j => if j = 0 then _ else _, rfl, rfl⟩
      go_wp2_with fail
      refine wp_region_any (by kernel_rfl) ?_
      change wpAny _ _ _ _ _ _ _ (World.drew _)
      refine wpAny_inv3 (fun a0 => a0.eval (.tmp 0) = .int .i64 (15 : Int) ∧ a0.eval (.tmp 1) = .int .i64 (q : Int) ∧ a0.eval (.tmp 5) = .pointer (some ⟨w.heap.size, 0, none⟩) ∧ a0.eval (.tmp 7) = .pointer (some ⟨bt, 0, none⟩) ∧ 80 < a0.tmps.size) ⟨rfl, rfl, rfl, rfl, of_decide_eq_true rfl⟩
        (fun a0 ls a w' => ls.size = 16 ∧ Below wd.heap.size wd w' ∧ ∃ g : Nat → Nat, Blgs 24 #[.int .u64 0, .int .u64 0] wd w' NN ls 12 14 2 g ∧ a = cput (ls.getD 13 false) 11 (.pointer (some ⟨g 1, 0, none⟩)) (cput (ls.getD 12 false) 10 (.pointer (some ⟨g 0, 0, none⟩)) (cput (ls.getD 11 false) 56 (.agg #[.int .u64 xb, .int .u64 yb]) (cput (ls.getD 10 false) 55 (.agg #[.int .u64 xm, .int .u64 ym]) (cput (ls.getD 9 false) 54 (.int .i64 (80 - (q : Int))) (cput (ls.getD 8 false) 53 (.int .i64 (q : Int)) (cput (ls.getD 7 false) 52 (.int .i8 ((31 : Int))) (cput (ls.getD 6 false) 51 (.int .i64 ((31 : Int))) (cput (ls.getD 5 false) 50 (.int .i64 (15 : Int)) (cput (ls.getD 4 false) 49 (.agg #[.int .u64 xa, .int .u64 ya]) (cput (ls.getD 3 false) 48 (.agg #[.int .u64 xn, .int .u64 yn]) (cput (ls.getD 2 false) 47 (.int .i64 (q : Int)) (cput (ls.getD 1 false) 46 (.int .i8 (15 : Int)) (cput (ls.getD 0 false) 45 (.int .i64 (15 : Int)) (a0))))))))))))))) ?step ?fin ?start (by decide)
      case start => exact ⟨rfl, (bref wd).drew, fun _ => 0, ⟨fun j hj h => absurd h (by (obtain rfl | rfl : j = 0 ∨ j = 1 := by omega) <;> decide), fun i j hi hj _ h => absurd h (by (obtain rfl | rfl : i = 0 ∨ i = 1 := by omega) <;> decide), fun j hj h => absurd h (by (obtain rfl | rfl : j = 0 ∨ j = 1 := by omega) <;> decide)⟩, rfl⟩
      case step =>
        rintro a0 ⟨e0, e1, e5, e7, esz⟩ ls a w' ⟨hl, hb, g, hK, ha⟩ i o ho hu hw
        have hu' := undone hu
        rcases i with _ | _ | _ | _ | _ | _ | _ | _ | _ | _ | _ | _ | _ | _ | _ | _ | i
        · have ho' : some _ = some o := ho
          cases ho'
          have E0 : a.eval (.tmp 0) = .int .i64 (15 : Int) := by rw [ha]; simp [eval_cput_ne, e0]
          refine wpOp_step ho (fun K hK' => ?_)
          rw [if_pos (by rfl)]
          refine wp_valueK (w' := w') (.int .i64 (15 : Int)) ?_ (hK' _ _ ⟨by simp [hl], hb, g, hK.other (bref w') 0 (by omega) (fun j hj => by omega) (fun j hj => by omega), by rw [ha]; simp [cput_put, getF, hl, hu', cput_at]⟩)
          exact congrArg (fun v => Result.ok (Next.value v) w') E0
        · have ho' : some _ = some o := ho
          cases ho'
          have d45 : ls.getD 0 false = true := hw ⟨0, .data⟩ (by simp) rfl
          have z45 : 45 < a0.tmps.size := by omega
          have E45 : a.eval (.tmp 45) = .int .i64 (15 : Int) := by rw [ha]; simp [eval_cput_ne, d45, eval_cput_at, size_cput, z45]
          refine wpOp_step ho (fun K hK' => ?_)
          rw [if_pos (by rfl)]
          refine wp_valueK (w' := w') (.int .i8 (15 : Int)) ?_ (hK' _ _ ⟨by simp [hl], hb, g, hK.other (bref w') 1 (by omega) (fun j hj => by omega) (fun j hj => by omega), by rw [ha]; simp [cput_put, getF, hl, hu', cput_at]⟩)
          clear ha
          have w1 : IntKind.i8.wrap (15 : Int) = (15 : Int) := W8.out
          have EE : a.tmps[45]?.getD undef = .int .i64 (15 : Int) := by first | exact E45 | simpa [Act.eval] using E45
          go_simp
          all_goals first | (rw [EE]; go_simp; done) | decide | rfl
        · have ho' : some _ = some o := ho
          cases ho'
          have E1 : a.eval (.tmp 1) = .int .i64 (q : Int) := by rw [ha]; simp [eval_cput_ne, e1]
          refine wpOp_step ho (fun K hK' => ?_)
          rw [if_pos (by rfl)]
          refine wp_valueK (w' := w') (.int .i64 (q : Int)) ?_ (hK' _ _ ⟨by simp [hl], hb, g, hK.other (bref w') 2 (by omega) (fun j hj => by omega) (fun j hj => by omega), by rw [ha]; simp [cput_put, getF, hl, hu', cput_at]⟩)
          exact congrArg (fun v => Result.ok (Next.value v) w') E1
        · have ho' : some _ = some o := ho
          cases ho'
          have E5 : a.eval (.tmp 5) = .pointer (some ⟨w.heap.size, 0, none⟩) := by rw [ha]; simp [eval_cput_ne, e5]
          refine wpOp_step ho (fun K hK' => ?_)
          rw [if_pos (by rfl)]
          refine wp_load_mid _ _ rfl (w.heap.size) 0 E5 [.int .u64 xn, .int .u64 yn] _ (range2 ((hb.cell (p := ⟨w.heap.size, 0, none⟩) hzt).trans t0) ((hb.cell (p := ⟨w.heap.size, 1, none⟩) hzt).trans t1)) Tryd.underlying24 rfl infoSet2 ?_
          exact hK' _ _ ⟨by simp [hl], hb, g, hK.other (bref w') 3 (by omega) (fun j hj => by omega) (fun j hj => by omega), by rw [ha]; simp [cput_put, getF, hl, hu', cput_at]⟩
        · have ho' : some _ = some o := ho
          cases ho'
          have d46 : ls.getD 1 false = true := hw ⟨1, .data⟩ (by simp) rfl
          have z46 : 46 < a0.tmps.size := by omega
          have E46 : a.eval (.tmp 46) = .int .i8 (15 : Int) := by rw [ha]; simp [eval_cput_ne, d46, eval_cput_at, size_cput, z46]
          have d47 : ls.getD 2 false = true := hw ⟨2, .data⟩ (by simp) rfl
          have z47 : 47 < a0.tmps.size := by omega
          have E47 : a.eval (.tmp 47) = .int .i64 (q : Int) := by rw [ha]; simp [eval_cput_ne, d47, eval_cput_at, size_cput, z47]
          have d48 : ls.getD 3 false = true := hw ⟨3, .data⟩ (by simp) rfl
          have z48 : 48 < a0.tmps.size := by omega
          have E48 : a.eval (.tmp 48) = .agg #[.int .u64 xn, .int .u64 yn] := by rw [ha]; simp [eval_cput_ne, d48, eval_cput_at, size_cput, z48]
          refine wpOp_step ho (fun K hK' => ?_)
          rw [if_pos (by rfl)]
          refine wp_callK 24 #[a.eval (.tmp 46), a.eval (.tmp 47), a.eval (.tmp 48)] ?_ ?_
          · clear ha E46 E47 E48
            go_simp
          · rw [E46, E47, E48]
            refine (OA.out _).mono ?_
            rintro e w2 ⟨rfl, hb2⟩
            exact ⟨_, rfl, hK' _ _ ⟨by simp [hl], bthen hb hb2, g, hK.other hb2 4 (by omega) (fun j hj => by omega) (fun j hj => by omega), by rw [ha]; simp [cput_put, getF, hl, hu', cput_at]⟩⟩
        · have ho' : some _ = some o := ho
          cases ho'
          have E0 : a.eval (.tmp 0) = .int .i64 (15 : Int) := by rw [ha]; simp [eval_cput_ne, e0]
          refine wpOp_step ho (fun K hK' => ?_)
          rw [if_pos (by rfl)]
          refine wp_valueK (w' := w') (.int .i64 (15 : Int)) ?_ (hK' _ _ ⟨by simp [hl], hb, g, hK.other (bref w') 5 (by omega) (fun j hj => by omega) (fun j hj => by omega), by rw [ha]; simp [cput_put, getF, hl, hu', cput_at]⟩)
          exact congrArg (fun v => Result.ok (Next.value v) w') E0
        · have ho' : some _ = some o := ho
          cases ho'
          have d50 : ls.getD 5 false = true := hw ⟨5, .data⟩ (by simp) rfl
          have z50 : 50 < a0.tmps.size := by omega
          have E50 : a.eval (.tmp 50) = .int .i64 (15 : Int) := by rw [ha]; simp [eval_cput_ne, d50, eval_cput_at, size_cput, z50]
          refine wpOp_step ho (fun K hK' => ?_)
          rw [if_pos (by rfl)]
          refine wp_valueK (w' := w') (.int .i64 ((31 : Int))) ?_ (hK' _ _ ⟨by simp [hl], hb, g, hK.other (bref w') 6 (by omega) (fun j hj => by omega) (fun j hj => by omega), by rw [ha]; simp [cput_put, getF, hl, hu', cput_at]⟩)
          clear ha
          have w1 : IntKind.i64.wrap ((31 : Int)) = (31 : Int) := WK.out
          have w2 : wrap64 ((31 : Int)) = (31 : Int) := WK2.out
          have EE : a.tmps[50]?.getD undef = .int .i64 (15 : Int) := by first | exact E50 | simpa [Act.eval] using E50
          go_simp
          all_goals first | (rw [EE]; go_simp; done) | decide | rfl
        · have ho' : some _ = some o := ho
          cases ho'
          have d51 : ls.getD 6 false = true := hw ⟨6, .data⟩ (by simp) rfl
          have z51 : 51 < a0.tmps.size := by omega
          have E51 : a.eval (.tmp 51) = .int .i64 ((31 : Int)) := by rw [ha]; simp [eval_cput_ne, d51, eval_cput_at, size_cput, z51]
          refine wpOp_step ho (fun K hK' => ?_)
          rw [if_pos (by rfl)]
          refine wp_valueK (w' := w') (.int .i8 ((31 : Int))) ?_ (hK' _ _ ⟨by simp [hl], hb, g, hK.other (bref w') 7 (by omega) (fun j hj => by omega) (fun j hj => by omega), by rw [ha]; simp [cput_put, getF, hl, hu', cput_at]⟩)
          clear ha
          have w1 : IntKind.i8.wrap ((31 : Int)) = (31 : Int) := W16.out
          have EE : a.tmps[51]?.getD undef = .int .i64 ((31 : Int)) := by first | exact E51 | simpa [Act.eval] using E51
          go_simp
          all_goals first | (rw [EE]; go_simp; done) | decide | rfl
        · have ho' : some _ = some o := ho
          cases ho'
          have E1 : a.eval (.tmp 1) = .int .i64 (q : Int) := by rw [ha]; simp [eval_cput_ne, e1]
          refine wpOp_step ho (fun K hK' => ?_)
          rw [if_pos (by rfl)]
          refine wp_valueK (w' := w') (.int .i64 (q : Int)) ?_ (hK' _ _ ⟨by simp [hl], hb, g, hK.other (bref w') 8 (by omega) (fun j hj => by omega) (fun j hj => by omega), by rw [ha]; simp [cput_put, getF, hl, hu', cput_at]⟩)
          exact congrArg (fun v => Result.ok (Next.value v) w') E1
        · have ho' : some _ = some o := ho
          cases ho'
          have d53 : ls.getD 8 false = true := hw ⟨8, .data⟩ (by simp) rfl
          have z53 : 53 < a0.tmps.size := by omega
          have E53 : a.eval (.tmp 53) = .int .i64 (q : Int) := by rw [ha]; simp [eval_cput_ne, d53, eval_cput_at, size_cput, z53]
          refine wpOp_step ho (fun K hK' => ?_)
          rw [if_pos (by rfl)]
          refine wp_valueK (w' := w') (.int .i64 (80 - (q : Int))) ?_ (hK' _ _ ⟨by simp [hl], hb, g, hK.other (bref w') 9 (by omega) (fun j hj => by omega) (fun j hj => by omega), by rw [ha]; simp [cput_put, getF, hl, hu', cput_at]⟩)
          clear ha
          have w1 : IntKind.i64.wrap (80 - (q : Int)) = 80 - (q : Int) := WQ.out
          have w2 : wrap64 (80 - (q : Int)) = 80 - (q : Int) := WQ2.out
          have EE : a.tmps[53]?.getD undef = .int .i64 (q : Int) := by first | exact E53 | simpa [Act.eval] using E53
          go_simp
          all_goals first | (rw [EE]; go_simp; done) | decide | rfl
        · have ho' : some _ = some o := ho
          cases ho'
          have E7 : a.eval (.tmp 7) = .pointer (some ⟨bt, 0, none⟩) := by rw [ha]; simp [eval_cput_ne, e7]
          refine wpOp_step ho (fun K hK' => ?_)
          rw [if_pos (by rfl)]
          refine wp_load_mid _ _ rfl (bt) 0 E7 [.int .u64 xm, .int .u64 ym] _ (range2 ((hb.cell (p := ⟨bt, 0, none⟩) hzm).trans m0) ((hb.cell (p := ⟨bt, 1, none⟩) hzm).trans m1)) Tryd.underlying24 rfl infoSet2 ?_
          exact hK' _ _ ⟨by simp [hl], hb, g, hK.other (bref w') 10 (by omega) (fun j hj => by omega) (fun j hj => by omega), by rw [ha]; simp [cput_put, getF, hl, hu', cput_at]⟩
        · have ho' : some _ = some o := ho
          cases ho'
          have d52 : ls.getD 7 false = true := hw ⟨7, .data⟩ (by simp) rfl
          have z52 : 52 < a0.tmps.size := by omega
          have E52 : a.eval (.tmp 52) = .int .i8 ((31 : Int)) := by rw [ha]; simp [eval_cput_ne, d52, eval_cput_at, size_cput, z52]
          have d54 : ls.getD 9 false = true := hw ⟨9, .data⟩ (by simp) rfl
          have z54 : 54 < a0.tmps.size := by omega
          have E54 : a.eval (.tmp 54) = .int .i64 (80 - (q : Int)) := by rw [ha]; simp [eval_cput_ne, d54, eval_cput_at, size_cput, z54]
          have d55 : ls.getD 10 false = true := hw ⟨10, .data⟩ (by simp) rfl
          have z55 : 55 < a0.tmps.size := by omega
          have E55 : a.eval (.tmp 55) = .agg #[.int .u64 xm, .int .u64 ym] := by rw [ha]; simp [eval_cput_ne, d55, eval_cput_at, size_cput, z55]
          refine wpOp_step ho (fun K hK' => ?_)
          rw [if_pos (by rfl)]
          refine wp_callK 24 #[a.eval (.tmp 52), a.eval (.tmp 54), a.eval (.tmp 55)] ?_ ?_
          · clear ha E52 E54 E55
            go_simp
          · rw [E52, E54, E55]
            refine (OB.out _).mono ?_
            rintro e w2 ⟨rfl, hb2⟩
            exact ⟨_, rfl, hK' _ _ ⟨by simp [hl], bthen hb hb2, g, hK.other hb2 11 (by omega) (fun j hj => by omega) (fun j hj => by omega), by rw [ha]; simp [cput_put, getF, hl, hu', cput_at]⟩⟩
        · have ho' : some _ = some o := ho
          cases ho'
          refine wpOp_step ho (fun K hK' => ?_)
          rw [if_pos (by rfl)]
          refine wp_valueK (w' := w'.alloc (.cells #[.int .u64 0, .int .u64 0] 24)) (.pointer (some ⟨w'.heap.size, 0, none⟩)) ?_ ?_
          · have hz := zero_set
            clear ha
            go_simp
          · exact hK' _ _ ⟨by simp [hl], ball hb _, _, hK.laid hb 0 (by omega) (by omega) hu' (by omega), by rw [ha]; simp [cput_put, getF, hl, hu', cput_at]⟩
        · have ho' : some _ = some o := ho
          cases ho'
          refine wpOp_step ho (fun K hK' => ?_)
          rw [if_pos (by rfl)]
          refine wp_valueK (w' := w'.alloc (.cells #[.int .u64 0, .int .u64 0] 24)) (.pointer (some ⟨w'.heap.size, 0, none⟩)) ?_ ?_
          · have hz := zero_set
            clear ha
            go_simp
          · exact hK' _ _ ⟨by simp [hl], ball hb _, _, hK.laid hb 1 (by omega) (by omega) hu' (by omega), by rw [ha]; simp [cput_put, getF, hl, hu', cput_at]⟩
        · have ho' : some _ = some o := ho
          cases ho'
          have d10 : ls.getD 12 false = true := hw ⟨12, .data⟩ (by simp) rfl
          have z10 : 10 < a0.tmps.size := by omega
          have E10 : a.eval (.tmp 10) = .pointer (some ⟨g 0, 0, none⟩) := by rw [ha]; simp [eval_cput_ne, d10, eval_cput_at, size_cput, z10]
          have d49 : ls.getD 4 false = true := hw ⟨4, .data⟩ (by simp) rfl
          have z49 : 49 < a0.tmps.size := by omega
          have E49 : a.eval (.tmp 49) = .agg #[.int .u64 xa, .int .u64 ya] := by rw [ha]; simp [eval_cput_ne, d49, eval_cput_at, size_cput, z49]
          refine wpOp_step ho (fun K hK' => ?_)
          rw [if_pos (by rfl)]
          have hB := hK.blk 0 (by omega) d10
          rw [show ls.getD (14 + 0) false = false from hu', if_neg (by decide)] at hB
          have gg : ∀ j, j ≠ 14 → (ls.setIfInBounds 14 true).getD j false = ls.getD j false := fun j hj => (getF (by omega : 14 < ls.size)).trans (if_neg (Ne.symm hj))
          have hF := hK.filled 0 (by omega) (by omega) d10 (by omega)
          rw [nn0] at hF
          refine wp_store_row 24 _ _ rfl (g 0) (#[.int .u64 xa, .int .u64 ya]) E10 E49 24 #[.int .u64 0, .int .u64 0] hB.row infoSet2 rfl (by simp [Value.oneCell']) ?_
          refine hK' _ _ ⟨by simp [hl], below_setRow hb hB.le _, g, hF, ?_⟩
          rw [gg 13 (by decide), gg 12 (by decide), gg 11 (by decide), gg 10 (by decide), gg 9 (by decide), gg 8 (by decide), gg 7 (by decide), gg 6 (by decide), gg 5 (by decide), gg 4 (by decide), gg 3 (by decide), gg 2 (by decide), gg 1 (by decide), gg 0 (by decide), ha]
          rfl
        · have ho' : some _ = some o := ho
          cases ho'
          have d11 : ls.getD 13 false = true := hw ⟨13, .data⟩ (by simp) rfl
          have z11 : 11 < a0.tmps.size := by omega
          have E11 : a.eval (.tmp 11) = .pointer (some ⟨g 1, 0, none⟩) := by rw [ha]; simp [eval_cput_ne, d11, eval_cput_at, size_cput, z11]
          have d56 : ls.getD 11 false = true := hw ⟨11, .data⟩ (by simp) rfl
          have z56 : 56 < a0.tmps.size := by omega
          have E56 : a.eval (.tmp 56) = .agg #[.int .u64 xb, .int .u64 yb] := by rw [ha]; simp [eval_cput_ne, d56, eval_cput_at, size_cput, z56]
          refine wpOp_step ho (fun K hK' => ?_)
          rw [if_pos (by rfl)]
          have hB := hK.blk 1 (by omega) d11
          rw [show ls.getD (14 + 1) false = false from hu', if_neg (by decide)] at hB
          have gg : ∀ j, j ≠ 15 → (ls.setIfInBounds 15 true).getD j false = ls.getD j false := fun j hj => (getF (by omega : 15 < ls.size)).trans (if_neg (Ne.symm hj))
          have hF := hK.filled 1 (by omega) (by omega) d11 (by omega)
          rw [nn1] at hF
          refine wp_store_row 24 _ _ rfl (g 1) (#[.int .u64 xb, .int .u64 yb]) E11 E56 24 #[.int .u64 0, .int .u64 0] hB.row infoSet2 rfl (by simp [Value.oneCell']) ?_
          refine hK' _ _ ⟨by simp [hl], below_setRow hb hB.le _, g, hF, ?_⟩
          rw [gg 13 (by decide), gg 12 (by decide), gg 11 (by decide), gg 10 (by decide), gg 9 (by decide), gg 8 (by decide), gg 7 (by decide), gg 6 (by decide), gg 5 (by decide), gg 4 (by decide), gg 3 (by decide), gg 2 (by decide), gg 1 (by decide), gg 0 (by decide), ha]
          rfl
        · cases ho
      case fin =>
        rintro ls a w' ⟨hl, hb, g, hK, ha⟩ hr
        have d : ∀ i, i < 16 → ls.getD i false = true := all_doneB hr (by kernel_rfl) (by rw [hl]; rfl)
        have K0 := hK.blk 0 (by omega) (d 12 (by decide))
        rw [show ls.getD (14 + 0) false = true from d 14 (by decide), if_pos rfl, nn0] at K0
        have K1 := hK.blk 1 (by omega) (d 13 (by decide))
        rw [show ls.getD (14 + 1) false = true from d 15 (by decide), if_pos rfl, nn1] at K1
        rw [d 13 (by decide), d 12 (by decide), d 11 (by decide), d 10 (by decide), d 9 (by decide), d 8 (by decide), d 7 (by decide), d 6 (by decide), d 5 (by decide), d 4 (by decide), d 3 (by decide), d 2 (by decide), d 1 (by decide), d 0 (by decide)] at ha
        subst ha
        simp only [cput, if_true, Act.put, List.setIfInBounds_toArray, List.set_cons_zero, List.set_cons_succ]
        clear d hr hl hK
        have za := K0.lt
        have zb := K1.lt
        have ra := K0.row
        have rb := K1.row
        generalize g 0 = pa at *
        generalize g 1 = pb at *
        have a0 : w'.cell? ⟨pa, 0, none⟩ = some (.int .u64 xa) := row_cell0 ra
        have a1 : w'.cell? ⟨pa, 1, none⟩ = some (.int .u64 ya) := row_cell1 ra
        have b0 : w'.cell? ⟨pb, 0, none⟩ = some (.int .u64 xb) := row_cell0 rb
        have b1 : w'.cell? ⟨pb, 1, none⟩ = some (.int .u64 yb) := row_cell1 rb
        have t0' : w'.cell? ⟨w.heap.size, 0, none⟩ = some (.int .u64 xn) := (hb.cell (p := ⟨w.heap.size, 0, none⟩) hzt).trans t0
        have t1' : w'.cell? ⟨w.heap.size, 1, none⟩ = some (.int .u64 yn) := (hb.cell (p := ⟨w.heap.size, 1, none⟩) hzt).trans t1
        have zt : w.heap.size < w'.heap.size := Nat.lt_of_lt_of_le hzt hb.size
        have HBW := Lib.hid (bthen HB.out hb)
        clear K0 K1 ra rb t0 t1 m0 m1 hb HB nn0 nn1 OA OB hzm hzt
        go_wp2_with fail
        go_loopw [12] (fun i wr => ∃ m : Nat, m ≤ 81 ∧ i = .int .i64 m ∧ Below w'.heap.size w' wr) (fun i _ => 81 - (intOf i).toNat)
        case atStart => exact ⟨0, Nat.zero_le _, rfl, bref _⟩
        case round =>
          obtain ⟨i, hi, rfl, hW⟩ := hrel
          have A0 := (hW.cell (p := ⟨pa, 0, none⟩) za).trans a0
          have A1 := (hW.cell (p := ⟨pa, 1, none⟩) za).trans a1
          have B0 := (hW.cell (p := ⟨pb, 0, none⟩) zb).trans b0
          have B1 := (hW.cell (p := ⟨pb, 1, none⟩) zb).trans b1
          have T0 := (hW.cell (p := ⟨w.heap.size, 0, none⟩) zt).trans t0'
          have T1 := (hW.cell (p := ⟨w.heap.size, 1, none⟩) zt).trans t1'
          have za' := Nat.lt_of_lt_of_le za hW.size
          have zb' := Nat.lt_of_lt_of_le zb hW.size
          have zt' := Nat.lt_of_lt_of_le zt hW.size
          clear a0 a1 b0 b1 t0' t1' za zb zt
          have HW := Lib.hid hW
          clear hW
          have a0 := A0
          have a1 := A1
          have b0 := B0
          have b1 := B1
          have za := za'
          have zb := zb'
          clear A0 A1 B0 B1 za' zb'
          by_cases hlt : i < 81
          · have HA := Lib.hid (fun W => HSA.out i hlt W)
            have HBb := Lib.hid (fun W => HSB.out i hlt W)
            have HC := Lib.hid (fun h1 h2 W => HSC.out i hlt h1 h2 W)
            have OCi := Lib.hid (fun W => OC.out i W)
            generalize loW (rayN (15 : Int) i n) = xc at HC OCi
            generalize hiW (rayN (15 : Int) i n) = yc at HC OCi
            generalize ma.testBit i = bit at HA HBb HC
            have WT := Lib.hid (show IntKind.i64.wrap (80 - (i : Int)) = 80 - (i : Int) by rw [IntKind.wrap_i64]; omega)
            clear HSA HSB HSC OC
            go_wp2_with fail
            refine wp_region_held_drew (S := fun w' => Below wr.heap.size wr w' ∧ pa < w'.heap.size ∧ pb < w'.heap.size ∧ w'.cell? ⟨pa, 0, none⟩ = some (.int .u64 xa) ∧ w'.cell? ⟨pa, 1, none⟩ = some (.int .u64 ya) ∧ w'.cell? ⟨pb, 0, none⟩ = some (.int .u64 xb) ∧ w'.cell? ⟨pb, 1, none⟩ = some (.int .u64 yb)) (by kernel_rfl) ?_ (fun hHeld => ?_)
            · exact ⟨(bref wr).drew, za, zb, a0, a1, b0, b1⟩
            refine wpAnyH_take (i := 0) (v := ?v25) rfl (by kernel_rfl) (by kernel_rfl) (by kernel_rfl) (fun _ _ _ h => h) (Or.inl ⟨by rfl, ?y25⟩) (by assumption) ?r25
            case y25 => (intro w hSw; (go_simp <;> first | with_reducible rfl | (rw [if_pos (by omega)] <;> with_reducible rfl)))
            try simp only [Act.put, List.getElem_toArray, List.getElem_cons_zero, List.getElem_cons_succ, List.setIfInBounds_toArray, List.set_cons_zero, List.set_cons_succ]
            refine wpAnyH_take (i := 1) (v := ?v26) rfl (by kernel_rfl) (by kernel_rfl) (by kernel_rfl) (fun _ _ _ h => h) (Or.inl ⟨by rfl, ?y26⟩) (by assumption) ?r26
            case y26 => (intro w hSw; (go_simp <;> first | with_reducible rfl | (rw [if_pos (by omega)] <;> with_reducible rfl)))
            try simp only [Act.put, List.getElem_toArray, List.getElem_cons_zero, List.getElem_cons_succ, List.setIfInBounds_toArray, List.set_cons_zero, List.set_cons_succ]
            refine wpAnyH_take (i := 3) (v := ?v27) rfl (by kernel_rfl) (by kernel_rfl) (by kernel_rfl) (fun _ _ _ h => h) (Or.inl ⟨by rfl, ?y27⟩) (by assumption) ?r27
            case y27 => (intro w hSw; (go_simp <;> first | with_reducible rfl | (rw [if_pos (by omega)] <;> with_reducible rfl)))
            try simp only [Act.put, List.getElem_toArray, List.getElem_cons_zero, List.getElem_cons_succ, List.setIfInBounds_toArray, List.set_cons_zero, List.set_cons_succ]
            refine wpAnyH_take (i := 4) (v := ?v28) rfl (by kernel_rfl) (by kernel_rfl) (by kernel_rfl) (fun _ _ _ h => h) (Or.inl ⟨by rfl, ?y28⟩) (by assumption) ?r28
            case y28 => (intro w hSw; (go_simp <;> first | with_reducible rfl | (rw [if_pos (by omega)] <;> with_reducible rfl)))
            try simp only [Act.put, List.getElem_toArray, List.getElem_cons_zero, List.getElem_cons_succ, List.setIfInBounds_toArray, List.set_cons_zero, List.set_cons_succ]
            refine wpAnyH_take (i := 5) (v := ?v29) rfl (by kernel_rfl) (by kernel_rfl) (by kernel_rfl) (fun _ _ _ h => h) (Or.inl ⟨by rfl, ?y29⟩) (by assumption) ?r29
            case y29 => (intro w hSw; (go_simp <;> first | with_reducible rfl | (rw [if_pos (by omega)] <;> with_reducible rfl)))
            try simp only [Act.put, List.getElem_toArray, List.getElem_cons_zero, List.getElem_cons_succ, List.setIfInBounds_toArray, List.set_cons_zero, List.set_cons_succ]
            refine wpAnyH_ready (rs := [2]) (by kernel_rfl) (by simp) ?_
            refine AllReadyH.cons rfl (fun K hK => ?_) AllReadyH.nil
            rw [if_pos (by rfl)]
            go_simp
            go_at_call 14
            refine (HA.out _).mono ?_
            rintro e wn ⟨rfl, hb⟩
            refine hK.out _ _ (⟨bthen hHeld.1 hb, Nat.lt_of_lt_of_le hHeld.2.1 hb.size, Nat.lt_of_lt_of_le hHeld.2.2.1 hb.size, (hb.cell (p := ⟨pa, 0, none⟩) hHeld.2.1).trans hHeld.2.2.2.1, (hb.cell (p := ⟨pa, 1, none⟩) hHeld.2.1).trans hHeld.2.2.2.2.1, (hb.cell (p := ⟨pb, 0, none⟩) hHeld.2.2.1).trans hHeld.2.2.2.2.2.1, (hb.cell (p := ⟨pb, 1, none⟩) hHeld.2.2.1).trans hHeld.2.2.2.2.2.2⟩) (fun hHeld => ?_)
            clear hK K
            try simp only [Act.put, List.getElem_toArray, List.getElem_cons_zero, List.getElem_cons_succ, List.setIfInBounds_toArray, List.set_cons_zero, List.set_cons_succ]
            refine wpAnyH_ready (rs := [6]) (by kernel_rfl) (by simp) ?_
            refine AllReadyH.cons rfl (fun K hK => ?_) AllReadyH.nil
            rw [if_pos (by rfl)]
            go_simp
            go_at_call 14
            rw [WT.out]
            refine (HBb.out _).mono ?_
            rintro e wn ⟨rfl, hb⟩
            refine hK.out _ _ (⟨bthen hHeld.1 hb, Nat.lt_of_lt_of_le hHeld.2.1 hb.size, Nat.lt_of_lt_of_le hHeld.2.2.1 hb.size, (hb.cell (p := ⟨pa, 0, none⟩) hHeld.2.1).trans hHeld.2.2.2.1, (hb.cell (p := ⟨pa, 1, none⟩) hHeld.2.1).trans hHeld.2.2.2.2.1, (hb.cell (p := ⟨pb, 0, none⟩) hHeld.2.2.1).trans hHeld.2.2.2.2.2.1, (hb.cell (p := ⟨pb, 1, none⟩) hHeld.2.2.1).trans hHeld.2.2.2.2.2.2⟩) (fun hHeld => ?_)
            clear hK K
            try simp only [Act.put, List.getElem_toArray, List.getElem_cons_zero, List.getElem_cons_succ, List.setIfInBounds_toArray, List.set_cons_zero, List.set_cons_succ]
            refine wpAnyH_take (i := 7) (v := ?v30) rfl (by kernel_rfl) (by kernel_rfl) (by kernel_rfl) (fun _ _ _ h => h) (Or.inl ⟨by rfl, ?y30⟩) (by assumption) ?r30
            case y30 => (intro w hSw; (go_simp <;> first | with_reducible rfl | (rw [if_pos (by omega)] <;> with_reducible rfl)))
            try simp only [Act.put, List.getElem_toArray, List.getElem_cons_zero, List.getElem_cons_succ, List.setIfInBounds_toArray, List.set_cons_zero, List.set_cons_succ]
            refine wpAnyH_done (by kernel_rfl) ?_ _
            obtain ⟨hX, za, zb, a0, a1, b0, b1⟩ := hHeld
            have T0' := (hX.cell (p := ⟨w.heap.size, 0, none⟩) zt').trans T0
            have T1' := (hX.cell (p := ⟨w.heap.size, 1, none⟩) zt').trans T1
            have zt2 := Nat.lt_of_lt_of_le zt' hX.size
            clear T0 T1 zt'
            have HX := Lib.hid (bthen HW.out hX)
            clear hX HW
            cases bit
            · go_wp2_with (first
                | (go_at_call 14; refine (HA.out _).mono ?_; rintro e w5 ⟨rfl, hb5⟩))
              go_roundw
              case rel => exact ⟨i + 1, by omega, by go_num, bthen HX.out hb5⟩
              case measure => simp [intOf]; omega
            · have HC' := Lib.hid (fun W => HC.out (by simp) rfl W)
              clear HC
              go_wp2_with (first
                | (go_at_call_of 14 (Value.int .u64 xa); refine (HA.out _).mono ?_; rintro e w5 ⟨rfl, hb5⟩; have T0 := (hb5.cell (p := ⟨w.heap.size, 0, none⟩) zt2).trans T0'; have T1 := (hb5.cell (p := ⟨w.heap.size, 1, none⟩) zt2).trans T1'; clear T0' T1')
                | (go_at_call 24; refine (OCi.out _).mono ?_; rintro e w6 ⟨rfl, hb6⟩)
                | (go_at_call_of 14 (Value.int .u64 xc); refine (HC'.out _).mono ?_; rintro e w7 ⟨rfl, hb7⟩))
              go_roundw
              case rel => exact ⟨i + 1, by omega, by go_num, bthen (bthen (bthen HX.out hb5) hb6) hb7⟩
              case measure => simp [intOf]; omega
          · obtain rfl : i = 81 := Nat.le_antisymm hi (Nat.not_lt.1 hlt)
            go_wp2
            go_ret
            exact ⟨rfl, bthen HBW.out HW.out⟩

set_option maxHeartbeats 4000000 in
theorem walk_none (k a b : Int) (q : Nat) (g2 : (Lit.int .u64 a).wf = true) (g3 : (Lit.int .u64 b).wf = true) (hk : 1 ≤ k ∧ k ≤ 15) (hq : q < 81) (hno : ¬ k = 6 ∧ ¬ k = 7 ∧ ¬ k = 8 ∧ ¬ 13 < k) (w : World) (hT : Tab w) :
    Calls Tryd.prog 5 #[.int .i64 k, .int .i64 (q : Int), .agg #[.int .u64 a, .int .u64 b]] w fun e w' => e = .returned (.bool true) ∧ Below w.heap.size w w' := by
  have HNO := Lib.hid hno
  clear hno
  have H := Lib.hid (fun W => slides_true W)
  have R := Lib.hid (fun W => real4_any a b (bounds_u64 g2).1 (bounds_u64 g2).2 (bounds_u64 g3).1 (bounds_u64 g3).2 W)
  have s0 := realN_sq a b
  generalize realN a b = n at R s0
  have SQ := Lib.hid (fun (W : World) (hT : Tab W) (h : 1 ≤ W.heap.size) => squares_any n s0 W hT h)
  have HT := Lib.hid hT
  have S0 := Lib.hid s0
  clear g2 g3 hT s0
  generalize hx : loW n = xn at R SQ
  generalize hy : hiW n = yn at R SQ
  have HXN := Lib.hid hx
  have HYN := Lib.hid hy
  clear hx hy
  have hz := zero_set
  have hzb := build_set
  have b1 : ¬ k < 1 := by omega
  have b2 : ¬ 15 < k := by omega
  have b3 : ¬ (q : Int) < 0 := by omega
  have b4 : ¬ 80 < (q : Int) := by omega
  go_enter Tryd.func5, Tryd.ntmps5
  go_wp2_with (first
    | (go_at_call 17; refine (H.out _).mono ?_; rintro e w1 ⟨rfl, hb1⟩; obtain ⟨hc1, hf1⟩ := bcells hb1; have hz1 : w.heap.size < w1.heap.size := by (have := hb1.size; simp at this; omega))
    | (go_at_call 18; refine (R.out _).mono ?_; rintro e w2 ⟨rfl, hb2⟩; obtain ⟨hc2, hf2⟩ := bcells hb2; have hz2 : w.heap.size < w2.heap.size := by (have := hb2.size; omega))
    | (go_at_call 21; refine (SQ.out _ (HT.out.grow (ball (((bthen (bthen (ball (bref w) _) hb1) hb2).setCell (Nat.le_refl _) _).setCell (Nat.le_refl _) _) _)) (by simp)).mono ?_; rintro e w3 ⟨v, rfl, hO, hb3⟩))
  have B3 := Lib.hid (bthen (ball (((bthen (bthen (ball (bref w) _) hb1) hb2).setCell (Nat.le_refl w.heap.size) (p := ⟨w.heap.size, 0, none⟩) (.int .u64 xn)).setCell (Nat.le_refl w.heap.size) (p := ⟨w.heap.size, 1, none⟩) (.int .u64 yn)) (.cells #[.int .u64 0, .int .u64 0] 24)) hb3)
  have hl3 : w2.heap.size < w3.heap.size := by have := hb3.size; simp at this; omega
  have t0 : w3.cell? ⟨w.heap.size, 0, none⟩ = some (.int .u64 xn) := (hb3.cell (p := ⟨w.heap.size, 0, none⟩) (by simp; omega)).trans (by go_simp)
  have t1 : w3.cell? ⟨w.heap.size, 1, none⟩ = some (.int .u64 yn) := (hb3.cell (p := ⟨w.heap.size, 1, none⟩) (by simp; omega)).trans (by go_simp)
  have V7 : Var w3 w2.heap.size 0 0 := Var.grow ⟨by simp, by go_simp, by go_simp, by go_simp, by go_simp⟩ hb3
  have HO := Lib.hid (hO.mono (C := w2.heap.size + 1) (by simp)).parts
  have hne : w.heap.size < w2.heap.size := hz2
  have T0 := Lib.hid t0
  have T1 := Lib.hid t1
  have HV7 := Lib.hid V7
  have hlen := sqI_le n
  clear hO hb3 hb1 hb2 hc1 hf1 hz1 hc2 hf2 hz2 H R SQ HT hz hzb t0 t1 V7
  generalize w2.heap.size = bt at *
  have HREV := Lib.hid (fun i hi => rev_test n i hi)
  have hrl : revL n = (sqI n).map (fun x => 80 - x) := rfl
  have hrn : revN n = ofN (revL n) := rfl
  have HREVN := Lib.hid hrn.symm
  have HBG := Lib.hid (fun (g : Nat) (h : bt + 1 ≤ g) => (h : bt < g))
  have hin : ∀ x ∈ sqI n, 0 ≤ x ∧ x < 81 := by
    intro x hx
    unfold sqI at hx
    obtain ⟨i, hi, rfl⟩ := List.mem_map.1 hx
    have := ((mem_sqI n i).1 (List.mem_map.2 ⟨i, hi, rfl⟩)).1
    omega
  have HIN := Lib.hid hin
  clear hrn hin hrl
  obtain ⟨o, cap, rfl, hsl⟩ : ∃ o cap, v = .slice o (sqI n).length cap ∧ (∀ (j : Nat) (hj : j < (sqI n).length), ∃ g, o = some ⟨g, 0, none⟩ ∧ bt < g ∧ g < w3.heap.size ∧ w3.cell? ⟨g, 0 + j, none⟩ = some (.int .i64 (sqI n)[j])) := by
    rcases HO.out with ⟨rfl, hnil⟩ | ⟨g, cap, rfl, hg, hgl, hcells⟩
    · refine ⟨none, 0, by rw [hnil]; rfl, fun j hj => ?_⟩
      rw [hnil] at hj
      exact absurd hj (Nat.not_lt_zero _)
    · exact ⟨_, cap, rfl, fun j hj => ⟨g, rfl, HBG.out g hg, hgl, hcells j hj⟩⟩
  have HSL := Lib.hid hsl
  clear hsl HO HBG
  have hb3' := B3.out
  have t0 := T0.out
  have t1 := T1.out
  clear T0 T1
  go_wp2
  have hrun : Sem.run Tryd.prog (Builtin.len_ #[38] 3 #[.slice o (sqI n).length cap]) w3 = .ok (.int .i64 ((sqI n).length : Nat)) w3 := rfl
  rw [hrun]
  clear hrun
  go_wp2
  go_loopw [36] (fun i wd => ∃ j : Nat, j ≤ (sqI n).length ∧ i = .int .i64 j ∧ Below w.heap.size w wd ∧ Var wd bt (loW (ofN ((revL n).take j))) (hiW (ofN ((revL n).take j))) ∧ wd.cell? ⟨w.heap.size, 0, none⟩ = some (.int .u64 xn) ∧ wd.cell? ⟨w.heap.size, 1, none⟩ = some (.int .u64 yn) ∧ (∀ g p v, bt < g → g < w3.heap.size → w3.cell? ⟨g, p, none⟩ = some v → g < wd.heap.size ∧ wd.cell? ⟨g, p, none⟩ = some v)) (fun i _ => (sqI n).length - (intOf i).toNat)
  case atStart =>
    refine ⟨0, Nat.zero_le _, rfl, hb3', ?_, t0, t1, fun g p v _ h2 h3 => ⟨h2, h3⟩⟩
    rw [List.take_zero, show ofN [] = 0 from rfl, lo_zero, hi_zero]
    exact HV7.out
  case round =>
    rename World => wd
    obtain ⟨j, hj, rfl, hB, hV, t0, t1, hK⟩ := hrel
    have HB := Lib.hid hB
    have HV := Lib.hid hV
    have HKP := Lib.hid hK
    have hzm := hV.lt
    have hzt : w.heap.size < wd.heap.size := by omega
    clear hb3' hB hK
    by_cases hlt : j < (sqI n).length
    · obtain ⟨g, rfl, hg1, hg2, hg3⟩ := HSL.out j hlt
      obtain ⟨hg4, c1⟩ := HKP.out _ _ _ hg1 hg2 hg3
      have hgb : g ≠ bt := by omega
      have hrt : (revL n)[j]'(by simp [revL]; omega) = 80 - (sqI n)[j] := by simp [revL]
      have C := Lib.hid (fun W => with_any (ofN ((revL n).take j)) ((revL n)[j]'(by simp [revL]; omega)) (ofN_sq _) W)
      rw [← take_step (revL n) j (by simp [revL]; omega)] at C
      rw [hrt] at C
      obtain ⟨r0, r1⟩ := HIN.out _ (List.getElem_mem hlt)
      have l0 := hV.lo
      have l1 := hV.hi
      have l2 := hV.f0
      have l3 := hV.f1
      clear hV hg3 hrt
      generalize (sqI n)[j] = s at C c1 r0 r1
      obtain ⟨z, hzs⟩ : ∃ z, z = 80 - s := ⟨_, rfl⟩
      have W2 := Lib.hid (show wrap64 (80 - s) = z by rw [hzs]; unfold wrap64; omega)
      rw [← hzs] at C
      clear hzs
      generalize loW (ofN ((revL n).take j)) = x at C l0 HV
      generalize hiW (ofN ((revL n).take j)) = y at C l1 HV
      generalize hx : loW (ofN ((revL n).take (j + 1))) = x2 at C
      generalize hy : hiW (ofN ((revL n).take (j + 1))) = y2 at C
      have HX := Lib.hid hx
      have HY := Lib.hid hy
      clear hx hy HSL
      have HR01 := Lib.hid (And.intro r0 r1)
      clear r0 r1
      rw [Nat.zero_add] at c1
      go_wp2_with (first
        | (go_at_call 23; rw [W2.out]; refine (C.out _).mono ?_; rintro e w5 ⟨rfl, hb5⟩; obtain ⟨hc5, hf5⟩ := bcells hb5; have hz5 : wd.heap.size ≤ w5.heap.size := hb5.size))
      go_roundw
      case rel =>
        refine ⟨j + 1, by omega, by go_num, ?_, ?_, ?_, ?_, ?_⟩
        · exact ((HB.out.trans (hb5.mono HB.out.size)).setCell (by simp; omega) _).setCell (by simp; omega) _
        · rw [HX.out, HY.out]
          exact (HV.out.grow hb5).put _ _
        · go_simp
        · go_simp
        · intro g' p v h1 h2 h3
          obtain ⟨h4, h5⟩ := HKP.out g' p v h1 h2 h3
          have hne' : g' ≠ bt := by omega
          refine ⟨by simp; omega, ?_⟩
          go_simp
      case measure => simp [intOf]; omega
    · obtain rfl : j = (sqI n).length := by omega
      rw [List.take_of_length_le (by simp [revL]), HREVN.out] at hV
      have m0 := hV.lo
      have m1 := hV.hi
      clear hV HV HKP HSL HV7
      have OA := Lib.hid (fun W => rayOf_any k q n (by omega) (by omega) S0.out W)
      have OB := Lib.hid (fun W => rayOf_any (k + 16) (80 - (q : Int)) (revN n) (by omega) (by omega) (ofN_sq _) W)
      have OC := Lib.hid (fun (i : Nat) W => rayOf_any k i n (by omega) (by omega) S0.out W)
      have HSA : Hid (∀ (i : Nat), i < 81 → ∀ W, Calls Tryd.prog 14 #[.agg #[.int .u64 (loW (rayN k q n)), .int .u64 (hiW (rayN k q n))], .int .i64 (i : Int)] W fun e w' => e = .returned (.bool ((rayN k q n).testBit i)) ∧ Below W.heap.size W w') := Lib.hid (fun i hi W => by
        have := has_any (rayN k q n) i (rayN_sq k q n) W
        rw [has_nat _ i hi] at this
        exact this)
      have HSB : Hid (∀ (i : Nat), i < 81 → ∀ W, Calls Tryd.prog 14 #[.agg #[.int .u64 (loW (rayN (k + 16) (80 - (q : Int)) (revN n))), .int .u64 (hiW (rayN (k + 16) (80 - (q : Int)) (revN n)))], .int .i64 (80 - (i : Int))] W fun e w' => e = .returned (.bool ((rayN k q n).testBit i)) ∧ Below W.heap.size W w') := Lib.hid (fun i hi W => by
        have := has_any (rayN (k + 16) (80 - (q : Int)) (revN n)) ((80 - i : Nat) : Int) (rayN_sq _ _ _) W
        have rt : (rayN (k + 16) (80 - (q : Int)) (revN n)).testBit (80 - i) = (rayN k q n).testBit i := ray_turn k hk q i hq hi n (revN n) (fun t ht => rev_test n t ht) (between_inside q i)
        rw [has_nat _ (80 - i) (by omega), rt, show ((80 - i : Nat) : Int) = 80 - (i : Int) by omega] at this
        exact this)
      have HSC : Hid (∀ (i : Nat), i < 81 → (k = 6 ∨ k = 7 ∨ k = 8 ∨ k = 14 ∨ k = 15) → (rayN k q n).testBit i = true → ∀ W, Calls Tryd.prog 14 #[.agg #[.int .u64 (loW (rayN k i n)), .int .u64 (hiW (rayN k i n))], .int .i64 (q : Int)] W fun e w' => e = .returned (.bool true) ∧ Below W.heap.size W w') := Lib.hid (fun i hi hk' hb W => by
        have := has_any (rayN k i n) q (rayN_sq _ _ _) W
        rw [has_nat _ q hq, ray_back k hk' q i hq hi n hb] at this
        exact this)
      rw [HXN.out, HYN.out] at OA OC
      generalize rayN k q n = ma at OA HSA HSB HSC
      generalize loW ma = xa at OA HSA
      generalize hiW ma = ya at OA HSA
      generalize loW (rayN (k + 16) (80 - (q : Int)) (revN n)) = xb at OB HSB
      generalize hiW (rayN (k + 16) (80 - (q : Int)) (revN n)) = yb at OB HSB
      generalize loW (revN n) = xm at OB m0
      generalize hiW (revN n) = ym at OB m1
      have W8 := Lib.hid (show IntKind.i8.wrap k = k from wrap_i8_eq _ (by omega) (by omega))
      have W16 := Lib.hid (show IntKind.i8.wrap (k + 16) = k + 16 from wrap_i8_eq _ (by omega) (by omega))
      have WK := Lib.hid (show IntKind.i64.wrap (k + 16) = k + 16 by rw [IntKind.wrap_i64]; omega)
      have WK2 := Lib.hid (show wrap64 (k + 16) = k + 16 by unfold wrap64; omega)
      have WQ := Lib.hid (show IntKind.i64.wrap (80 - (q : Int)) = 80 - (q : Int) by rw [IntKind.wrap_i64]; omega)
      have WQ2 := Lib.hid (show wrap64 (80 - (q : Int)) = 80 - (q : Int) by unfold wrap64; omega)
      obtain ⟨NN, nn0, nn1⟩ : ∃ NN : Nat → Array Value, NN 0 = #[.int .u64 xa, .int .u64 ya] ∧ NN 1 = #[.int .u64 xb, .int .u64 yb] := ⟨fun j => if j = 0 then _ else _, rfl, rfl⟩
      go_wp2_with fail
      refine wp_region_any (by kernel_rfl) ?_
      change wpAny _ _ _ _ _ _ _ (World.drew _)
      refine wpAny_inv3 (fun a0 => a0.eval (.tmp 0) = .int .i64 k ∧ a0.eval (.tmp 1) = .int .i64 (q : Int) ∧ a0.eval (.tmp 5) = .pointer (some ⟨w.heap.size, 0, none⟩) ∧ a0.eval (.tmp 7) = .pointer (some ⟨bt, 0, none⟩) ∧ 80 < a0.tmps.size) ⟨rfl, rfl, rfl, rfl, of_decide_eq_true rfl⟩
        (fun a0 ls a w' => ls.size = 16 ∧ Below wd.heap.size wd w' ∧ ∃ g : Nat → Nat, Blgs 24 #[.int .u64 0, .int .u64 0] wd w' NN ls 12 14 2 g ∧ a = cput (ls.getD 13 false) 11 (.pointer (some ⟨g 1, 0, none⟩)) (cput (ls.getD 12 false) 10 (.pointer (some ⟨g 0, 0, none⟩)) (cput (ls.getD 11 false) 56 (.agg #[.int .u64 xb, .int .u64 yb]) (cput (ls.getD 10 false) 55 (.agg #[.int .u64 xm, .int .u64 ym]) (cput (ls.getD 9 false) 54 (.int .i64 (80 - (q : Int))) (cput (ls.getD 8 false) 53 (.int .i64 (q : Int)) (cput (ls.getD 7 false) 52 (.int .i8 (k + 16)) (cput (ls.getD 6 false) 51 (.int .i64 (k + 16)) (cput (ls.getD 5 false) 50 (.int .i64 k) (cput (ls.getD 4 false) 49 (.agg #[.int .u64 xa, .int .u64 ya]) (cput (ls.getD 3 false) 48 (.agg #[.int .u64 xn, .int .u64 yn]) (cput (ls.getD 2 false) 47 (.int .i64 (q : Int)) (cput (ls.getD 1 false) 46 (.int .i8 k) (cput (ls.getD 0 false) 45 (.int .i64 k) (a0))))))))))))))) ?step ?fin ?start (by decide)
      case start => exact ⟨rfl, (bref wd).drew, fun _ => 0, ⟨fun j hj h => absurd h (by (obtain rfl | rfl : j = 0 ∨ j = 1 := by omega) <;> decide), fun i j hi hj _ h => absurd h (by (obtain rfl | rfl : i = 0 ∨ i = 1 := by omega) <;> decide), fun j hj h => absurd h (by (obtain rfl | rfl : j = 0 ∨ j = 1 := by omega) <;> decide)⟩, rfl⟩
      case step =>
        rintro a0 ⟨e0, e1, e5, e7, esz⟩ ls a w' ⟨hl, hb, g, hK, ha⟩ i o ho hu hw
        have hu' := undone hu
        rcases i with _ | _ | _ | _ | _ | _ | _ | _ | _ | _ | _ | _ | _ | _ | _ | _ | i
        · have ho' : some _ = some o := ho
          cases ho'
          have E0 : a.eval (.tmp 0) = .int .i64 k := by rw [ha]; simp [eval_cput_ne, e0]
          refine wpOp_step ho (fun K hK' => ?_)
          rw [if_pos (by rfl)]
          refine wp_valueK (w' := w') (.int .i64 k) ?_ (hK' _ _ ⟨by simp [hl], hb, g, hK.other (bref w') 0 (by omega) (fun j hj => by omega) (fun j hj => by omega), by rw [ha]; simp [cput_put, getF, hl, hu', cput_at]⟩)
          exact congrArg (fun v => Result.ok (Next.value v) w') E0
        · have ho' : some _ = some o := ho
          cases ho'
          have d45 : ls.getD 0 false = true := hw ⟨0, .data⟩ (by simp) rfl
          have z45 : 45 < a0.tmps.size := by omega
          have E45 : a.eval (.tmp 45) = .int .i64 k := by rw [ha]; simp [eval_cput_ne, d45, eval_cput_at, size_cput, z45]
          refine wpOp_step ho (fun K hK' => ?_)
          rw [if_pos (by rfl)]
          refine wp_valueK (w' := w') (.int .i8 k) ?_ (hK' _ _ ⟨by simp [hl], hb, g, hK.other (bref w') 1 (by omega) (fun j hj => by omega) (fun j hj => by omega), by rw [ha]; simp [cput_put, getF, hl, hu', cput_at]⟩)
          clear ha
          have w1 : IntKind.i8.wrap k = k := W8.out
          have EE : a.tmps[45]?.getD undef = .int .i64 k := by first | exact E45 | simpa [Act.eval] using E45
          go_simp
          all_goals first | (rw [EE]; go_simp; done) | decide | rfl
        · have ho' : some _ = some o := ho
          cases ho'
          have E1 : a.eval (.tmp 1) = .int .i64 (q : Int) := by rw [ha]; simp [eval_cput_ne, e1]
          refine wpOp_step ho (fun K hK' => ?_)
          rw [if_pos (by rfl)]
          refine wp_valueK (w' := w') (.int .i64 (q : Int)) ?_ (hK' _ _ ⟨by simp [hl], hb, g, hK.other (bref w') 2 (by omega) (fun j hj => by omega) (fun j hj => by omega), by rw [ha]; simp [cput_put, getF, hl, hu', cput_at]⟩)
          exact congrArg (fun v => Result.ok (Next.value v) w') E1
        · have ho' : some _ = some o := ho
          cases ho'
          have E5 : a.eval (.tmp 5) = .pointer (some ⟨w.heap.size, 0, none⟩) := by rw [ha]; simp [eval_cput_ne, e5]
          refine wpOp_step ho (fun K hK' => ?_)
          rw [if_pos (by rfl)]
          refine wp_load_mid _ _ rfl (w.heap.size) 0 E5 [.int .u64 xn, .int .u64 yn] _ (range2 ((hb.cell (p := ⟨w.heap.size, 0, none⟩) hzt).trans t0) ((hb.cell (p := ⟨w.heap.size, 1, none⟩) hzt).trans t1)) Tryd.underlying24 rfl infoSet2 ?_
          exact hK' _ _ ⟨by simp [hl], hb, g, hK.other (bref w') 3 (by omega) (fun j hj => by omega) (fun j hj => by omega), by rw [ha]; simp [cput_put, getF, hl, hu', cput_at]⟩
        · have ho' : some _ = some o := ho
          cases ho'
          have d46 : ls.getD 1 false = true := hw ⟨1, .data⟩ (by simp) rfl
          have z46 : 46 < a0.tmps.size := by omega
          have E46 : a.eval (.tmp 46) = .int .i8 k := by rw [ha]; simp [eval_cput_ne, d46, eval_cput_at, size_cput, z46]
          have d47 : ls.getD 2 false = true := hw ⟨2, .data⟩ (by simp) rfl
          have z47 : 47 < a0.tmps.size := by omega
          have E47 : a.eval (.tmp 47) = .int .i64 (q : Int) := by rw [ha]; simp [eval_cput_ne, d47, eval_cput_at, size_cput, z47]
          have d48 : ls.getD 3 false = true := hw ⟨3, .data⟩ (by simp) rfl
          have z48 : 48 < a0.tmps.size := by omega
          have E48 : a.eval (.tmp 48) = .agg #[.int .u64 xn, .int .u64 yn] := by rw [ha]; simp [eval_cput_ne, d48, eval_cput_at, size_cput, z48]
          refine wpOp_step ho (fun K hK' => ?_)
          rw [if_pos (by rfl)]
          refine wp_callK 24 #[a.eval (.tmp 46), a.eval (.tmp 47), a.eval (.tmp 48)] ?_ ?_
          · clear ha E46 E47 E48
            go_simp
          · rw [E46, E47, E48]
            refine (OA.out _).mono ?_
            rintro e w2 ⟨rfl, hb2⟩
            exact ⟨_, rfl, hK' _ _ ⟨by simp [hl], bthen hb hb2, g, hK.other hb2 4 (by omega) (fun j hj => by omega) (fun j hj => by omega), by rw [ha]; simp [cput_put, getF, hl, hu', cput_at]⟩⟩
        · have ho' : some _ = some o := ho
          cases ho'
          have E0 : a.eval (.tmp 0) = .int .i64 k := by rw [ha]; simp [eval_cput_ne, e0]
          refine wpOp_step ho (fun K hK' => ?_)
          rw [if_pos (by rfl)]
          refine wp_valueK (w' := w') (.int .i64 k) ?_ (hK' _ _ ⟨by simp [hl], hb, g, hK.other (bref w') 5 (by omega) (fun j hj => by omega) (fun j hj => by omega), by rw [ha]; simp [cput_put, getF, hl, hu', cput_at]⟩)
          exact congrArg (fun v => Result.ok (Next.value v) w') E0
        · have ho' : some _ = some o := ho
          cases ho'
          have d50 : ls.getD 5 false = true := hw ⟨5, .data⟩ (by simp) rfl
          have z50 : 50 < a0.tmps.size := by omega
          have E50 : a.eval (.tmp 50) = .int .i64 k := by rw [ha]; simp [eval_cput_ne, d50, eval_cput_at, size_cput, z50]
          refine wpOp_step ho (fun K hK' => ?_)
          rw [if_pos (by rfl)]
          refine wp_valueK (w' := w') (.int .i64 (k + 16)) ?_ (hK' _ _ ⟨by simp [hl], hb, g, hK.other (bref w') 6 (by omega) (fun j hj => by omega) (fun j hj => by omega), by rw [ha]; simp [cput_put, getF, hl, hu', cput_at]⟩)
          clear ha
          have w1 : IntKind.i64.wrap (k + 16) = k + 16 := WK.out
          have w2 : wrap64 (k + 16) = k + 16 := WK2.out
          have EE : a.tmps[50]?.getD undef = .int .i64 k := by first | exact E50 | simpa [Act.eval] using E50
          go_simp
          all_goals first | (rw [EE]; go_simp; done) | decide | rfl
        · have ho' : some _ = some o := ho
          cases ho'
          have d51 : ls.getD 6 false = true := hw ⟨6, .data⟩ (by simp) rfl
          have z51 : 51 < a0.tmps.size := by omega
          have E51 : a.eval (.tmp 51) = .int .i64 (k + 16) := by rw [ha]; simp [eval_cput_ne, d51, eval_cput_at, size_cput, z51]
          refine wpOp_step ho (fun K hK' => ?_)
          rw [if_pos (by rfl)]
          refine wp_valueK (w' := w') (.int .i8 (k + 16)) ?_ (hK' _ _ ⟨by simp [hl], hb, g, hK.other (bref w') 7 (by omega) (fun j hj => by omega) (fun j hj => by omega), by rw [ha]; simp [cput_put, getF, hl, hu', cput_at]⟩)
          clear ha
          have w1 : IntKind.i8.wrap (k + 16) = k + 16 := W16.out
          have EE : a.tmps[51]?.getD undef = .int .i64 (k + 16) := by first | exact E51 | simpa [Act.eval] using E51
          go_simp
          all_goals first | (rw [EE]; go_simp; done) | decide | rfl
        · have ho' : some _ = some o := ho
          cases ho'
          have E1 : a.eval (.tmp 1) = .int .i64 (q : Int) := by rw [ha]; simp [eval_cput_ne, e1]
          refine wpOp_step ho (fun K hK' => ?_)
          rw [if_pos (by rfl)]
          refine wp_valueK (w' := w') (.int .i64 (q : Int)) ?_ (hK' _ _ ⟨by simp [hl], hb, g, hK.other (bref w') 8 (by omega) (fun j hj => by omega) (fun j hj => by omega), by rw [ha]; simp [cput_put, getF, hl, hu', cput_at]⟩)
          exact congrArg (fun v => Result.ok (Next.value v) w') E1
        · have ho' : some _ = some o := ho
          cases ho'
          have d53 : ls.getD 8 false = true := hw ⟨8, .data⟩ (by simp) rfl
          have z53 : 53 < a0.tmps.size := by omega
          have E53 : a.eval (.tmp 53) = .int .i64 (q : Int) := by rw [ha]; simp [eval_cput_ne, d53, eval_cput_at, size_cput, z53]
          refine wpOp_step ho (fun K hK' => ?_)
          rw [if_pos (by rfl)]
          refine wp_valueK (w' := w') (.int .i64 (80 - (q : Int))) ?_ (hK' _ _ ⟨by simp [hl], hb, g, hK.other (bref w') 9 (by omega) (fun j hj => by omega) (fun j hj => by omega), by rw [ha]; simp [cput_put, getF, hl, hu', cput_at]⟩)
          clear ha
          have w1 : IntKind.i64.wrap (80 - (q : Int)) = 80 - (q : Int) := WQ.out
          have w2 : wrap64 (80 - (q : Int)) = 80 - (q : Int) := WQ2.out
          have EE : a.tmps[53]?.getD undef = .int .i64 (q : Int) := by first | exact E53 | simpa [Act.eval] using E53
          go_simp
          all_goals first | (rw [EE]; go_simp; done) | decide | rfl
        · have ho' : some _ = some o := ho
          cases ho'
          have E7 : a.eval (.tmp 7) = .pointer (some ⟨bt, 0, none⟩) := by rw [ha]; simp [eval_cput_ne, e7]
          refine wpOp_step ho (fun K hK' => ?_)
          rw [if_pos (by rfl)]
          refine wp_load_mid _ _ rfl (bt) 0 E7 [.int .u64 xm, .int .u64 ym] _ (range2 ((hb.cell (p := ⟨bt, 0, none⟩) hzm).trans m0) ((hb.cell (p := ⟨bt, 1, none⟩) hzm).trans m1)) Tryd.underlying24 rfl infoSet2 ?_
          exact hK' _ _ ⟨by simp [hl], hb, g, hK.other (bref w') 10 (by omega) (fun j hj => by omega) (fun j hj => by omega), by rw [ha]; simp [cput_put, getF, hl, hu', cput_at]⟩
        · have ho' : some _ = some o := ho
          cases ho'
          have d52 : ls.getD 7 false = true := hw ⟨7, .data⟩ (by simp) rfl
          have z52 : 52 < a0.tmps.size := by omega
          have E52 : a.eval (.tmp 52) = .int .i8 (k + 16) := by rw [ha]; simp [eval_cput_ne, d52, eval_cput_at, size_cput, z52]
          have d54 : ls.getD 9 false = true := hw ⟨9, .data⟩ (by simp) rfl
          have z54 : 54 < a0.tmps.size := by omega
          have E54 : a.eval (.tmp 54) = .int .i64 (80 - (q : Int)) := by rw [ha]; simp [eval_cput_ne, d54, eval_cput_at, size_cput, z54]
          have d55 : ls.getD 10 false = true := hw ⟨10, .data⟩ (by simp) rfl
          have z55 : 55 < a0.tmps.size := by omega
          have E55 : a.eval (.tmp 55) = .agg #[.int .u64 xm, .int .u64 ym] := by rw [ha]; simp [eval_cput_ne, d55, eval_cput_at, size_cput, z55]
          refine wpOp_step ho (fun K hK' => ?_)
          rw [if_pos (by rfl)]
          refine wp_callK 24 #[a.eval (.tmp 52), a.eval (.tmp 54), a.eval (.tmp 55)] ?_ ?_
          · clear ha E52 E54 E55
            go_simp
          · rw [E52, E54, E55]
            refine (OB.out _).mono ?_
            rintro e w2 ⟨rfl, hb2⟩
            exact ⟨_, rfl, hK' _ _ ⟨by simp [hl], bthen hb hb2, g, hK.other hb2 11 (by omega) (fun j hj => by omega) (fun j hj => by omega), by rw [ha]; simp [cput_put, getF, hl, hu', cput_at]⟩⟩
        · have ho' : some _ = some o := ho
          cases ho'
          refine wpOp_step ho (fun K hK' => ?_)
          rw [if_pos (by rfl)]
          refine wp_valueK (w' := w'.alloc (.cells #[.int .u64 0, .int .u64 0] 24)) (.pointer (some ⟨w'.heap.size, 0, none⟩)) ?_ ?_
          · have hz := zero_set
            clear ha
            go_simp
          · exact hK' _ _ ⟨by simp [hl], ball hb _, _, hK.laid hb 0 (by omega) (by omega) hu' (by omega), by rw [ha]; simp [cput_put, getF, hl, hu', cput_at]⟩
        · have ho' : some _ = some o := ho
          cases ho'
          refine wpOp_step ho (fun K hK' => ?_)
          rw [if_pos (by rfl)]
          refine wp_valueK (w' := w'.alloc (.cells #[.int .u64 0, .int .u64 0] 24)) (.pointer (some ⟨w'.heap.size, 0, none⟩)) ?_ ?_
          · have hz := zero_set
            clear ha
            go_simp
          · exact hK' _ _ ⟨by simp [hl], ball hb _, _, hK.laid hb 1 (by omega) (by omega) hu' (by omega), by rw [ha]; simp [cput_put, getF, hl, hu', cput_at]⟩
        · have ho' : some _ = some o := ho
          cases ho'
          have d10 : ls.getD 12 false = true := hw ⟨12, .data⟩ (by simp) rfl
          have z10 : 10 < a0.tmps.size := by omega
          have E10 : a.eval (.tmp 10) = .pointer (some ⟨g 0, 0, none⟩) := by rw [ha]; simp [eval_cput_ne, d10, eval_cput_at, size_cput, z10]
          have d49 : ls.getD 4 false = true := hw ⟨4, .data⟩ (by simp) rfl
          have z49 : 49 < a0.tmps.size := by omega
          have E49 : a.eval (.tmp 49) = .agg #[.int .u64 xa, .int .u64 ya] := by rw [ha]; simp [eval_cput_ne, d49, eval_cput_at, size_cput, z49]
          refine wpOp_step ho (fun K hK' => ?_)
          rw [if_pos (by rfl)]
          have hB := hK.blk 0 (by omega) d10
          rw [show ls.getD (14 + 0) false = false from hu', if_neg (by decide)] at hB
          have gg : ∀ j, j ≠ 14 → (ls.setIfInBounds 14 true).getD j false = ls.getD j false := fun j hj => (getF (by omega : 14 < ls.size)).trans (if_neg (Ne.symm hj))
          have hF := hK.filled 0 (by omega) (by omega) d10 (by omega)
          rw [nn0] at hF
          refine wp_store_row 24 _ _ rfl (g 0) (#[.int .u64 xa, .int .u64 ya]) E10 E49 24 #[.int .u64 0, .int .u64 0] hB.row infoSet2 rfl (by simp [Value.oneCell']) ?_
          refine hK' _ _ ⟨by simp [hl], below_setRow hb hB.le _, g, hF, ?_⟩
          rw [gg 13 (by decide), gg 12 (by decide), gg 11 (by decide), gg 10 (by decide), gg 9 (by decide), gg 8 (by decide), gg 7 (by decide), gg 6 (by decide), gg 5 (by decide), gg 4 (by decide), gg 3 (by decide), gg 2 (by decide), gg 1 (by decide), gg 0 (by decide), ha]
          rfl
        · have ho' : some _ = some o := ho
          cases ho'
          have d11 : ls.getD 13 false = true := hw ⟨13, .data⟩ (by simp) rfl
          have z11 : 11 < a0.tmps.size := by omega
          have E11 : a.eval (.tmp 11) = .pointer (some ⟨g 1, 0, none⟩) := by rw [ha]; simp [eval_cput_ne, d11, eval_cput_at, size_cput, z11]
          have d56 : ls.getD 11 false = true := hw ⟨11, .data⟩ (by simp) rfl
          have z56 : 56 < a0.tmps.size := by omega
          have E56 : a.eval (.tmp 56) = .agg #[.int .u64 xb, .int .u64 yb] := by rw [ha]; simp [eval_cput_ne, d56, eval_cput_at, size_cput, z56]
          refine wpOp_step ho (fun K hK' => ?_)
          rw [if_pos (by rfl)]
          have hB := hK.blk 1 (by omega) d11
          rw [show ls.getD (14 + 1) false = false from hu', if_neg (by decide)] at hB
          have gg : ∀ j, j ≠ 15 → (ls.setIfInBounds 15 true).getD j false = ls.getD j false := fun j hj => (getF (by omega : 15 < ls.size)).trans (if_neg (Ne.symm hj))
          have hF := hK.filled 1 (by omega) (by omega) d11 (by omega)
          rw [nn1] at hF
          refine wp_store_row 24 _ _ rfl (g 1) (#[.int .u64 xb, .int .u64 yb]) E11 E56 24 #[.int .u64 0, .int .u64 0] hB.row infoSet2 rfl (by simp [Value.oneCell']) ?_
          refine hK' _ _ ⟨by simp [hl], below_setRow hb hB.le _, g, hF, ?_⟩
          rw [gg 13 (by decide), gg 12 (by decide), gg 11 (by decide), gg 10 (by decide), gg 9 (by decide), gg 8 (by decide), gg 7 (by decide), gg 6 (by decide), gg 5 (by decide), gg 4 (by decide), gg 3 (by decide), gg 2 (by decide), gg 1 (by decide), gg 0 (by decide), ha]
          rfl
        · cases ho
      case fin =>
        rintro ls a w' ⟨hl, hb, g, hK, ha⟩ hr
        have d : ∀ i, i < 16 → ls.getD i false = true := all_doneB hr (by kernel_rfl) (by rw [hl]; rfl)
        have K0 := hK.blk 0 (by omega) (d 12 (by decide))
        rw [show ls.getD (14 + 0) false = true from d 14 (by decide), if_pos rfl, nn0] at K0
        have K1 := hK.blk 1 (by omega) (d 13 (by decide))
        rw [show ls.getD (14 + 1) false = true from d 15 (by decide), if_pos rfl, nn1] at K1
        rw [d 13 (by decide), d 12 (by decide), d 11 (by decide), d 10 (by decide), d 9 (by decide), d 8 (by decide), d 7 (by decide), d 6 (by decide), d 5 (by decide), d 4 (by decide), d 3 (by decide), d 2 (by decide), d 1 (by decide), d 0 (by decide)] at ha
        subst ha
        simp only [cput, if_true, Act.put, List.setIfInBounds_toArray, List.set_cons_zero, List.set_cons_succ]
        clear d hr hl hK
        have za := K0.lt
        have zb := K1.lt
        have ra := K0.row
        have rb := K1.row
        generalize g 0 = pa at *
        generalize g 1 = pb at *
        have a0 : w'.cell? ⟨pa, 0, none⟩ = some (.int .u64 xa) := row_cell0 ra
        have a1 : w'.cell? ⟨pa, 1, none⟩ = some (.int .u64 ya) := row_cell1 ra
        have b0 : w'.cell? ⟨pb, 0, none⟩ = some (.int .u64 xb) := row_cell0 rb
        have b1 : w'.cell? ⟨pb, 1, none⟩ = some (.int .u64 yb) := row_cell1 rb
        have t0' : w'.cell? ⟨w.heap.size, 0, none⟩ = some (.int .u64 xn) := (hb.cell (p := ⟨w.heap.size, 0, none⟩) hzt).trans t0
        have t1' : w'.cell? ⟨w.heap.size, 1, none⟩ = some (.int .u64 yn) := (hb.cell (p := ⟨w.heap.size, 1, none⟩) hzt).trans t1
        have zt : w.heap.size < w'.heap.size := Nat.lt_of_lt_of_le hzt hb.size
        have HBW := Lib.hid (bthen HB.out hb)
        clear K0 K1 ra rb t0 t1 m0 m1 hb HB nn0 nn1 OA OB hzm hzt
        go_wp2_with fail
        go_loopw [12] (fun i wr => ∃ m : Nat, m ≤ 81 ∧ i = .int .i64 m ∧ Below w'.heap.size w' wr) (fun i _ => 81 - (intOf i).toNat)
        case atStart => exact ⟨0, Nat.zero_le _, rfl, bref _⟩
        case round =>
          obtain ⟨i, hi, rfl, hW⟩ := hrel
          have A0 := (hW.cell (p := ⟨pa, 0, none⟩) za).trans a0
          have A1 := (hW.cell (p := ⟨pa, 1, none⟩) za).trans a1
          have B0 := (hW.cell (p := ⟨pb, 0, none⟩) zb).trans b0
          have B1 := (hW.cell (p := ⟨pb, 1, none⟩) zb).trans b1
          have T0 := (hW.cell (p := ⟨w.heap.size, 0, none⟩) zt).trans t0'
          have T1 := (hW.cell (p := ⟨w.heap.size, 1, none⟩) zt).trans t1'
          have za' := Nat.lt_of_lt_of_le za hW.size
          have zb' := Nat.lt_of_lt_of_le zb hW.size
          have zt' := Nat.lt_of_lt_of_le zt hW.size
          clear a0 a1 b0 b1 t0' t1' za zb zt
          have HW := Lib.hid hW
          clear hW
          have a0 := A0
          have a1 := A1
          have b0 := B0
          have b1 := B1
          have za := za'
          have zb := zb'
          clear A0 A1 B0 B1 za' zb'
          by_cases hlt : i < 81
          · have HA := Lib.hid (fun W => HSA.out i hlt W)
            have HBb := Lib.hid (fun W => HSB.out i hlt W)
            have HC := Lib.hid (fun h1 h2 W => HSC.out i hlt h1 h2 W)
            have OCi := Lib.hid (fun W => OC.out i W)
            generalize loW (rayN k i n) = xc at HC OCi
            generalize hiW (rayN k i n) = yc at HC OCi
            generalize ma.testBit i = bit at HA HBb HC
            have WT := Lib.hid (show IntKind.i64.wrap (80 - (i : Int)) = 80 - (i : Int) by rw [IntKind.wrap_i64]; omega)
            clear HSA HSB HSC OC
            go_wp2_with fail
            refine wp_region_held_drew (S := fun w' => Below wr.heap.size wr w' ∧ pa < w'.heap.size ∧ pb < w'.heap.size ∧ w'.cell? ⟨pa, 0, none⟩ = some (.int .u64 xa) ∧ w'.cell? ⟨pa, 1, none⟩ = some (.int .u64 ya) ∧ w'.cell? ⟨pb, 0, none⟩ = some (.int .u64 xb) ∧ w'.cell? ⟨pb, 1, none⟩ = some (.int .u64 yb)) (by kernel_rfl) ?_ (fun hHeld => ?_)
            · exact ⟨(bref wr).drew, za, zb, a0, a1, b0, b1⟩
            refine wpAnyH_take (i := 0) (v := ?v31) rfl (by kernel_rfl) (by kernel_rfl) (by kernel_rfl) (fun _ _ _ h => h) (Or.inl ⟨by rfl, ?y31⟩) (by assumption) ?r31
            case y31 => (intro w hSw; (go_simp <;> first | with_reducible rfl | (rw [if_pos (by omega)] <;> with_reducible rfl)))
            try simp only [Act.put, List.getElem_toArray, List.getElem_cons_zero, List.getElem_cons_succ, List.setIfInBounds_toArray, List.set_cons_zero, List.set_cons_succ]
            refine wpAnyH_take (i := 1) (v := ?v32) rfl (by kernel_rfl) (by kernel_rfl) (by kernel_rfl) (fun _ _ _ h => h) (Or.inl ⟨by rfl, ?y32⟩) (by assumption) ?r32
            case y32 => (intro w hSw; (go_simp <;> first | with_reducible rfl | (rw [if_pos (by omega)] <;> with_reducible rfl)))
            try simp only [Act.put, List.getElem_toArray, List.getElem_cons_zero, List.getElem_cons_succ, List.setIfInBounds_toArray, List.set_cons_zero, List.set_cons_succ]
            refine wpAnyH_take (i := 3) (v := ?v33) rfl (by kernel_rfl) (by kernel_rfl) (by kernel_rfl) (fun _ _ _ h => h) (Or.inl ⟨by rfl, ?y33⟩) (by assumption) ?r33
            case y33 => (intro w hSw; (go_simp <;> first | with_reducible rfl | (rw [if_pos (by omega)] <;> with_reducible rfl)))
            try simp only [Act.put, List.getElem_toArray, List.getElem_cons_zero, List.getElem_cons_succ, List.setIfInBounds_toArray, List.set_cons_zero, List.set_cons_succ]
            refine wpAnyH_take (i := 4) (v := ?v34) rfl (by kernel_rfl) (by kernel_rfl) (by kernel_rfl) (fun _ _ _ h => h) (Or.inl ⟨by rfl, ?y34⟩) (by assumption) ?r34
            case y34 => (intro w hSw; (go_simp <;> first | with_reducible rfl | (rw [if_pos (by omega)] <;> with_reducible rfl)))
            try simp only [Act.put, List.getElem_toArray, List.getElem_cons_zero, List.getElem_cons_succ, List.setIfInBounds_toArray, List.set_cons_zero, List.set_cons_succ]
            refine wpAnyH_take (i := 5) (v := ?v35) rfl (by kernel_rfl) (by kernel_rfl) (by kernel_rfl) (fun _ _ _ h => h) (Or.inl ⟨by rfl, ?y35⟩) (by assumption) ?r35
            case y35 => (intro w hSw; (go_simp <;> first | with_reducible rfl | (rw [if_pos (by omega)] <;> with_reducible rfl)))
            try simp only [Act.put, List.getElem_toArray, List.getElem_cons_zero, List.getElem_cons_succ, List.setIfInBounds_toArray, List.set_cons_zero, List.set_cons_succ]
            refine wpAnyH_ready (rs := [2]) (by kernel_rfl) (by simp) ?_
            refine AllReadyH.cons rfl (fun K hK => ?_) AllReadyH.nil
            rw [if_pos (by rfl)]
            go_simp
            go_at_call 14
            refine (HA.out _).mono ?_
            rintro e wn ⟨rfl, hb⟩
            refine hK.out _ _ (⟨bthen hHeld.1 hb, Nat.lt_of_lt_of_le hHeld.2.1 hb.size, Nat.lt_of_lt_of_le hHeld.2.2.1 hb.size, (hb.cell (p := ⟨pa, 0, none⟩) hHeld.2.1).trans hHeld.2.2.2.1, (hb.cell (p := ⟨pa, 1, none⟩) hHeld.2.1).trans hHeld.2.2.2.2.1, (hb.cell (p := ⟨pb, 0, none⟩) hHeld.2.2.1).trans hHeld.2.2.2.2.2.1, (hb.cell (p := ⟨pb, 1, none⟩) hHeld.2.2.1).trans hHeld.2.2.2.2.2.2⟩) (fun hHeld => ?_)
            clear hK K
            try simp only [Act.put, List.getElem_toArray, List.getElem_cons_zero, List.getElem_cons_succ, List.setIfInBounds_toArray, List.set_cons_zero, List.set_cons_succ]
            refine wpAnyH_ready (rs := [6]) (by kernel_rfl) (by simp) ?_
            refine AllReadyH.cons rfl (fun K hK => ?_) AllReadyH.nil
            rw [if_pos (by rfl)]
            go_simp
            go_at_call 14
            rw [WT.out]
            refine (HBb.out _).mono ?_
            rintro e wn ⟨rfl, hb⟩
            refine hK.out _ _ (⟨bthen hHeld.1 hb, Nat.lt_of_lt_of_le hHeld.2.1 hb.size, Nat.lt_of_lt_of_le hHeld.2.2.1 hb.size, (hb.cell (p := ⟨pa, 0, none⟩) hHeld.2.1).trans hHeld.2.2.2.1, (hb.cell (p := ⟨pa, 1, none⟩) hHeld.2.1).trans hHeld.2.2.2.2.1, (hb.cell (p := ⟨pb, 0, none⟩) hHeld.2.2.1).trans hHeld.2.2.2.2.2.1, (hb.cell (p := ⟨pb, 1, none⟩) hHeld.2.2.1).trans hHeld.2.2.2.2.2.2⟩) (fun hHeld => ?_)
            clear hK K
            try simp only [Act.put, List.getElem_toArray, List.getElem_cons_zero, List.getElem_cons_succ, List.setIfInBounds_toArray, List.set_cons_zero, List.set_cons_succ]
            refine wpAnyH_take (i := 7) (v := ?v36) rfl (by kernel_rfl) (by kernel_rfl) (by kernel_rfl) (fun _ _ _ h => h) (Or.inl ⟨by rfl, ?y36⟩) (by assumption) ?r36
            case y36 => (intro w hSw; (go_simp <;> first | with_reducible rfl | (rw [if_pos (by omega)] <;> with_reducible rfl)))
            try simp only [Act.put, List.getElem_toArray, List.getElem_cons_zero, List.getElem_cons_succ, List.setIfInBounds_toArray, List.set_cons_zero, List.set_cons_succ]
            refine wpAnyH_done (by kernel_rfl) ?_ _
            obtain ⟨hX, za, zb, a0, a1, b0, b1⟩ := hHeld
            have T0' := (hX.cell (p := ⟨w.heap.size, 0, none⟩) zt').trans T0
            have T1' := (hX.cell (p := ⟨w.heap.size, 1, none⟩) zt').trans T1
            have zt2 := Nat.lt_of_lt_of_le zt' hX.size
            clear T0 T1 zt'
            have HX := Lib.hid (bthen HW.out hX)
            clear hX HW
            obtain ⟨k6, k7, k8, k13⟩ := HNO.out
            have d6 : decide (k = 6) = false := decide_eq_false k6
            have d7 : decide (k = 7) = false := decide_eq_false k7
            have d8 : decide (k = 8) = false := decide_eq_false k8
            have d13 : decide (13 < k) = false := decide_eq_false (show ¬ 13 < k by omega)
            go_wp2_with fail
            go_roundw
            case rel => exact ⟨i + 1, by omega, by go_num, HX.out⟩
            case measure => simp [intOf]; omega
          · obtain rfl : i = 81 := Nat.le_antisymm hi (Nat.not_lt.1 hlt)
            go_wp2
            go_ret
            exact ⟨rfl, bthen HBW.out HW.out⟩

theorem walk_near (k a b : Int) (q : Nat) (g2 : (Lit.int .u64 a).wf = true) (g3 : (Lit.int .u64 b).wf = true) (hk : 1 ≤ k ∧ k ≤ 15) (hq : q < 81) (w : World) (hT : Tab w) :
    Calls Tryd.prog 5 #[.int .i64 k, .int .i64 (q : Int), .agg #[.int .u64 a, .int .u64 b]] w fun e w' => e = .returned (.bool true) ∧ Below w.heap.size w w' := by
  have h : k = 6 ∨ k = 7 ∨ k = 8 ∨ k = 14 ∨ k = 15 ∨ (¬ k = 6 ∧ ¬ k = 7 ∧ ¬ k = 8 ∧ ¬ 13 < k) := by omega
  rcases h with rfl | rfl | rfl | rfl | rfl | h
  · exact walk_6 a b q g2 g3 hq w hT
  · exact walk_7 a b q g2 g3 hq w hT
  · exact walk_8 a b q g2 g3 hq w hT
  · exact walk_14 a b q g2 g3 hq w hT
  · exact walk_15 a b q g2 g3 hq w hT
  · exact walk_none k a b q g2 g3 hk hq h w hT

theorem walk (k q a b : Int) (g0 : (Lit.int .i64 k).wf = true) (g1 : (Lit.int .i64 q).wf = true) (g2 : (Lit.int .u64 a).wf = true) (g3 : (Lit.int .u64 b).wf = true) (w : World) (hT : Tab w) :
    Calls Tryd.prog 5 #[.int .i64 k, .int .i64 q, .agg #[.int .u64 a, .int .u64 b]] w fun e w' => e = .returned (.bool true) ∧ Below w.heap.size w w' := by
  by_cases h : (1 ≤ k ∧ k ≤ 15) ∧ 0 ≤ q ∧ q ≤ 80
  · obtain ⟨hk, h0, h1⟩ := h
    obtain ⟨q', rfl⟩ := Int.eq_ofNat_of_zero_le h0
    exact walk_near k a b q' g2 g3 hk (by omega) w hT
  · exact walk_far k q a b g2 g3 (by omega) w
end Go.Proofs.YtmpjjdlohneiiaaDoor.rayTurns
