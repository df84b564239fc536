/-
  The walk of the law WholeReach: side 1.
-/
import Derived.Test.YtnmekghjkajhcaaDoorReachLem
namespace Go.Proofs.YtnmekghjkajhcaaDoor.wholeReach
open Go.RowKit
set_option linter.unusedVariables false
set_option linter.unusedSimpArgs false

set_option maxRecDepth 100000 in
set_option maxHeartbeats 4000000 in
theorem walk1 (s : Int) (q : Nat) (a b : Int) (h0 : s = 1) (hq : q < 81) (ga : (Lit.int .u64 a).wf = true) (gb : (Lit.int .u64 b).wf = true) (w : World) (hT : Tab w) :
    Calls Tryd.prog 4 #[.int .i64 s, .int .i64 q, .agg #[.int .u64 a, .int .u64 b]] w fun e w' => e = .returned (.bool true) ∧ Below w.heap.size w w' := by
  have hs : s = 0 ∨ s = 1 := .inr h0
  have O14 := Lib.hid (fun W => pof_any 0 14 W (by omega) (by omega))
  rw [show ofF 0 14 = 14 by decide] at O14
  have N14 := Lib.hid (fun W => name_any 14 W (by omega) (by omega))
  rw [head_name] at N14
  have ALL := Lib.hid (fun W => all_any W)
  have C81 := Lib.hid (fun W => count_any full Sq.full W)
  rw [head_full] at C81
  have ST := Lib.hid (fun W => stepOf_any 8 40 (by omega) (by omega) W)
  have C8 := Lib.hid (fun W => count_any (stepN 8 40) (stepN_sq _ _) W)
  rw [head_step] at C8
  have RL := Lib.hid (fun W => rayOf_any 2 8 0 (by omega) (by omega) Sq.zero W)
  rw [lo_zero, hi_zero] at RL
  have C8' := Lib.hid (fun W => count_any (rayN 2 8 0) (rayN_sq _ _ _) W)
  rw [head_ray] at C8'
  have e1 := real_lo a b (bounds_u64 ga).1 (bounds_u64 ga).2
  have e2 := real_hi a b (bounds_u64 gb).1 (bounds_u64 gb).2
  have sn := realN_sq a b
  generalize realN a b = n at e1 e2 sn
  have OFN := Lib.hid (fun (k : Int) (hk : 1 ≤ k ∧ k ≤ 15 ∧ k ≠ 13) (b0 b1 b2 : Nat) (W : World) (v : RV s q (loW n) (hiW n) b0 b1 b2 W) =>
    show Calls Tryd.prog 21 #[.int .i64 k, .pointer (some ⟨b0, 0, none⟩), .pointer (some ⟨b1, 0, none⟩), .pointer (some ⟨b2, 0, none⟩)] W fun e w' => e = .returned (.agg #[.int .u64 (loW (rayN (16 * s + k) q n)), .int .u64 (hiW (rayN (16 * s + k) q n))]) ∧ Below W.heap.size W w' from
    (off s k hs hk) ▸ of_fn s q k n sn ⟨hk.1, hk.2.1⟩ b0 b1 b2 W v.c0 v.c1 v.c2 v.c3 v.z0 v.z1 v.z2)
  have F1 := Lib.hid (fun b0 b1 b2 W v => OFN.out 1 (by omega) b0 b1 b2 W v)
  have F2 := Lib.hid (fun b0 b1 b2 W v => OFN.out 2 (by omega) b0 b1 b2 W v)
  have F5 := Lib.hid (fun b0 b1 b2 W v => OFN.out 5 (by omega) b0 b1 b2 W v)
  have F6 := Lib.hid (fun b0 b1 b2 W v => OFN.out 6 (by omega) b0 b1 b2 W v)
  have F7 := Lib.hid (fun b0 b1 b2 W v => OFN.out 7 (by omega) b0 b1 b2 W v)
  have F8 := Lib.hid (fun b0 b1 b2 W v => OFN.out 8 (by omega) b0 b1 b2 W v)
  have F14 := Lib.hid (fun b0 b1 b2 W v => OFN.out 14 (by omega) b0 b1 b2 W v)
  have F15 := Lib.hid (fun b0 b1 b2 W v => OFN.out 15 (by omega) b0 b1 b2 W v)
  have FG := Lib.hid (fun (k : Int) (hk : 9 ≤ k ∧ k ≤ 12) b0 b1 b2 W (v : RV s q (loW n) (hiW n) b0 b1 b2 W) => (reach_gold s k hs (by omega) q n hq) ▸ OFN.out k (by omega) b0 b1 b2 W v)
  have AN1 := Lib.hid (fun W => and_any (rayN (16 * s + 8) q n) (rayN (16 * s + 7) q n) (rayN_sq _ _ _) (rayN_sq _ _ _) W)
  have AN2 := Lib.hid (fun W => and_any (rayN (16 * s + 8) q n) (rayN (16 * s + 6) q n) (rayN_sq _ _ _) (rayN_sq _ _ _) W)
  have OR1 := Lib.hid (fun W => or_any (rayN (16 * s + 6) q n) (rayN (16 * s + 8) q n &&& rayN (16 * s + 7) q n) (rayN_sq _ _ _) (rayN_sq _ _ _).and W)
  rw [← reach_horse s hs q n hq] at OR1
  have OR2 := Lib.hid (fun W => or_any (rayN (16 * s + 7) q n) (rayN (16 * s + 8) q n &&& rayN (16 * s + 6) q n) (rayN_sq _ _ _) (rayN_sq _ _ _).and W)
  rw [← reach_dragon s hs q n hq] at OR2
  have MI1 := Lib.hid (fun W => minus_any (rayN (16 * s + 8) q n) (rayN (16 * s + 14) q n) (rayN_sq _ _ _) (rayN_sq _ _ _) W)
  rw [reach_king s hs q n hq, lo_zero, hi_zero] at MI1
  have MI2 := Lib.hid (fun W => minus_any (rayN (16 * s + 2) q n) (rayN (16 * s + 7) q n) (rayN_sq _ _ _) (rayN_sq _ _ _) W)
  rw [reach_lance s hs q n hq, lo_zero, hi_zero] at MI2
  have MI3 := Lib.hid (fun W => minus_any (rayN (16 * s + 1) q n) (rayN (16 * s + 2) q n) (rayN_sq _ _ _) (rayN_sq _ _ _) W)
  rw [reach_pawn s hs q n hq, lo_zero, hi_zero] at MI3
  have EM := Lib.hid (fun W => empty_any 0 W)
  rw [decide_eq_true (rfl : (0 : Nat) = 0), lo_zero, hi_zero] at EM
  have ORH := Lib.hid (fun W => or_any (rayN (16 * s + 14) q n) (rayN (16 * s + 15) q n) (rayN_sq _ _ _) (rayN_sq _ _ _) W)
  have SQ := Lib.hid (fun (W : World) (hT : Tab W) (h : 1 ≤ W.heap.size) => squares_any (rayN (16 * s + 14) q n ||| rayN (16 * s + 15) q n) ((rayN_sq _ _ _).or (rayN_sq _ _ _)) W hT h)
  have HL := Lib.hid (show ∀ x ∈ sqI (rayN (16 * s + 14) q n ||| rayN (16 * s + 15) q n), betN q x &&& n = 0 from fun x hx => by
    obtain ⟨i, hi⟩ : ∃ i : Nat, x = (i : Int) := by
      unfold sqI at hx
      obtain ⟨i, _, rfl⟩ := List.mem_map.1 hx
      exact ⟨i, rfl⟩
    subst hi
    have hm := (mem_sqI _ i).1 hx
    rw [Nat.testBit_or, Bool.or_eq_true] at hm
    have hfr : freeF q i n = true := by
      rcases hm.2 with h | h
      · exact reach_free s 14 hs (.inl rfl) q i n hq hm.1 h
      · exact reach_free s 15 hs (.inr rfl) q i n hq hm.1 h
    rw [(bet_both q i).1]
    exact between_apart q i n hfr (between_in q i))
  have BT := Lib.hid (fun (x : Int) W => between_any q x W)
  have ANB := Lib.hid (fun (x : Int) (hx : betN q x &&& n = 0) (W : World) => hx ▸ and_any (betN q x) n (betN_sq _ _) sn W)
  have hlen := sqI_le (rayN (16 * s + 14) q n ||| rayN (16 * s + 15) q n)
  have HLEN := Lib.hid hlen
  clear hlen OFN
  have hqs : (((q : Int) < 0) = False) ∧ ((80 < (q : Int)) = False) := ⟨eq_false (by omega), eq_false (by omega)⟩
  have q0 : ¬ (q : Int) < 0 := by omega
  have q1 : ¬ 80 < (q : Int) := by omega
  have HQ := Lib.hid hq
  have HSS := Lib.hid hs
  have HSN := Lib.hid sn
  have HT := Lib.hid hT
  clear hqs hq hT ga gb sn
  generalize loW (stepN 8 40) = sl at ST C8
  generalize hiW (stepN 8 40) = sh at ST C8
  generalize loW (rayN 2 8 0) = r2l at RL C8'
  generalize hiW (rayN 2 8 0) = r2h at RL C8'
  generalize loW full = fl at ALL C81
  generalize hiW full = fh at ALL C81
  generalize loW (rayN (16 * s + 1) q n) = pl at *
  generalize hiW (rayN (16 * s + 1) q n) = ph at *
  generalize loW (rayN (16 * s + 2) q n) = ll at *
  generalize hiW (rayN (16 * s + 2) q n) = lh at *
  generalize loW (rayN (16 * s + 5) q n) = gl at *
  generalize hiW (rayN (16 * s + 5) q n) = gh at *
  generalize loW (rayN (16 * s + 6) q n) = bl at *
  generalize hiW (rayN (16 * s + 6) q n) = bh at *
  generalize loW (rayN (16 * s + 7) q n) = rl at *
  generalize hiW (rayN (16 * s + 7) q n) = rh at *
  generalize loW (rayN (16 * s + 8) q n) = kl at *
  generalize hiW (rayN (16 * s + 8) q n) = kh at *
  generalize loW (rayN (16 * s + 14) q n) = hl at *
  generalize hiW (rayN (16 * s + 14) q n) = hh at *
  generalize loW (rayN (16 * s + 15) q n) = dl at *
  generalize hiW (rayN (16 * s + 15) q n) = dh at *
  generalize loW (rayN (16 * s + 8) q n &&& rayN (16 * s + 7) q n) = xl at *
  generalize hiW (rayN (16 * s + 8) q n &&& rayN (16 * s + 7) q n) = xh at *
  generalize loW (rayN (16 * s + 8) q n &&& rayN (16 * s + 6) q n) = yl at *
  generalize hiW (rayN (16 * s + 8) q n &&& rayN (16 * s + 6) q n) = yh at *
  generalize loW (rayN (16 * s + 14) q n ||| rayN (16 * s + 15) q n) = ul at *
  generalize hiW (rayN (16 * s + 14) q n ||| rayN (16 * s + 15) q n) = uh at *
  generalize sqI (rayN (16 * s + 14) q n ||| rayN (16 * s + 15) q n) = L at *
  generalize loW n = nl at *
  generalize hiW n = nh at *
  have HZ := Lib.hid (show w.heap.size < (((w.alloc (.cells #[.int .i64 s] 3)).alloc (.cells #[.int .i64 q] 3)).alloc (.cells #[.int .u64 a, .int .u64 b] 26)).heap.size ∧ w.heap.size + 1 < (((w.alloc (.cells #[.int .i64 s] 3)).alloc (.cells #[.int .i64 q] 3)).alloc (.cells #[.int .u64 a, .int .u64 b] 26)).heap.size ∧ w.heap.size + 2 < (((w.alloc (.cells #[.int .i64 s] 3)).alloc (.cells #[.int .i64 q] 3)).alloc (.cells #[.int .u64 a, .int .u64 b] 26)).heap.size by rw [World.size_alloc, World.size_alloc, World.size_alloc]; omega)
  have HV0 := Lib.hid (show (((w.alloc (.cells #[.int .i64 s] 3)).alloc (.cells #[.int .i64 q] 3)).alloc (.cells #[.int .u64 a, .int .u64 b] 26)).cell? ⟨w.heap.size, 0, none⟩ = some (.int .i64 s) by go_simp)
  have HV1 := Lib.hid (show (((w.alloc (.cells #[.int .i64 s] 3)).alloc (.cells #[.int .i64 q] 3)).alloc (.cells #[.int .u64 a, .int .u64 b] 26)).cell? ⟨w.heap.size + 1, 0, none⟩ = some (.int .i64 q) by go_simp)
  have HV2 := Lib.hid (show (((w.alloc (.cells #[.int .i64 s] 3)).alloc (.cells #[.int .i64 q] 3)).alloc (.cells #[.int .u64 a, .int .u64 b] 26)).cell? ⟨w.heap.size + 2, 0, none⟩ = some (.int .u64 a) by go_simp)
  have HV3 := Lib.hid (show (((w.alloc (.cells #[.int .i64 s] 3)).alloc (.cells #[.int .i64 q] 3)).alloc (.cells #[.int .u64 a, .int .u64 b] 26)).cell? ⟨w.heap.size + 2, 1, none⟩ = some (.int .u64 b) by go_simp)
  have HF2 := Lib.hid (show (((w.alloc (.cells #[.int .i64 s] 3)).alloc (.cells #[.int .i64 q] 3)).alloc (.cells #[.int .u64 a, .int .u64 b] 26)).frozen? ⟨w.heap.size + 2, 0, none⟩ = false by go_simp)
  have HF3 := Lib.hid (show (((w.alloc (.cells #[.int .i64 s] 3)).alloc (.cells #[.int .i64 q] 3)).alloc (.cells #[.int .u64 a, .int .u64 b] 26)).frozen? ⟨w.heap.size + 2, 1, none⟩ = false by go_simp)
  have HW0 := Lib.hid (ball (ball (ball (bref w) (.cells #[.int .i64 s] 3)) (.cells #[.int .i64 q] 3)) (.cells #[.int .u64 a, .int .u64 b] 26))
  have HB := Lib.hid (bref (((w.alloc (.cells #[.int .i64 s] 3)).alloc (.cells #[.int .i64 q] 3)).alloc (.cells #[.int .u64 a, .int .u64 b] 26)))
  subst h0
  · skip
    go_enter Tryd.func4, Tryd.ntmps4
    go_wp2_with (first
      | (go_at_call 17; refine (O14.out _).mono ?_; rintro e w1 ⟨rfl, rfl⟩)
      | (go_at_call 16; refine (N14.out _).mono ?_; rintro e wn ⟨rfl, hb⟩; have HB := Lib.hid (bthen HB.out hb); clear hb)
      | (go_at_call 18; refine (ALL.out _).mono ?_; rintro e wn ⟨rfl, hb⟩; have HB := Lib.hid (bthen HB.out hb); clear hb)
      | (go_at_call_of 12 (Value.int .u64 fl); refine (C81.out _).mono ?_; rintro e wn ⟨rfl, hb⟩; have HB := Lib.hid (bthen HB.out hb); clear hb)
      | (go_at_call 19; refine (ST.out _).mono ?_; rintro e wn ⟨rfl, hb⟩; have HB := Lib.hid (bthen HB.out hb); clear hb)
      | (go_at_call_of 12 (Value.int .u64 sl); refine (C8.out _).mono ?_; rintro e wn ⟨rfl, hb⟩; have HB := Lib.hid (bthen HB.out hb); clear hb)
      | (go_at_call 20; refine (RL.out _).mono ?_; rintro e wn ⟨rfl, hb⟩; have HB := Lib.hid (bthen HB.out hb); clear hb)
      | (go_at_call_of 12 (Value.int .u64 r2l); refine (C8'.out _).mono ?_; rintro e w5 ⟨rfl, hb⟩; have HB := Lib.hid (bthen HB.out hb); clear hb; have c0 := (HB.out.cell (p := ⟨w.heap.size, 0, none⟩) HZ.out.1).trans HV0.out; have c1 := (HB.out.cell (p := ⟨w.heap.size + 1, 0, none⟩) HZ.out.2.1).trans HV1.out; have c2 := (HB.out.cell (p := ⟨w.heap.size + 2, 0, none⟩) HZ.out.2.2).trans HV2.out; have c3 := (HB.out.cell (p := ⟨w.heap.size + 2, 1, none⟩) HZ.out.2.2).trans HV3.out; have f2 := (HB.out.frozen (p := ⟨w.heap.size + 2, 0, none⟩) HZ.out.2.2).trans HF2.out; have f3 := (HB.out.frozen (p := ⟨w.heap.size + 2, 1, none⟩) HZ.out.2.2).trans HF3.out; have z2 : w.heap.size + 2 < w5.heap.size := Nat.lt_of_lt_of_le HZ.out.2.2 HB.out.size))
    have HRV := Lib.hid (show RV 1 q nl nh w.heap.size (w.heap.size + 1) (w.heap.size + 1 + 1) ((w5.setCell ⟨w.heap.size + 1 + 1, 0, none⟩ (.int .u64 nl)).setCell ⟨w.heap.size + 1 + 1, 1, none⟩ (.int .u64 nh)) from
      ⟨(by go_simp), by go_simp, by go_simp, by go_simp, by simp; omega, by simp; omega, by simp; omega⟩)
    have HBA := Lib.hid (((bthen HW0.out HB.out).setCell (p := ⟨w.heap.size + 1 + 1, 0, none⟩) (by simp; omega) (.int .u64 nl)).setCell (p := ⟨w.heap.size + 1 + 1, 1, none⟩) (by simp; omega) (.int .u64 nh))
    clear c0 c1 c2 c3 f2 f3 z2 HB HW0 HF2 HF3 HV0 HV1 HV2 HV3 HZ
    generalize (w5.setCell ⟨w.heap.size + 1 + 1, 0, none⟩ (.int .u64 nl)).setCell ⟨w.heap.size + 1 + 1, 1, none⟩ (.int .u64 nh) = wa at HRV HBA ⊢
    go_wp2_with (first
      | (go_at_call_of 21 (Value.int .i64 8); refine (F8.out _ _ _ _ HRV.out).mono ?_; rintro e w6 ⟨rfl, hb⟩; have HRV := Lib.hid (HRV.out.grow (ball hb (.cells #[.int .u64 kl, .int .u64 kh] 26))); have HBA := Lib.hid (ball (bthen HBA.out hb) (.cells #[.int .u64 kl, .int .u64 kh] 26)); clear hb)
      | (go_at_call_of 21 (Value.int .i64 5); refine (F5.out _ _ _ _ HRV.out).mono ?_; rintro e w7 ⟨rfl, hb⟩; have k0 := (hb.cell (p := ⟨w6.heap.size, 0, none⟩) (new_var w6 kl kh).lt).trans (new_var w6 kl kh).lo; have k1 := (hb.cell (p := ⟨w6.heap.size, 1, none⟩) (new_var w6 kl kh).lt).trans (new_var w6 kl kh).hi; have kz : w6.heap.size < w7.heap.size := Nat.lt_of_lt_of_le (new_var w6 kl kh).lt hb.size; have HRV := Lib.hid (HRV.out.grow hb); have HBA := Lib.hid (bthen HBA.out hb); clear hb))
    have HRV := Lib.hid (HRV.out.grow (ball (bref w7) (.cells #[.int .u64 gl, .int .u64 gh] 26)))
    have HBA := Lib.hid (ball HBA.out (.cells #[.int .u64 gl, .int .u64 gh] 26))
    have zk := Nat.lt_of_lt_of_le kz (ball (bref w7) (.cells #[.int .u64 gl, .int .u64 gh] 26)).size
    have k0 := ((ball (bref w7) (.cells #[.int .u64 gl, .int .u64 gh] 26)).cell (p := ⟨w6.heap.size, 0, none⟩) kz).trans k0
    have k1 := ((ball (bref w7) (.cells #[.int .u64 gl, .int .u64 gh] 26)).cell (p := ⟨w6.heap.size, 1, none⟩) kz).trans k1
    have zg := (new_var w7 gl gh).lt
    have g0 := (new_var w7 gl gh).lo
    have g1 := (new_var w7 gl gh).hi
    clear kz
    generalize w7.alloc (.cells #[.int .u64 gl, .int .u64 gh] 26) = wl at *
    generalize w6.heap.size = bk at *
    generalize w7.heap.size = bg at *
    go_loopw [10] (fun i wr => ∃ k : Nat, 1 ≤ k ∧ k ≤ 5 ∧ i = .int .i64 k ∧ Below wl.heap.size wl wr) (fun i _ => 5 - (intOf i).toNat)
    case atStart => exact ⟨1, by omega, by omega, rfl, bref _⟩
    case round =>
      obtain ⟨k, hk1, hk, rfl, hW⟩ := hrel
      have HW := Lib.hid hW
      by_cases hlt : k < 5
      · have HR := Lib.hid (HRV.out.grow hW)
        have UP := Lib.hid (fun W => up_any (k : Int) W)
        rw [up_k k hk1 hlt] at UP
        have RA := Lib.hid (fun W => raw_any ((k : Int) + 8) W (by omega) (by omega))
        rw [raw_k k hk1 hlt] at RA
        have FK := Lib.hid (fun b0 b1 b2 W v => FG.out ((k : Int) + 8) (by omega) b0 b1 b2 W v)
        have G0 := (hW.cell (p := ⟨bg, 0, none⟩) zg).trans g0
        have G1 := (hW.cell (p := ⟨bg, 1, none⟩) zg).trans g1
        have ZG := Nat.lt_of_lt_of_le zg hW.size
        clear hW zk k0 k1 zg g0 g1
        go_wp2_with fail
        refine wp_region_held_drew (S := fun w' => Below wr.heap.size wr w' ∧ bg < w'.heap.size ∧ w'.cell? ⟨bg, 0, none⟩ = some (.int .u64 gl) ∧ w'.cell? ⟨bg, 1, none⟩ = some (.int .u64 gh)) (by kernel_rfl) ?_ (fun hHeld => ?_)
        · exact ⟨(bref wr).drew, ZG, G0, G1⟩
        refine wpAnyH_take (i := 0) (v := ?v1) rfl (by kernel_rfl) (by kernel_rfl) (by kernel_rfl) (fun _ _ _ h => h) (Or.inl ⟨by rfl, ?y1⟩) (by assumption) ?r1
        case y1 => (intro w hSw; (go_simp <;> first | with_reducible rfl | (rw [if_pos (by omega)] <;> with_reducible rfl)))
        try simp only [Act.put, List.getElem_toArray, List.getElem_cons_zero, List.getElem_cons_succ, List.setIfInBounds_toArray, List.set_cons_zero, List.set_cons_succ]
        refine wpAnyH_take (i := 1) (v := ?v2) rfl (by kernel_rfl) (by kernel_rfl) (by kernel_rfl) (fun _ _ _ h => h) (Or.inl ⟨by rfl, ?y2⟩) (by assumption) ?r2
        case y2 => (intro w hSw; (go_simp <;> first | with_reducible rfl | (rw [if_pos (by omega)] <;> with_reducible rfl)))
        try simp only [Act.put, List.getElem_toArray, List.getElem_cons_zero, List.getElem_cons_succ, List.setIfInBounds_toArray, List.set_cons_zero, List.set_cons_succ]
        refine wpAnyH_take (i := 4) (v := ?v3) rfl (by kernel_rfl) (by kernel_rfl) (by kernel_rfl) (fun _ _ _ h => h) (Or.inl ⟨by rfl, ?y3⟩) (by assumption) ?r3
        case y3 => (intro w hSw; (go_simp <;> first | with_reducible rfl | (rw [if_pos (by omega)] <;> with_reducible rfl)))
        try simp only [Act.put, List.getElem_toArray, List.getElem_cons_zero, List.getElem_cons_succ, List.setIfInBounds_toArray, List.set_cons_zero, List.set_cons_succ]
        refine wpAnyH_ready (rs := [2]) (by kernel_rfl) (by simp) ?_
        refine AllReadyH.cons rfl (fun K hK => ?_) AllReadyH.nil
        rw [if_pos (by rfl)]
        go_simp
        go_at_call 22
        refine (UP.out _).mono ?_
        rintro e wn ⟨rfl, rfl⟩
        refine hK.out _ _ (hHeld) (fun hHeld => ?_)
        clear hK K
        try simp only [Act.put, List.getElem_toArray, List.getElem_cons_zero, List.getElem_cons_succ, List.setIfInBounds_toArray, List.set_cons_zero, List.set_cons_succ]
        refine wpAnyH_ready (rs := [3]) (by kernel_rfl) (by simp) ?_
        refine AllReadyH.cons rfl (fun K hK => ?_) AllReadyH.nil
        rw [if_pos (by rfl)]
        go_simp
        go_at_call 21
        refine (FK.out _ _ _ _ (HR.out.grow hHeld.1)).mono ?_
        rintro e wn ⟨rfl, hb⟩
        refine hK.out _ _ (heldW_step hHeld hb) (fun hHeld => ?_)
        clear hK K
        try simp only [Act.put, List.getElem_toArray, List.getElem_cons_zero, List.getElem_cons_succ, List.setIfInBounds_toArray, List.set_cons_zero, List.set_cons_succ]
        refine wpAnyH_take (i := 5) (v := ?v4) rfl (by kernel_rfl) (by kernel_rfl) (by kernel_rfl) (fun _ _ _ h => h) (Or.inl ⟨by rfl, ?y4⟩) (by assumption) ?r4
        case y4 => (intro w hSw; (go_simp <;> first | with_reducible rfl | (rw [if_pos (by omega)] <;> with_reducible rfl)))
        try simp only [Act.put, List.getElem_toArray, List.getElem_cons_zero, List.getElem_cons_succ, List.setIfInBounds_toArray, List.set_cons_zero, List.set_cons_succ]
        refine wpAnyH_take (i := 6) (v := ?v5) rfl (by kernel_rfl) (by kernel_rfl) (by kernel_rfl) (fun _ _ _ h => h) (Or.inl ⟨by rfl, ?y5⟩) (by assumption) ?r5
        case y5 => (intro w hSw; (go_simp <;> first | with_reducible rfl | (rw [if_pos (by omega)] <;> with_reducible rfl)))
        try simp only [Act.put, List.getElem_toArray, List.getElem_cons_zero, List.getElem_cons_succ, List.setIfInBounds_toArray, List.set_cons_zero, List.set_cons_succ]
        refine wpAnyH_take (i := 7) (v := ?v6) rfl (by kernel_rfl) (by kernel_rfl) (by kernel_rfl) (fun _ _ _ h => h) (Or.inl ⟨by rfl, ?y6⟩) (by assumption) ?r6
        case y6 => (intro w hSw; (go_simp <;> first | with_reducible rfl | (rw [if_pos (by omega)] <;> with_reducible rfl)))
        try simp only [Act.put, List.getElem_toArray, List.getElem_cons_zero, List.getElem_cons_succ, List.setIfInBounds_toArray, List.set_cons_zero, List.set_cons_succ]
        refine wpAnyH_take (i := 10) (v := ?v7) rfl (by kernel_rfl) (by kernel_rfl) (by kernel_rfl) (fun _ _ _ h => h) (Or.inl ⟨by rfl, ?y7⟩) (by assumption) ?r7
        case y7 => (intro w hSw; (go_simp <;> first | with_reducible rfl | (rw [if_pos (by omega)] <;> with_reducible rfl)))
        try simp only [Act.put, List.getElem_toArray, List.getElem_cons_zero, List.getElem_cons_succ, List.setIfInBounds_toArray, List.set_cons_zero, List.set_cons_succ]
        refine wpAnyH_ready (rs := [8]) (by kernel_rfl) (by simp) ?_
        refine AllReadyH.cons rfl (fun K hK => ?_) AllReadyH.nil
        rw [if_pos (by rfl)]
        go_simp
        go_at_call 22
        refine (UP.out _).mono ?_
        rintro e wn ⟨rfl, rfl⟩
        refine hK.out _ _ (hHeld) (fun hHeld => ?_)
        clear hK K
        try simp only [Act.put, List.getElem_toArray, List.getElem_cons_zero, List.getElem_cons_succ, List.setIfInBounds_toArray, List.set_cons_zero, List.set_cons_succ]
        refine wpAnyH_ready (rs := [9]) (by kernel_rfl) (by simp) ?_
        refine AllReadyH.cons rfl (fun K hK => ?_) AllReadyH.nil
        rw [if_pos (by rfl)]
        go_simp
        go_at_call 23
        refine (RA.out _).mono ?_
        rintro e wn ⟨rfl, rfl⟩
        refine hK.out _ _ (hHeld) (fun hHeld => ?_)
        clear hK K
        try simp only [Act.put, List.getElem_toArray, List.getElem_cons_zero, List.getElem_cons_succ, List.setIfInBounds_toArray, List.set_cons_zero, List.set_cons_succ]
        refine wpAnyH_take (i := 11) (v := ?v8) rfl (by kernel_rfl) (by kernel_rfl) (by kernel_rfl) (fun _ _ _ h => h) (Or.inl ⟨by rfl, ?y8⟩) (by assumption) ?r8
        case y8 => (intro w hSw; (go_simp <;> first | with_reducible rfl | (rw [if_pos (by omega)] <;> with_reducible rfl)))
        try simp only [Act.put, List.getElem_toArray, List.getElem_cons_zero, List.getElem_cons_succ, List.setIfInBounds_toArray, List.set_cons_zero, List.set_cons_succ]
        refine wpAnyH_take (i := 12) (v := ?v9) rfl (by kernel_rfl) (by kernel_rfl) (by kernel_rfl) (fun _ _ _ h => h) (Or.inl ⟨by rfl, ?y9⟩) (by assumption) ?r9
        case y9 => (intro w hSw; (go_simp <;> first | with_reducible rfl | (rw [if_pos (by omega)] <;> with_reducible rfl)))
        try simp only [Act.put, List.getElem_toArray, List.getElem_cons_zero, List.getElem_cons_succ, List.setIfInBounds_toArray, List.set_cons_zero, List.set_cons_succ]
        refine wpAnyH_done (by kernel_rfl) ?_ _
        go_wp2
        go_roundw
        case rel => exact ⟨k + 1, by omega, by omega, by go_num, HW.out.trans (hHeld.1.mono HW.out.size)⟩
        case measure => simp [intOf]; omega
      · obtain rfl : k = 5 := by omega
        have HRV := Lib.hid (HRV.out.grow hW)
        have HBA := Lib.hid (bthen HBA.out hW)
        have k0 := (hW.cell (p := ⟨bk, 0, none⟩) zk).trans k0
        have k1 := (hW.cell (p := ⟨bk, 1, none⟩) zk).trans k1
        have zk := Nat.lt_of_lt_of_le zk hW.size
        clear hW HW hlt zg g0 g1 FG
        go_wp2_with (first
          | (go_at_call_of 21 (Value.int .i64 14); refine (F14.out _ _ _ _ HRV.out).mono ?_; rintro e w8 ⟨rfl, hb⟩; have k0 := (hb.cell (p := ⟨bk, 0, none⟩) zk).trans k0; have k1 := (hb.cell (p := ⟨bk, 1, none⟩) zk).trans k1; have zk := Nat.lt_of_lt_of_le zk hb.size; have HRV := Lib.hid (HRV.out.grow hb); have HBA := Lib.hid (bthen HBA.out hb); clear hb)
          | (go_at_call_of 21 (Value.int .i64 15); refine (F15.out _ _ _ _ HRV.out).mono ?_; rintro e w9 ⟨rfl, hb⟩; have k0 := (hb.cell (p := ⟨bk, 0, none⟩) zk).trans k0; have k1 := (hb.cell (p := ⟨bk, 1, none⟩) zk).trans k1; have zk := Nat.lt_of_lt_of_le zk hb.size; have HRV := Lib.hid (HRV.out.grow hb); have HBA := Lib.hid (bthen HBA.out hb); clear hb))
        have bb := ball (ball (bref w9) (.cells #[.int .u64 hl, .int .u64 hh] 26)) (.cells #[.int .u64 dl, .int .u64 dh] 26)
        have HRV := Lib.hid (HRV.out.grow bb)
        have HBA := Lib.hid (bthen HBA.out bb)
        have K0 := (bb.cell (p := ⟨bk, 0, none⟩) zk).trans k0
        have K1 := (bb.cell (p := ⟨bk, 1, none⟩) zk).trans k1
        have ZK := Nat.lt_of_lt_of_le zk bb.size
        clear zk k0 k1
        have VH := (new_var w9 hl hh).grow (ball (bref _) (.cells #[.int .u64 dl, .int .u64 dh] 26))
        have VD := new_var (w9.alloc (.cells #[.int .u64 hl, .int .u64 hh] 26)) dl dh
        rw [World.size_alloc] at VD
        have h0 := VH.lo
        have h1 := VH.hi
        have zh := VH.lt
        have d0 := VD.lo
        have d1 := VD.hi
        have zd := VD.lt
        clear bb VH VD
        generalize (w9.alloc (.cells #[.int .u64 hl, .int .u64 hh] 26)).alloc (.cells #[.int .u64 dl, .int .u64 dh] 26) = wr at *
        generalize w9.heap.size = bh at *
        generalize bh + 1 = bd at *
        refine wp_region_held_drew (S := fun w' => Below wr.heap.size wr w' ∧ bk < w'.heap.size ∧ bh < w'.heap.size ∧ bd < w'.heap.size ∧ w'.cell? ⟨bk, 0, none⟩ = some (.int .u64 kl) ∧ w'.cell? ⟨bk, 1, none⟩ = some (.int .u64 kh) ∧ w'.cell? ⟨bh, 0, none⟩ = some (.int .u64 hl) ∧ w'.cell? ⟨bh, 1, none⟩ = some (.int .u64 hh) ∧ w'.cell? ⟨bd, 0, none⟩ = some (.int .u64 dl) ∧ w'.cell? ⟨bd, 1, none⟩ = some (.int .u64 dh)) (by kernel_rfl) ?_ (fun hHeld => ?_)
        · exact ⟨(bref wr).drew, ZK, zh, zd, K0, K1, h0, h1, d0, d1⟩
        refine wpAnyH_take (i := 0) (v := ?v10) rfl (by kernel_rfl) (by kernel_rfl) (by kernel_rfl) (fun _ _ _ h => h) (Or.inl ⟨by rfl, ?y10⟩) (by assumption) ?r10
        case y10 => (intro w hSw; (go_simp <;> first | with_reducible rfl | (rw [if_pos (by omega)] <;> with_reducible rfl)))
        try simp only [Act.put, List.getElem_toArray, List.getElem_cons_zero, List.getElem_cons_succ, List.setIfInBounds_toArray, List.set_cons_zero, List.set_cons_succ]
        refine wpAnyH_take (i := 1) (v := ?v11) rfl (by kernel_rfl) (by kernel_rfl) (by kernel_rfl) (fun _ _ _ h => h) (Or.inl ⟨by rfl, ?y11⟩) (by assumption) ?r11
        case y11 => (intro w hSw; (go_simp <;> first | with_reducible rfl | (rw [if_pos (by omega)] <;> with_reducible rfl)))
        try simp only [Act.put, List.getElem_toArray, List.getElem_cons_zero, List.getElem_cons_succ, List.setIfInBounds_toArray, List.set_cons_zero, List.set_cons_succ]
        refine wpAnyH_take (i := 3) (v := ?v12) rfl (by kernel_rfl) (by kernel_rfl) (by kernel_rfl) (fun _ _ _ h => h) (Or.inl ⟨by rfl, ?y12⟩) (by assumption) ?r12
        case y12 => (intro w hSw; (go_simp <;> first | with_reducible rfl | (rw [if_pos (by omega)] <;> with_reducible rfl)))
        try simp only [Act.put, List.getElem_toArray, List.getElem_cons_zero, List.getElem_cons_succ, List.setIfInBounds_toArray, List.set_cons_zero, List.set_cons_succ]
        refine wpAnyH_take (i := 4) (v := ?v13) rfl (by kernel_rfl) (by kernel_rfl) (by kernel_rfl) (fun _ _ _ h => h) (Or.inl ⟨by rfl, ?y13⟩) (by assumption) ?r13
        case y13 => (intro w hSw; (go_simp <;> first | with_reducible rfl | (rw [if_pos (by omega)] <;> with_reducible rfl)))
        try simp only [Act.put, List.getElem_toArray, List.getElem_cons_zero, List.getElem_cons_succ, List.setIfInBounds_toArray, List.set_cons_zero, List.set_cons_succ]
        refine wpAnyH_ready (rs := [2]) (by kernel_rfl) (by simp) ?_
        refine AllReadyH.cons rfl (fun K hK => ?_) AllReadyH.nil
        rw [if_pos (by rfl)]
        go_simp
        go_at_call 21
        refine (F6.out _ _ _ _ (HRV.out.grow hHeld.1)).mono ?_
        rintro e wn ⟨rfl, hb⟩
        refine hK.out _ _ (heldK_step hHeld hb) (fun hHeld => ?_)
        clear hK K
        try simp only [Act.put, List.getElem_toArray, List.getElem_cons_zero, List.getElem_cons_succ, List.setIfInBounds_toArray, List.set_cons_zero, List.set_cons_succ]
        refine wpAnyH_ready (rs := [5]) (by kernel_rfl) (by simp) ?_
        refine AllReadyH.cons rfl (fun K hK => ?_) AllReadyH.nil
        rw [if_pos (by rfl)]
        go_simp
        go_at_call 21
        refine (F7.out _ _ _ _ (HRV.out.grow hHeld.1)).mono ?_
        rintro e wn ⟨rfl, hb⟩
        refine hK.out _ _ (heldK_step hHeld hb) (fun hHeld => ?_)
        clear hK K
        try simp only [Act.put, List.getElem_toArray, List.getElem_cons_zero, List.getElem_cons_succ, List.setIfInBounds_toArray, List.set_cons_zero, List.set_cons_succ]
        refine wpAnyH_ready (rs := [6]) (by kernel_rfl) (by simp) ?_
        refine AllReadyH.cons rfl (fun K hK => ?_) AllReadyH.nil
        rw [if_pos (by rfl)]
        go_simp
        go_at_call 11
        refine (AN1.out _).mono ?_
        rintro e wn ⟨rfl, hb⟩
        refine hK.out _ _ (heldK_step hHeld hb) (fun hHeld => ?_)
        clear hK K
        try simp only [Act.put, List.getElem_toArray, List.getElem_cons_zero, List.getElem_cons_succ, List.setIfInBounds_toArray, List.set_cons_zero, List.set_cons_succ]
        refine wpAnyH_ready (rs := [7]) (by kernel_rfl) (by simp) ?_
        refine AllReadyH.cons rfl (fun K hK => ?_) AllReadyH.nil
        rw [if_pos (by rfl)]
        go_simp
        go_at_call 7
        refine (OR1.out _).mono ?_
        rintro e wn ⟨rfl, hb⟩
        refine hK.out _ _ (heldK_step hHeld hb) (fun hHeld => ?_)
        clear hK K
        try simp only [Act.put, List.getElem_toArray, List.getElem_cons_zero, List.getElem_cons_succ, List.setIfInBounds_toArray, List.set_cons_zero, List.set_cons_succ]
        refine wpAnyH_take (i := 8) (v := ?v14) rfl (by kernel_rfl) (by kernel_rfl) (by kernel_rfl) (fun _ _ _ h => h) (Or.inl ⟨by rfl, ?y14⟩) (by assumption) ?r14
        case y14 => (intro w hSw; (go_simp <;> first | with_reducible rfl | (rw [if_pos (by omega)] <;> with_reducible rfl)))
        try simp only [Act.put, List.getElem_toArray, List.getElem_cons_zero, List.getElem_cons_succ, List.setIfInBounds_toArray, List.set_cons_zero, List.set_cons_succ]
        refine wpAnyH_take (i := 9) (v := ?v15) rfl (by kernel_rfl) (by kernel_rfl) (by kernel_rfl) (fun _ _ _ h => h) (Or.inl ⟨by rfl, ?y15⟩) (by assumption) ?r15
        case y15 => (intro w hSw; (go_simp <;> first | with_reducible rfl | (rw [if_pos (by omega)] <;> with_reducible rfl)))
        try simp only [Act.put, List.getElem_toArray, List.getElem_cons_zero, List.getElem_cons_succ, List.setIfInBounds_toArray, List.set_cons_zero, List.set_cons_succ]
        refine wpAnyH_take (i := 10) (v := ?v16) rfl (by kernel_rfl) (by kernel_rfl) (by kernel_rfl) (fun _ _ _ h => h) (Or.inl ⟨by rfl, ?y16⟩) (by assumption) ?r16
        case y16 => (intro w hSw; (go_simp <;> first | with_reducible rfl | (rw [if_pos (by omega)] <;> with_reducible rfl)))
        try simp only [Act.put, List.getElem_toArray, List.getElem_cons_zero, List.getElem_cons_succ, List.setIfInBounds_toArray, List.set_cons_zero, List.set_cons_succ]
        refine wpAnyH_take (i := 11) (v := ?v17) rfl (by kernel_rfl) (by kernel_rfl) (by kernel_rfl) (fun _ _ _ h => h) (Or.inl ⟨by rfl, ?y17⟩) (by assumption) ?r17
        case y17 => (intro w hSw; (go_simp <;> first | with_reducible rfl | (rw [if_pos (by omega)] <;> with_reducible rfl)))
        try simp only [Act.put, List.getElem_toArray, List.getElem_cons_zero, List.getElem_cons_succ, List.setIfInBounds_toArray, List.set_cons_zero, List.set_cons_succ]
        refine wpAnyH_take (i := 13) (v := ?v18) rfl (by kernel_rfl) (by kernel_rfl) (by kernel_rfl) (fun _ _ _ h => h) (Or.inl ⟨by rfl, ?y18⟩) (by assumption) ?r18
        case y18 => (intro w hSw; (go_simp <;> first | with_reducible rfl | (rw [if_pos (by omega)] <;> with_reducible rfl)))
        try simp only [Act.put, List.getElem_toArray, List.getElem_cons_zero, List.getElem_cons_succ, List.setIfInBounds_toArray, List.set_cons_zero, List.set_cons_succ]
        refine wpAnyH_take (i := 14) (v := ?v19) rfl (by kernel_rfl) (by kernel_rfl) (by kernel_rfl) (fun _ _ _ h => h) (Or.inl ⟨by rfl, ?y19⟩) (by assumption) ?r19
        case y19 => (intro w hSw; (go_simp <;> first | with_reducible rfl | (rw [if_pos (by omega)] <;> with_reducible rfl)))
        try simp only [Act.put, List.getElem_toArray, List.getElem_cons_zero, List.getElem_cons_succ, List.setIfInBounds_toArray, List.set_cons_zero, List.set_cons_succ]
        refine wpAnyH_ready (rs := [12]) (by kernel_rfl) (by simp) ?_
        refine AllReadyH.cons rfl (fun K hK => ?_) AllReadyH.nil
        rw [if_pos (by rfl)]
        go_simp
        go_at_call 21
        refine (F7.out _ _ _ _ (HRV.out.grow hHeld.1)).mono ?_
        rintro e wn ⟨rfl, hb⟩
        refine hK.out _ _ (heldK_step hHeld hb) (fun hHeld => ?_)
        clear hK K
        try simp only [Act.put, List.getElem_toArray, List.getElem_cons_zero, List.getElem_cons_succ, List.setIfInBounds_toArray, List.set_cons_zero, List.set_cons_succ]
        refine wpAnyH_ready (rs := [15]) (by kernel_rfl) (by simp) ?_
        refine AllReadyH.cons rfl (fun K hK => ?_) AllReadyH.nil
        rw [if_pos (by rfl)]
        go_simp
        go_at_call 21
        refine (F6.out _ _ _ _ (HRV.out.grow hHeld.1)).mono ?_
        rintro e wn ⟨rfl, hb⟩
        refine hK.out _ _ (heldK_step hHeld hb) (fun hHeld => ?_)
        clear hK K
        try simp only [Act.put, List.getElem_toArray, List.getElem_cons_zero, List.getElem_cons_succ, List.setIfInBounds_toArray, List.set_cons_zero, List.set_cons_succ]
        refine wpAnyH_ready (rs := [16]) (by kernel_rfl) (by simp) ?_
        refine AllReadyH.cons rfl (fun K hK => ?_) AllReadyH.nil
        rw [if_pos (by rfl)]
        go_simp
        go_at_call 11
        refine (AN2.out _).mono ?_
        rintro e wn ⟨rfl, hb⟩
        refine hK.out _ _ (heldK_step hHeld hb) (fun hHeld => ?_)
        clear hK K
        try simp only [Act.put, List.getElem_toArray, List.getElem_cons_zero, List.getElem_cons_succ, List.setIfInBounds_toArray, List.set_cons_zero, List.set_cons_succ]
        refine wpAnyH_ready (rs := [17]) (by kernel_rfl) (by simp) ?_
        refine AllReadyH.cons rfl (fun K hK => ?_) AllReadyH.nil
        rw [if_pos (by rfl)]
        go_simp
        go_at_call 7
        refine (OR2.out _).mono ?_
        rintro e wn ⟨rfl, hb⟩
        refine hK.out _ _ (heldK_step hHeld hb) (fun hHeld => ?_)
        clear hK K
        try simp only [Act.put, List.getElem_toArray, List.getElem_cons_zero, List.getElem_cons_succ, List.setIfInBounds_toArray, List.set_cons_zero, List.set_cons_succ]
        refine wpAnyH_take (i := 18) (v := ?v20) rfl (by kernel_rfl) (by kernel_rfl) (by kernel_rfl) (fun _ _ _ h => h) (Or.inl ⟨by rfl, ?y20⟩) (by assumption) ?r20
        case y20 => (intro w hSw; (go_simp <;> first | with_reducible rfl | (rw [if_pos (by omega)] <;> with_reducible rfl)))
        try simp only [Act.put, List.getElem_toArray, List.getElem_cons_zero, List.getElem_cons_succ, List.setIfInBounds_toArray, List.set_cons_zero, List.set_cons_succ]
        refine wpAnyH_take (i := 19) (v := ?v21) rfl (by kernel_rfl) (by kernel_rfl) (by kernel_rfl) (fun _ _ _ h => h) (Or.inl ⟨by rfl, ?y21⟩) (by assumption) ?r21
        case y21 => (intro w hSw; (go_simp <;> first | with_reducible rfl | (rw [if_pos (by omega)] <;> with_reducible rfl)))
        try simp only [Act.put, List.getElem_toArray, List.getElem_cons_zero, List.getElem_cons_succ, List.setIfInBounds_toArray, List.set_cons_zero, List.set_cons_succ]
        refine wpAnyH_take (i := 20) (v := ?v22) rfl (by kernel_rfl) (by kernel_rfl) (by kernel_rfl) (fun _ _ _ h => h) (Or.inl ⟨by rfl, ?y22⟩) (by assumption) ?r22
        case y22 => (intro w hSw; (go_simp <;> first | with_reducible rfl | (rw [if_pos (by omega)] <;> with_reducible rfl)))
        try simp only [Act.put, List.getElem_toArray, List.getElem_cons_zero, List.getElem_cons_succ, List.setIfInBounds_toArray, List.set_cons_zero, List.set_cons_succ]
        refine wpAnyH_take (i := 21) (v := ?v23) rfl (by kernel_rfl) (by kernel_rfl) (by kernel_rfl) (fun _ _ _ h => h) (Or.inl ⟨by rfl, ?y23⟩) (by assumption) ?r23
        case y23 => (intro w hSw; (go_simp <;> first | with_reducible rfl | (rw [if_pos (by omega)] <;> with_reducible rfl)))
        try simp only [Act.put, List.getElem_toArray, List.getElem_cons_zero, List.getElem_cons_succ, List.setIfInBounds_toArray, List.set_cons_zero, List.set_cons_succ]
        refine wpAnyH_take (i := 22) (v := ?v24) rfl (by kernel_rfl) (by kernel_rfl) (by kernel_rfl) (fun _ _ _ h => h) (Or.inl ⟨by rfl, ?y24⟩) (by assumption) ?r24
        case y24 => (intro w hSw; (go_simp <;> first | with_reducible rfl | (rw [if_pos (by omega)] <;> with_reducible rfl)))
        try simp only [Act.put, List.getElem_toArray, List.getElem_cons_zero, List.getElem_cons_succ, List.setIfInBounds_toArray, List.set_cons_zero, List.set_cons_succ]
        refine wpAnyH_ready (rs := [23]) (by kernel_rfl) (by simp) ?_
        refine AllReadyH.cons rfl (fun K hK => ?_) AllReadyH.nil
        rw [if_pos (by rfl)]
        go_simp
        go_at_call 9
        refine (MI1.out _).mono ?_
        rintro e wn ⟨rfl, hb⟩
        refine hK.out _ _ (heldK_step hHeld hb) (fun hHeld => ?_)
        clear hK K
        try simp only [Act.put, List.getElem_toArray, List.getElem_cons_zero, List.getElem_cons_succ, List.setIfInBounds_toArray, List.set_cons_zero, List.set_cons_succ]
        refine wpAnyH_ready (rs := [24]) (by kernel_rfl) (by simp) ?_
        refine AllReadyH.cons rfl (fun K hK => ?_) AllReadyH.nil
        rw [if_pos (by rfl)]
        go_simp
        go_at_call 10
        refine (EM.out _).mono ?_
        rintro e wn ⟨rfl, hb⟩
        refine hK.out _ _ (heldK_step hHeld hb) (fun hHeld => ?_)
        clear hK K
        try simp only [Act.put, List.getElem_toArray, List.getElem_cons_zero, List.getElem_cons_succ, List.setIfInBounds_toArray, List.set_cons_zero, List.set_cons_succ]
        refine wpAnyH_take (i := 25) (v := ?v25) rfl (by kernel_rfl) (by kernel_rfl) (by kernel_rfl) (fun _ _ _ h => h) (Or.inl ⟨by rfl, ?y25⟩) (by assumption) ?r25
        case y25 => (intro w hSw; (go_simp <;> first | with_reducible rfl | (rw [if_pos (by omega)] <;> with_reducible rfl)))
        try simp only [Act.put, List.getElem_toArray, List.getElem_cons_zero, List.getElem_cons_succ, List.setIfInBounds_toArray, List.set_cons_zero, List.set_cons_succ]
        refine wpAnyH_take (i := 26) (v := ?v26) rfl (by kernel_rfl) (by kernel_rfl) (by kernel_rfl) (fun _ _ _ h => h) (Or.inl ⟨by rfl, ?y26⟩) (by assumption) ?r26
        case y26 => (intro w hSw; (go_simp <;> first | with_reducible rfl | (rw [if_pos (by omega)] <;> with_reducible rfl)))
        try simp only [Act.put, List.getElem_toArray, List.getElem_cons_zero, List.getElem_cons_succ, List.setIfInBounds_toArray, List.set_cons_zero, List.set_cons_succ]
        refine wpAnyH_take (i := 27) (v := ?v27) rfl (by kernel_rfl) (by kernel_rfl) (by kernel_rfl) (fun _ _ _ h => h) (Or.inl ⟨by rfl, ?y27⟩) (by assumption) ?r27
        case y27 => (intro w hSw; (go_simp <;> first | with_reducible rfl | (rw [if_pos (by omega)] <;> with_reducible rfl)))
        try simp only [Act.put, List.getElem_toArray, List.getElem_cons_zero, List.getElem_cons_succ, List.setIfInBounds_toArray, List.set_cons_zero, List.set_cons_succ]
        refine wpAnyH_take (i := 28) (v := ?v28) rfl (by kernel_rfl) (by kernel_rfl) (by kernel_rfl) (fun _ _ _ h => h) (Or.inl ⟨by rfl, ?y28⟩) (by assumption) ?r28
        case y28 => (intro w hSw; (go_simp <;> first | with_reducible rfl | (rw [if_pos (by omega)] <;> with_reducible rfl)))
        try simp only [Act.put, List.getElem_toArray, List.getElem_cons_zero, List.getElem_cons_succ, List.setIfInBounds_toArray, List.set_cons_zero, List.set_cons_succ]
        refine wpAnyH_take (i := 30) (v := ?v29) rfl (by kernel_rfl) (by kernel_rfl) (by kernel_rfl) (fun _ _ _ h => h) (Or.inl ⟨by rfl, ?y29⟩) (by assumption) ?r29
        case y29 => (intro w hSw; (go_simp <;> first | with_reducible rfl | (rw [if_pos (by omega)] <;> with_reducible rfl)))
        try simp only [Act.put, List.getElem_toArray, List.getElem_cons_zero, List.getElem_cons_succ, List.setIfInBounds_toArray, List.set_cons_zero, List.set_cons_succ]
        refine wpAnyH_ready (rs := [29]) (by kernel_rfl) (by simp) ?_
        refine AllReadyH.cons rfl (fun K hK => ?_) AllReadyH.nil
        rw [if_pos (by rfl)]
        go_simp
        go_at_call 21
        refine (F2.out _ _ _ _ (HRV.out.grow hHeld.1)).mono ?_
        rintro e wn ⟨rfl, hb⟩
        refine hK.out _ _ (heldK_step hHeld hb) (fun hHeld => ?_)
        clear hK K
        try simp only [Act.put, List.getElem_toArray, List.getElem_cons_zero, List.getElem_cons_succ, List.setIfInBounds_toArray, List.set_cons_zero, List.set_cons_succ]
        refine wpAnyH_ready (rs := [31]) (by kernel_rfl) (by simp) ?_
        refine AllReadyH.cons rfl (fun K hK => ?_) AllReadyH.nil
        rw [if_pos (by rfl)]
        go_simp
        go_at_call 21
        refine (F7.out _ _ _ _ (HRV.out.grow hHeld.1)).mono ?_
        rintro e wn ⟨rfl, hb⟩
        refine hK.out _ _ (heldK_step hHeld hb) (fun hHeld => ?_)
        clear hK K
        try simp only [Act.put, List.getElem_toArray, List.getElem_cons_zero, List.getElem_cons_succ, List.setIfInBounds_toArray, List.set_cons_zero, List.set_cons_succ]
        refine wpAnyH_ready (rs := [32]) (by kernel_rfl) (by simp) ?_
        refine AllReadyH.cons rfl (fun K hK => ?_) AllReadyH.nil
        rw [if_pos (by rfl)]
        go_simp
        go_at_call 9
        refine (MI2.out _).mono ?_
        rintro e wn ⟨rfl, hb⟩
        refine hK.out _ _ (heldK_step hHeld hb) (fun hHeld => ?_)
        clear hK K
        try simp only [Act.put, List.getElem_toArray, List.getElem_cons_zero, List.getElem_cons_succ, List.setIfInBounds_toArray, List.set_cons_zero, List.set_cons_succ]
        refine wpAnyH_ready (rs := [33]) (by kernel_rfl) (by simp) ?_
        refine AllReadyH.cons rfl (fun K hK => ?_) AllReadyH.nil
        rw [if_pos (by rfl)]
        go_simp
        go_at_call 10
        refine (EM.out _).mono ?_
        rintro e wn ⟨rfl, hb⟩
        refine hK.out _ _ (heldK_step hHeld hb) (fun hHeld => ?_)
        clear hK K
        try simp only [Act.put, List.getElem_toArray, List.getElem_cons_zero, List.getElem_cons_succ, List.setIfInBounds_toArray, List.set_cons_zero, List.set_cons_succ]
        refine wpAnyH_take (i := 34) (v := ?v30) rfl (by kernel_rfl) (by kernel_rfl) (by kernel_rfl) (fun _ _ _ h => h) (Or.inl ⟨by rfl, ?y30⟩) (by assumption) ?r30
        case y30 => (intro w hSw; (go_simp <;> first | with_reducible rfl | (rw [if_pos (by omega)] <;> with_reducible rfl)))
        try simp only [Act.put, List.getElem_toArray, List.getElem_cons_zero, List.getElem_cons_succ, List.setIfInBounds_toArray, List.set_cons_zero, List.set_cons_succ]
        refine wpAnyH_take (i := 35) (v := ?v31) rfl (by kernel_rfl) (by kernel_rfl) (by kernel_rfl) (fun _ _ _ h => h) (Or.inl ⟨by rfl, ?y31⟩) (by assumption) ?r31
        case y31 => (intro w hSw; (go_simp <;> first | with_reducible rfl | (rw [if_pos (by omega)] <;> with_reducible rfl)))
        try simp only [Act.put, List.getElem_toArray, List.getElem_cons_zero, List.getElem_cons_succ, List.setIfInBounds_toArray, List.set_cons_zero, List.set_cons_succ]
        refine wpAnyH_take (i := 36) (v := ?v32) rfl (by kernel_rfl) (by kernel_rfl) (by kernel_rfl) (fun _ _ _ h => h) (Or.inl ⟨by rfl, ?y32⟩) (by assumption) ?r32
        case y32 => (intro w hSw; (go_simp <;> first | with_reducible rfl | (rw [if_pos (by omega)] <;> with_reducible rfl)))
        try simp only [Act.put, List.getElem_toArray, List.getElem_cons_zero, List.getElem_cons_succ, List.setIfInBounds_toArray, List.set_cons_zero, List.set_cons_succ]
        refine wpAnyH_take (i := 37) (v := ?v33) rfl (by kernel_rfl) (by kernel_rfl) (by kernel_rfl) (fun _ _ _ h => h) (Or.inl ⟨by rfl, ?y33⟩) (by assumption) ?r33
        case y33 => (intro w hSw; (go_simp <;> first | with_reducible rfl | (rw [if_pos (by omega)] <;> with_reducible rfl)))
        try simp only [Act.put, List.getElem_toArray, List.getElem_cons_zero, List.getElem_cons_succ, List.setIfInBounds_toArray, List.set_cons_zero, List.set_cons_succ]
        refine wpAnyH_take (i := 39) (v := ?v34) rfl (by kernel_rfl) (by kernel_rfl) (by kernel_rfl) (fun _ _ _ h => h) (Or.inl ⟨by rfl, ?y34⟩) (by assumption) ?r34
        case y34 => (intro w hSw; (go_simp <;> first | with_reducible rfl | (rw [if_pos (by omega)] <;> with_reducible rfl)))
        try simp only [Act.put, List.getElem_toArray, List.getElem_cons_zero, List.getElem_cons_succ, List.setIfInBounds_toArray, List.set_cons_zero, List.set_cons_succ]
        refine wpAnyH_ready (rs := [38]) (by kernel_rfl) (by simp) ?_
        refine AllReadyH.cons rfl (fun K hK => ?_) AllReadyH.nil
        rw [if_pos (by rfl)]
        go_simp
        go_at_call 21
        refine (F1.out _ _ _ _ (HRV.out.grow hHeld.1)).mono ?_
        rintro e wn ⟨rfl, hb⟩
        refine hK.out _ _ (heldK_step hHeld hb) (fun hHeld => ?_)
        clear hK K
        try simp only [Act.put, List.getElem_toArray, List.getElem_cons_zero, List.getElem_cons_succ, List.setIfInBounds_toArray, List.set_cons_zero, List.set_cons_succ]
        refine wpAnyH_ready (rs := [40]) (by kernel_rfl) (by simp) ?_
        refine AllReadyH.cons rfl (fun K hK => ?_) AllReadyH.nil
        rw [if_pos (by rfl)]
        go_simp
        go_at_call 21
        refine (F2.out _ _ _ _ (HRV.out.grow hHeld.1)).mono ?_
        rintro e wn ⟨rfl, hb⟩
        refine hK.out _ _ (heldK_step hHeld hb) (fun hHeld => ?_)
        clear hK K
        try simp only [Act.put, List.getElem_toArray, List.getElem_cons_zero, List.getElem_cons_succ, List.setIfInBounds_toArray, List.set_cons_zero, List.set_cons_succ]
        refine wpAnyH_ready (rs := [41]) (by kernel_rfl) (by simp) ?_
        refine AllReadyH.cons rfl (fun K hK => ?_) AllReadyH.nil
        rw [if_pos (by rfl)]
        go_simp
        go_at_call 9
        refine (MI3.out _).mono ?_
        rintro e wn ⟨rfl, hb⟩
        refine hK.out _ _ (heldK_step hHeld hb) (fun hHeld => ?_)
        clear hK K
        try simp only [Act.put, List.getElem_toArray, List.getElem_cons_zero, List.getElem_cons_succ, List.setIfInBounds_toArray, List.set_cons_zero, List.set_cons_succ]
        refine wpAnyH_ready (rs := [42]) (by kernel_rfl) (by simp) ?_
        refine AllReadyH.cons rfl (fun K hK => ?_) AllReadyH.nil
        rw [if_pos (by rfl)]
        go_simp
        go_at_call 10
        refine (EM.out _).mono ?_
        rintro e wn ⟨rfl, hb⟩
        refine hK.out _ _ (heldK_step hHeld hb) (fun hHeld => ?_)
        clear hK K
        try simp only [Act.put, List.getElem_toArray, List.getElem_cons_zero, List.getElem_cons_succ, List.setIfInBounds_toArray, List.set_cons_zero, List.set_cons_succ]
        refine wpAnyH_take (i := 43) (v := ?v35) rfl (by kernel_rfl) (by kernel_rfl) (by kernel_rfl) (fun _ _ _ h => h) (Or.inl ⟨by rfl, ?y35⟩) (by assumption) ?r35
        case y35 => (intro w hSw; (go_simp <;> first | with_reducible rfl | (rw [if_pos (by omega)] <;> with_reducible rfl)))
        try simp only [Act.put, List.getElem_toArray, List.getElem_cons_zero, List.getElem_cons_succ, List.setIfInBounds_toArray, List.set_cons_zero, List.set_cons_succ]
        refine wpAnyH_take (i := 44) (v := ?v36) rfl (by kernel_rfl) (by kernel_rfl) (by kernel_rfl) (fun _ _ _ h => h) (Or.inl ⟨by rfl, ?y36⟩) (by assumption) ?r36
        case y36 => (intro w hSw; (go_simp <;> first | with_reducible rfl | (rw [if_pos (by omega)] <;> with_reducible rfl)))
        try simp only [Act.put, List.getElem_toArray, List.getElem_cons_zero, List.getElem_cons_succ, List.setIfInBounds_toArray, List.set_cons_zero, List.set_cons_succ]
        refine wpAnyH_done (by kernel_rfl) ?_ _
        obtain ⟨hb15, _, zh2, zd2, _, _, h02, h12, d02, d12⟩ := hHeld
        have HRV := Lib.hid (HRV.out.grow hb15)
        have HBA := Lib.hid (bthen HBA.out hb15)
        have HT2 := HT.out.grow HBA.out
        have SQ' := Lib.hid (fun (W : World) (hb : Below wn.heap.size wn W) => SQ.out W (HT2.grow hb) (by have := hb.size; omega))
        clear hb15 HT2 zh zd h0 h1 d0 d1 ZK K0 K1 SQ
        go_wp2_with (first
          | (go_at_call 7; refine (ORH.out _).mono ?_; rintro e w10 ⟨rfl, hb10⟩)
          | (go_at_call 14; refine (SQ'.out _ hb10).mono ?_; rintro e w11 ⟨v, rfl, hO, hb11⟩; obtain ⟨o, cap, rfl, hsl⟩ := own_slice hO))
        have BZ := bthen hb10 hb11
        have HRV := Lib.hid (HRV.out.grow BZ)
        have HBA := Lib.hid (bthen HBA.out BZ)
        have HSL := Lib.hid hsl
        clear hsl hO hb10 hb11 BZ zh2 zd2 h02 h12 d02 d12 SQ'
        go_loopw [131] (fun i wr => ∃ j : Nat, j ≤ L.length ∧ i = .int .i64 j ∧ Below w11.heap.size w11 wr) (fun i _ => L.length - (intOf i).toNat)
        case atStart => exact ⟨0, Nat.zero_le _, rfl, bref _⟩
        case round =>
          obtain ⟨j, hj, rfl, hW⟩ := hrel
          have HR := Lib.hid (HRV.out.grow hW)
          have HW := Lib.hid hW
          by_cases hlt : j < L.length
          · obtain ⟨g, rfl, hg, hc⟩ := HSL.out j hlt
            have c1 := (hW.cell (p := ⟨g, 0 + j, none⟩) hg).trans hc
            rw [Nat.zero_add] at c1
            have hl := HL.out _ (List.getElem_mem hlt)
            have BTX := Lib.hid (fun W => BT.out L[j] W)
            have AX := Lib.hid (fun W => ANB.out L[j] hl W)
            rw [lo_zero, hi_zero] at AX
            clear hl hc hW
            generalize loW (betN q L[j]) = b0 at BTX AX
            generalize hiW (betN q L[j]) = b1 at BTX AX
            generalize L[j] = x at c1 BTX AX
            go_wp2_with fail
            refine wp_region_held_drew (S := fun w' => Below wr.heap.size wr w' ∧ w.heap.size + 1 < w'.heap.size ∧ w.heap.size + 1 + 1 < w'.heap.size ∧ w'.cell? ⟨w.heap.size + 1, 0, none⟩ = some (.int .i64 q) ∧ w'.cell? ⟨w.heap.size + 1 + 1, 0, none⟩ = some (.int .u64 nl) ∧ w'.cell? ⟨w.heap.size + 1 + 1, 1, none⟩ = some (.int .u64 nh)) (by kernel_rfl) ?_ (fun hHeld => ?_)
            · exact ⟨(bref wr).drew, HR.out.z1, HR.out.z2, HR.out.c1, HR.out.c2, HR.out.c3⟩
            refine wpAnyH_take (i := 0) (v := ?v37) rfl (by kernel_rfl) (by kernel_rfl) (by kernel_rfl) (fun _ _ _ h => h) (Or.inl ⟨by rfl, ?y37⟩) (by assumption) ?r37
            case y37 => (intro w hSw; (go_simp <;> first | with_reducible rfl | (rw [if_pos (by omega)] <;> with_reducible rfl)))
            try simp only [Act.put, List.getElem_toArray, List.getElem_cons_zero, List.getElem_cons_succ, List.setIfInBounds_toArray, List.set_cons_zero, List.set_cons_succ]
            refine wpAnyH_take (i := 1) (v := ?v38) rfl (by kernel_rfl) (by kernel_rfl) (by kernel_rfl) (fun _ _ _ h => h) (Or.inl ⟨by rfl, ?y38⟩) (by assumption) ?r38
            case y38 => (intro w hSw; (go_simp <;> first | with_reducible rfl | (rw [if_pos (by omega)] <;> with_reducible rfl)))
            try simp only [Act.put, List.getElem_toArray, List.getElem_cons_zero, List.getElem_cons_succ, List.setIfInBounds_toArray, List.set_cons_zero, List.set_cons_succ]
            refine wpAnyH_take (i := 3) (v := ?v39) rfl (by kernel_rfl) (by kernel_rfl) (by kernel_rfl) (fun _ _ _ h => h) (Or.inl ⟨by rfl, ?y39⟩) (by assumption) ?r39
            case y39 => (intro w hSw; (go_simp <;> first | with_reducible rfl | (rw [if_pos (by omega)] <;> with_reducible rfl)))
            try simp only [Act.put, List.getElem_toArray, List.getElem_cons_zero, List.getElem_cons_succ, List.setIfInBounds_toArray, List.set_cons_zero, List.set_cons_succ]
            refine wpAnyH_ready (rs := [2]) (by kernel_rfl) (by simp) ?_
            refine AllReadyH.cons rfl (fun K hK => ?_) AllReadyH.nil
            rw [if_pos (by rfl)]
            go_simp
            go_at_call 24
            refine (BTX.out _).mono ?_
            rintro e wn ⟨rfl, hb⟩
            refine hK.out _ _ (heldS_step hHeld hb) (fun hHeld => ?_)
            clear hK K
            try simp only [Act.put, List.getElem_toArray, List.getElem_cons_zero, List.getElem_cons_succ, List.setIfInBounds_toArray, List.set_cons_zero, List.set_cons_succ]
            refine wpAnyH_ready (rs := [4]) (by kernel_rfl) (by simp) ?_
            refine AllReadyH.cons rfl (fun K hK => ?_) AllReadyH.nil
            rw [if_pos (by rfl)]
            go_simp
            go_at_call 11
            refine (AX.out _).mono ?_
            rintro e wn ⟨rfl, hb⟩
            refine hK.out _ _ (heldS_step hHeld hb) (fun hHeld => ?_)
            clear hK K
            try simp only [Act.put, List.getElem_toArray, List.getElem_cons_zero, List.getElem_cons_succ, List.setIfInBounds_toArray, List.set_cons_zero, List.set_cons_succ]
            refine wpAnyH_ready (rs := [5]) (by kernel_rfl) (by simp) ?_
            refine AllReadyH.cons rfl (fun K hK => ?_) AllReadyH.nil
            rw [if_pos (by rfl)]
            go_simp
            go_at_call 10
            refine (EM.out _).mono ?_
            rintro e wn ⟨rfl, hb⟩
            refine hK.out _ _ (heldS_step hHeld hb) (fun hHeld => ?_)
            clear hK K
            try simp only [Act.put, List.getElem_toArray, List.getElem_cons_zero, List.getElem_cons_succ, List.setIfInBounds_toArray, List.set_cons_zero, List.set_cons_succ]
            refine wpAnyH_take (i := 6) (v := ?v40) rfl (by kernel_rfl) (by kernel_rfl) (by kernel_rfl) (fun _ _ _ h => h) (Or.inl ⟨by rfl, ?y40⟩) (by assumption) ?r40
            case y40 => (intro w hSw; (go_simp <;> first | with_reducible rfl | (rw [if_pos (by omega)] <;> with_reducible rfl)))
            try simp only [Act.put, List.getElem_toArray, List.getElem_cons_zero, List.getElem_cons_succ, List.setIfInBounds_toArray, List.set_cons_zero, List.set_cons_succ]
            refine wpAnyH_done (by kernel_rfl) ?_ _
            have hlen := HLEN.out
            go_wp2
            go_roundw
            case rel => exact ⟨j + 1, by omega, by go_num, HW.out.trans (hHeld.1.mono HW.out.size)⟩
            case measure => simp [intOf]; omega
          · obtain rfl : j = L.length := by omega
            go_wp2
            go_ret
            exact ⟨rfl, bthen HBA.out HW.out⟩
end Go.Proofs.YtnmekghjkajhcaaDoor.wholeReach
