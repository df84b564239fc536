/-
  The walk of the law SetLines: for every number it returns true.
-/
import Derived.Test.YtopggngfchjfhaaDoorReal
namespace Go.Proofs.YtopggngfchjfhaaDoor.setLines
open Go.RowKit
set_option linter.unusedVariables false

def uniF (k : Nat) : Nat := (List.range k).foldl (fun s (i : Nat) => s ||| ofN (fileL i 9)) 0
def uniR (k : Nat) : Nat := (List.range k).foldl (fun s (i : Nat) => s ||| ofN (rankL i 9)) 0
theorem uniF_step (k : Nat) : uniF k ||| ofN (fileL k 9) = uniF (k + 1) := by
  unfold uniF
  rw [List.range_succ, List.foldl_append]
  rfl
theorem uniR_step (k : Nat) : uniR k ||| ofN (rankL k 9) = uniR (k + 1) := by
  unfold uniR
  rw [List.range_succ, List.foldl_append]
  rfl
theorem uni_sq (f : Nat → Nat) (hf : ∀ i, Sq (f i)) : ∀ (l : List Nat) (s : Nat), Sq s → Sq (l.foldl (fun s i => s ||| f i) s)
  | [], _, h => h
  | i :: l, s, h => uni_sq f hf l _ (h.or (hf i))
theorem uniF_sq (k : Nat) : Sq (uniF k) := uni_sq (fun i => ofN (fileL i 9)) (fun _ => ofN_sq _) _ _ Sq.zero
theorem uniR_sq (k : Nat) : Sq (uniR k) := uni_sq (fun i => ofN (rankL i 9)) (fun _ => ofN_sq _) _ _ Sq.zero
theorem uni_full : uniF 9 = full ∧ uniR 9 = full := by decide +kernel
theorem apart : ∀ i : Nat, i < 9 → ∀ n : Nat, n < 9 → i ≠ n → ofN (fileL i 9) &&& ofN (fileL n 9) = 0 ∧ ofN (rankL i 9) &&& ofN (rankL n 9) = 0 := by decide +kernel
theorem nine : ∀ n : Nat, n < 9 → pop 81 (ofN (fileL n 9)) = 9 ∧ pop 81 (ofN (rankL n 9)) = 9 := by decide +kernel
theorem full_count : pop 81 full = 81 := by decide +kernel
theorem out_file (n : Int) (h : n < 0 ∨ 8 < n) : ofN (fileL n 9) = 0 ∧ ofN (rankL n 9) = 0 := by
  have e1 : fileL n 9 = List.replicate 9 (-1) := by
    have : ∀ r : Nat, squareF n r = -1 := fun r => if_neg (by omega)
    simp [fileL, this, List.range, List.range.loop, List.replicate]
  have e2 : rankL n 9 = List.replicate 9 (-1) := by
    have : ∀ r : Nat, squareF r n = -1 := fun r => if_neg (by omega)
    simp [rankL, this, List.range, List.range.loop, List.replicate]
  rw [e1, e2]
  decide +kernel

theorem walk_out (n : Int) (h : n < 0 ∨ 8 < n) (w : World) (hT : Tab w) :
    Calls Tryd.prog 7 #[.int .i64 n] w fun e w' => e = .returned (.bool true) ∧ Below w.heap.size w w' := by
  have IF := Lib.hid (fun W => inFile_any n W)
  have IR := Lib.hid (fun W => inRank_any n W)
  rw [(out_file n h).1] at IF
  rw [(out_file n h).2] at IR
  have E := Lib.hid (fun W => empty_any 0 W)
  rw [show decide ((0 : Nat) = 0) = true from rfl] at E
  generalize loW 0 = x at IF IR E
  generalize hiW 0 = y at IF IR E
  have H := Lib.hid (holds_true w hT)
  clear hT
  by_cases h0 : n < 0
  · clear h
    go_enter Tryd.func7, Tryd.ntmps7
    go_wp2_with (go_at_call 10; refine H.out.mono ?_; rintro e w1 ⟨rfl, hB⟩)
    refine (IF.out _).mono ?_
    rintro e w2 ⟨rfl, hb2⟩
    go_wp2_with fail
    refine (E.out _).mono ?_
    rintro e w3 ⟨rfl, hb3⟩
    go_wp2_with fail
    refine (IR.out _).mono ?_
    rintro e w4 ⟨rfl, hb4⟩
    go_wp2_with fail
    refine (E.out _).mono ?_
    rintro e w5 ⟨rfl, hb5⟩
    go_wp2
    go_ret
    exact ⟨rfl, bthen (bthen (bthen (bthen hB hb2) hb3) hb4) hb5⟩
  · have h8 : 8 < n := by omega
    clear h
    go_enter Tryd.func7, Tryd.ntmps7
    go_wp2_with (go_at_call 10; refine H.out.mono ?_; rintro e w1 ⟨rfl, hB⟩)
    refine (IF.out _).mono ?_
    rintro e w2 ⟨rfl, hb2⟩
    go_wp2_with fail
    refine (E.out _).mono ?_
    rintro e w3 ⟨rfl, hb3⟩
    go_wp2_with fail
    refine (IR.out _).mono ?_
    rintro e w4 ⟨rfl, hb4⟩
    go_wp2_with fail
    refine (E.out _).mono ?_
    rintro e w5 ⟨rfl, hb5⟩
    go_wp2
    go_ret
    exact ⟨rfl, bthen (bthen (bthen (bthen hB hb2) hb3) hb4) hb5⟩

set_option maxHeartbeats 8000000 in
theorem walk_sq (n : Nat) (hn : n < 9) (w : World) (hT : Tab w) :
    Calls Tryd.prog 7 #[.int .i64 n] w fun e w' => e = .returned (.bool true) ∧ Below w.heap.size w w' := by
  have H := Lib.hid (holds_true w hT)
  clear hT
  have n0 : ¬ (n : Int) < 0 := by omega
  have n8 : ¬ 8 < (n : Int) := by omega
  go_enter Tryd.func7, Tryd.ntmps7
  go_wp2_with (go_at_call 10; refine H.out.mono ?_; rintro e w1 ⟨rfl, hB1⟩)
  have HB1 := Lib.hid hB1
  clear hB1 H
  go_loopw [5] (fun i wr => ∃ k : Nat, k ≤ 9 ∧ i = .int .i64 k ∧ Below w.heap.size w wr ∧ w.heap.size ≤ w1.heap.size ∧ Var wr w1.heap.size (loW (uniF k)) (hiW (uniF k)) ∧ Var wr (w1.heap.size + 1) (loW (uniR k)) (hiW (uniR k))) (fun i _ => 9 - (intOf i).toNat)
  case atStart =>
    refine ⟨0, Nat.zero_le _, rfl, ball (ball HB1.out _) _, HB1.out.size, ⟨?_, ?_, ?_, ?_, ?_⟩, ⟨?_, ?_, ?_, ?_, ?_⟩⟩
    case refine_2 => rw [show uniF 0 = 0 from rfl, lo_zero]; go_simp
    case refine_3 => rw [show uniF 0 = 0 from rfl, hi_zero]; go_simp
    case refine_7 => rw [show uniR 0 = 0 from rfl, lo_zero]; go_simp
    case refine_8 => rw [show uniR 0 = 0 from rfl, hi_zero]; go_simp
    all_goals first | (go_simp; done) | (simp; done) | (simp; omega)
  case round =>
    obtain ⟨k, hk, rfl, hB, hs, hV, hU⟩ := hrel
    have HB := Lib.hid hB
    clear hB HB1
    by_cases hlt : k < 9
    · have IFk := Lib.hid (fun W => inFile_any k W)
      have IRk := Lib.hid (fun W => inRank_any k W)
      have O1 := Lib.hid (fun W => or_any (uniF k) (ofN (fileL k 9)) (uniF_sq k) (ofN_sq _) W)
      have O2 := Lib.hid (fun W => or_any (uniR k) (ofN (rankL k 9)) (uniR_sq k) (ofN_sq _) W)
      rw [uniF_step] at O1
      rw [uniR_step] at O2
      by_cases hkn : k = n
      · subst hkn
        have dd : ((k : Int) != (k : Int)) = false := by simp
        obtain ⟨W, hW, HBW⟩ : ∃ W, W = wr ∧ Below wr.heap.size wr W := ⟨wr, rfl, bref _⟩
        subst hW
        generalize qx1 : loW (uniF k) = u1 at O1 hV
        generalize qx2 : hiW (uniF k) = u2 at O1 hV
        generalize qx3 : loW (uniR k) = u3 at O2 hU
        generalize qx4 : hiW (uniR k) = u4 at O2 hU
        generalize qy1 : loW (uniF (k + 1)) = t1 at O1
        generalize qy2 : hiW (uniF (k + 1)) = t2 at O1
        generalize qy3 : loW (uniR (k + 1)) = t3 at O2
        generalize qy4 : hiW (uniR (k + 1)) = t4 at O2
        generalize loW (ofN (fileL k 9)) = f1 at *
        generalize hiW (ofN (fileL k 9)) = f2 at *
        generalize loW (ofN (rankL k 9)) = r1 at *
        generalize hiW (ofN (rankL k 9)) = r2 at *
        have Q1 := Lib.hid qy1
        have Q2 := Lib.hid qy2
        have Q3 := Lib.hid qy3
        have Q4 := Lib.hid qy4
        have HV := Lib.hid hV
        have HU := Lib.hid hU
        clear qx1 qx2 qx3 qx4 qy1 qy2 qy3 qy4 hV hU
        have HX := Lib.hid HBW
        have hV := HV.out.grow HBW
        have hU := HU.out.grow HBW
        have l0 := hV.lo
        have l1 := hV.hi
        have l2 := hV.f0
        have l3 := hV.f1
        have l4 := hU.lo
        have l5 := hU.hi
        have l6 := hU.f0
        have l7 := hU.f1
        have y0 := hV.lt
        have z0 := hU.lt
        clear hV hU HBW
        go_wp2_with fail
        go_region_with (first
          | (go_at_call 32; refine (IFk.out _).mono ?_; rintro e wa ⟨rfl, hba⟩; have hA := bthen (bref W).drew hba; obtain ⟨hca, hfa⟩ := bcells hA; have za : w1.heap.size + 1 < wa.heap.size := (by have := hA.size; omega); have ya : w1.heap.size < wa.heap.size := (by omega))
          | (go_at_call_of 18 (Value.int .u64 f1); refine (O1.out _).mono ?_; rintro e wb ⟨rfl, hbb⟩; obtain ⟨hcb, hfb⟩ := bcells hbb; have zb : w1.heap.size + 1 < wb.heap.size := (by have := hbb.size; omega); have yb : w1.heap.size < wb.heap.size := (by omega))
          | (go_at_call 33; refine (IRk.out _).mono ?_; rintro e wc ⟨rfl, hbc⟩; obtain ⟨hcc, hfc⟩ := bcells hbc; have zc : w1.heap.size + 1 < wc.heap.size := (by have := hbc.size; omega); have yc : w1.heap.size < wc.heap.size := (by omega))
          | (go_at_call_of 18 (Value.int .u64 r1); refine (O2.out _).mono ?_; rintro e wd ⟨rfl, hbd⟩; obtain ⟨hcd, hfd⟩ := bcells hbd; have zd : w1.heap.size + 1 < wd.heap.size := (by have := hbd.size; omega); have yd : w1.heap.size < wd.heap.size := (by omega)))
        all_goals
          go_wp2
          go_roundw
          case rel =>
            have hq := bthen (bthen (bthen (bthen HX.out hA) hbb) hbc) hbd
            refine ⟨k + 1, by omega, by go_num, ?_, hs, ?_, ?_⟩
            · exact ((((bthen HB.out hq).setCell hs _).setCell hs _).setCell (Nat.le_succ_of_le hs) _).setCell (Nat.le_succ_of_le hs) _
            · rw [Q1.out, Q2.out]
              exact ((HV.out.grow hq).put _ _).other (by omega) _ _
            · rw [Q3.out, Q4.out]
              exact ((HU.out.grow hq).other (by omega) _ _).put _ _
          case measure => simp [intOf]; omega
      · have IFn := Lib.hid (fun W => inFile_any n W)
        have IRn := Lib.hid (fun W => inRank_any n W)
        have A1 := Lib.hid (fun W => and_any (ofN (fileL k 9)) (ofN (fileL n 9)) (ofN_sq _) (ofN_sq _) W)
        have A2 := Lib.hid (fun W => and_any (ofN (rankL k 9)) (ofN (rankL n 9)) (ofN_sq _) (ofN_sq _) W)
        rw [(apart k hlt n hn hkn).1] at A1
        rw [(apart k hlt n hn hkn).2] at A2
        have E := Lib.hid (fun W => empty_any 0 W)
        rw [show decide ((0 : Nat) = 0) = true from rfl] at E
        have dd : ((k : Int) != (n : Int)) = true := by simp; omega
        generalize loW 0 = z1 at A1 A2 E
        generalize hiW 0 = z2 at A1 A2 E
        generalize qx1 : loW (uniF k) = u1 at O1 hV
        generalize qx2 : hiW (uniF k) = u2 at O1 hV
        generalize qx3 : loW (uniR k) = u3 at O2 hU
        generalize qx4 : hiW (uniR k) = u4 at O2 hU
        generalize qy1 : loW (uniF (k + 1)) = t1 at O1
        generalize qy2 : hiW (uniF (k + 1)) = t2 at O1
        generalize qy3 : loW (uniR (k + 1)) = t3 at O2
        generalize qy4 : hiW (uniR (k + 1)) = t4 at O2
        generalize loW (ofN (fileL k 9)) = f1 at *
        generalize hiW (ofN (fileL k 9)) = f2 at *
        generalize loW (ofN (rankL k 9)) = r1 at *
        generalize hiW (ofN (rankL k 9)) = r2 at *
        have Q1 := Lib.hid qy1
        have Q2 := Lib.hid qy2
        have Q3 := Lib.hid qy3
        have Q4 := Lib.hid qy4
        have HV := Lib.hid hV
        have HU := Lib.hid hU
        clear qx1 qx2 qx3 qx4 qy1 qy2 qy3 qy4 hV hU
        generalize loW (ofN (fileL n 9)) = c1 at IFn A1
        generalize hiW (ofN (fileL n 9)) = c2 at IFn A1
        generalize loW (ofN (rankL n 9)) = c3 at IRn A2
        generalize hiW (ofN (rankL n 9)) = c4 at IRn A2
        go_wp2_with fail
        refine (IFk.out _).mono ?_
        rintro e v1 ⟨rfl, p1⟩
        go_wp2_with fail
        refine (IFn.out _).mono ?_
        rintro e v2 ⟨rfl, p2⟩
        go_wp2_with fail
        refine (A1.out _).mono ?_
        rintro e v3 ⟨rfl, p3⟩
        go_wp2_with fail
        refine (E.out _).mono ?_
        rintro e v4 ⟨rfl, p4⟩
        go_wp2_with fail
        refine (IRk.out _).mono ?_
        rintro e v5 ⟨rfl, p5⟩
        go_wp2_with fail
        refine (IRn.out _).mono ?_
        rintro e v6 ⟨rfl, p6⟩
        go_wp2_with fail
        refine (A2.out _).mono ?_
        rintro e v7 ⟨rfl, p7⟩
        go_wp2_with fail
        refine (E.out _).mono ?_
        rintro e W ⟨rfl, p8⟩
        have HBW : Below wr.heap.size wr W := bthen (bthen (bthen (bthen (bthen (bthen (bthen p1 p2) p3) p4) p5) p6) p7) p8
        clear p1 p2 p3 p4 p5 p6 p7 p8 IFn IRn A1 A2 E
        have HX := Lib.hid HBW
        have hV := HV.out.grow HBW
        have hU := HU.out.grow HBW
        have l0 := hV.lo
        have l1 := hV.hi
        have l2 := hV.f0
        have l3 := hV.f1
        have l4 := hU.lo
        have l5 := hU.hi
        have l6 := hU.f0
        have l7 := hU.f1
        have y0 := hV.lt
        have z0 := hU.lt
        clear hV hU HBW
        go_wp2_with fail
        go_region_with (first
          | (go_at_call 32; refine (IFk.out _).mono ?_; rintro e wa ⟨rfl, hba⟩; have hA := bthen (bref W).drew hba; obtain ⟨hca, hfa⟩ := bcells hA; have za : w1.heap.size + 1 < wa.heap.size := (by have := hA.size; omega); have ya : w1.heap.size < wa.heap.size := (by omega))
          | (go_at_call_of 18 (Value.int .u64 f1); refine (O1.out _).mono ?_; rintro e wb ⟨rfl, hbb⟩; obtain ⟨hcb, hfb⟩ := bcells hbb; have zb : w1.heap.size + 1 < wb.heap.size := (by have := hbb.size; omega); have yb : w1.heap.size < wb.heap.size := (by omega))
          | (go_at_call 33; refine (IRk.out _).mono ?_; rintro e wc ⟨rfl, hbc⟩; obtain ⟨hcc, hfc⟩ := bcells hbc; have zc : w1.heap.size + 1 < wc.heap.size := (by have := hbc.size; omega); have yc : w1.heap.size < wc.heap.size := (by omega))
          | (go_at_call_of 18 (Value.int .u64 r1); refine (O2.out _).mono ?_; rintro e wd ⟨rfl, hbd⟩; obtain ⟨hcd, hfd⟩ := bcells hbd; have zd : w1.heap.size + 1 < wd.heap.size := (by have := hbd.size; omega); have yd : w1.heap.size < wd.heap.size := (by omega)))
        all_goals
          go_wp2
          go_roundw
          case rel =>
            have hq := bthen (bthen (bthen (bthen HX.out hA) hbb) hbc) hbd
            refine ⟨k + 1, by omega, by go_num, ?_, hs, ?_, ?_⟩
            · exact ((((bthen HB.out hq).setCell hs _).setCell hs _).setCell (Nat.le_succ_of_le hs) _).setCell (Nat.le_succ_of_le hs) _
            · rw [Q1.out, Q2.out]
              exact ((HV.out.grow hq).put _ _).other (by omega) _ _
            · rw [Q3.out, Q4.out]
              exact ((HU.out.grow hq).other (by omega) _ _).put _ _
          case measure => simp [intOf]; omega
    · obtain rfl : k = 9 := by omega
      have IFn := Lib.hid (fun W => inFile_any n W)
      have IRn := Lib.hid (fun W => inRank_any n W)
      have C1 := Lib.hid (fun W => count_any (ofN (fileL n 9)) (ofN_sq _) W)
      have C2 := Lib.hid (fun W => count_any (ofN (rankL n 9)) (ofN_sq _) W)
      have AL := Lib.hid (fun W => all_any W)
      have C3 := Lib.hid (fun W => count_any full Sq.full W)
      rw [(nine n hn).1] at C1
      rw [(nine n hn).2] at C2
      rw [full_count] at C3
      rw [uni_full.1] at hV
      rw [uni_full.2] at hU
      generalize loW full = t1 at AL C3 hV hU
      generalize hiW full = t2 at AL C3 hV hU
      generalize loW (ofN (fileL n 9)) = f1 at IFn C1
      generalize hiW (ofN (fileL n 9)) = f2 at IFn C1
      generalize loW (ofN (rankL n 9)) = r1 at IRn C2
      generalize hiW (ofN (rankL n 9)) = r2 at IRn C2
      have l0 := hV.lo
      have l1 := hV.hi
      have l2 := hU.lo
      have l3 := hU.hi
      have hz0 := hV.lt
      have hz1 := hU.lt
      clear hV hU
      go_wp2_with fail
      go_region_held3 (fun w' => Below wr.heap.size wr w' ∧ w1.heap.size < w'.heap.size ∧ w1.heap.size + 1 < w'.heap.size ∧ w'.cell? ⟨w1.heap.size, 0, none⟩ = some (.int .u64 t1) ∧ w'.cell? ⟨w1.heap.size, 1, none⟩ = some (.int .u64 t2) ∧ w'.cell? ⟨w1.heap.size + 1, 0, none⟩ = some (.int .u64 t1) ∧ w'.cell? ⟨w1.heap.size + 1, 1, none⟩ = some (.int .u64 t2)) (first | exact ⟨(bref wr).drew, hz0, hz1, l0, l1, l2, l3⟩ | exact held_step (by assumption) hb)
        (first
          | (go_at_call 32; refine (IFn.out _).mono ?_; rintro e wn ⟨rfl, hb⟩)
          | (go_at_call 33; refine (IRn.out _).mono ?_; rintro e wn ⟨rfl, hb⟩)
          | (go_at_call 22; refine (AL.out _).mono ?_; rintro e wn ⟨rfl, hb⟩)
          | (go_at_call_of 26 (Value.int .u64 f1); refine (C1.out _).mono ?_; rintro e wn ⟨rfl, hb⟩)
          | (go_at_call_of 26 (Value.int .u64 r1); refine (C2.out _).mono ?_; rintro e wn ⟨rfl, hb⟩)
          | (go_at_call_of 26 (Value.int .u64 t1); refine (C3.out _).mono ?_; rintro e wn ⟨rfl, hb⟩))
      go_wp2
      go_ret
      exact ⟨rfl, bthen HB.out (held_fst (by assumption))⟩

theorem walk (a0 : Int) (w0 : (Lit.int .i64 a0).wf = true) (w : World) (hT : Tab w) :
    Calls Tryd.prog 7 #[.int .i64 a0] w fun e w' => e = .returned (.bool true) ∧ Below w.heap.size w w' := by
  by_cases h : a0 < 0 ∨ 8 < a0
  · exact walk_out a0 h w hT
  · obtain ⟨n, rfl⟩ : ∃ n : Nat, a0 = n := ⟨a0.toNat, by omega⟩
    exact walk_sq n (by omega) w hT
end Go.Proofs.YtopggngfchjfhaaDoor.setLines
