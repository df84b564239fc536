/-
  The walk of the law BoardAsks, in one case.
-/
import Derived.Test.YtmnkbckjhkegaaaDoorAsksA0
namespace Go.Proofs.YtmnkbckjhkegaaaDoor.boardAsks
open Go.RowKit
set_option linter.unusedVariables false
set_option linter.unusedSimpArgs false

set_option maxHeartbeats 4000000 in
theorem walkCn (z : List Int) (q s : Int) (hq : 0 ≤ q ∧ q ≤ 80) (hs : ¬ (s = 0 ∨ s = 1)) (hz : z.length = 98) (h8 : I8s z) (g1 : (Lit.int .i64 q).wf = true) (g2 : (Lit.int .i64 s).wf = true) (w : World) (hT : Tab w) (hH : Home w) :
    Calls Tryd.prog 5 #[.agg (posC z).toArray, .int .i64 q, .int .i64 s] w fun e w' => e = .returned (.bool true) ∧ Below w.heap.size w w' := by
  have BE := Lib.hid (fun W (hT : Tab W) (hH : Home W) => begins_true W hT hH)
  have NE := Lib.hid (fun W => new_brd z hz h8 W)
  have AT := Lib.hid (fun g W (h : Brd W g (newZ z)) => at_brd g (newZ z) q (newZ_len z hz) W h)
  have c1 : ¬ q < 0 := by omega
  have c2 : ¬ 80 < q := by omega
  have d1 : decide (q < 0) = false := decide_eq_false c1
  have d2 : decide (80 < q) = false := decide_eq_false c2
  clear hq
  have HA := Lib.hid (fun (k : Int) g W (h : Brd W g (newZ z)) => hand_brd g (newZ z) s k (newZ_len z hz) (newZ_8 z h8) W h)
  have OF := Lib.hid (fun (k : Int) (hk : -1 ≤ k ∧ k ≤ 18) g W (h : Brd W g (newZ z)) => of_brd g (newZ z) s k (by omega) (newZ_len z hz) W h)
  have PI := Lib.hid (fun g W (h : Brd W g (newZ z)) => pieces_brd g (newZ z) s (newZ_len z hz) W h)
  have KI := Lib.hid (fun g W (h : Brd W g (newZ z)) (hT : Tab W) => king_brd g (newZ z) s (newZ_len z hz) W h hT)
  have E0 := Lib.hid (fun W => empty_any 0 W)
  rw [decide_eq_true (rfl : (0 : Nat) = 0), lo_zero, hi_zero] at E0
  have RR := Lib.hid (fun (k : Int) (hk : -1 ≤ k ∧ k ≤ 18) W => refRaw_any k W (by omega))
  have HHF := Lib.hid (fun (n m : Nat) (hn : n < 2) (hm : 1 ≤ m ∧ m ≤ 7) => show handF (newZ z) n m = at8 z (81 + n * 8 + m) by
    unfold handF
    rw [if_pos ⟨by omega, by omega, by omega⟩, Int.toNat_natCast, Int.toNat_natCast, newZ_at z hz _ (by omega), if_neg (by omega)])
  have HPB := Lib.hid (fun (k : Int) (h : ¬ (s = 0 ∨ s = 1) ∨ rawF k = 0) => show pieceN (newZ z) (ofF s k) = 0 by
    have : ofF s k = 0 := by
      unfold ofF
      rcases h with h | h
      · split
        · rfl
        · rw [if_neg (fun e => h (.inl e)), if_neg (fun e => h (.inr e))]
      · rw [if_pos h]
    rw [this, piece0])
  have P0 := PosAt.new w z
  have HP := Lib.hid P0
  have HB := Lib.hid (ball (bref w) (.cells (posC z).toArray 28))
  have HINF := Lib.hid (show (Tryd.prog.info? 28).map (·.size) = some (posC z).length by rw [posC_len, hz]; exact infoPos)
  have H8 := Lib.hid h8
  have HZ := Lib.hid hz
  have HT := Lib.hid hT
  have HH := Lib.hid hH
  clear g1 g2 hT hH hz h8 P0
  have e0 : ¬ s = 0 := fun h => hs (.inl h)
  have e1 : ¬ s = 1 := fun h => hs (.inr h)
  have m0 : (s != 0) = true := by simpa using e0
  have m1 : (s != 1) = true := by simpa using e1
  have n0 : (s == 0) = false := by simp; exact fun h => hs (.inl h)
  have n1 : (s == 1) = false := by simp; exact fun h => hs (.inr h)
  go_enter Tryd.func5, Tryd.ntmps5
  go_wp2_with (first
    | (go_at_call 9; refine (BE.out _ (HT.out.grow HB.out) (HH.out.grow HB.out)).mono ?_; rintro e w1 ⟨rfl, hb⟩; have HP := Lib.hid (HP.out.grow hb); have HB := Lib.hid (bthen HB.out hb); clear hb)
    | (refine wpList_load_mid rfl 28 _ rfl w.heap.size 0 rfl (posC z) _ HP.out.range Tryd.underlying28 rfl HINF.out ?_)
    | (go_at_call 10; refine (NE.out _).mono ?_; rintro e w2 ⟨g, rfl, hg, hbd, hb⟩; have HBD := Lib.hid hbd; have HP := Lib.hid (HP.out.grow hb); have HB := Lib.hid (bthen HB.out hb); clear hb hbd hg)
    | (go_at_call 13; refine (AT.out _ _ HBD.out).mono ?_; rintro e w3 ⟨rfl, rfl⟩))
  go_loopw [8, 9] (fun v _ wr => ∃ k : Int, -1 ≤ k ∧ k ≤ 18 ∧ v = .int .i64 k ∧ Below w2.heap.size w2 wr) (fun v _ _ => (18 - intOf v).toNat)
  case atStart => exact ⟨-1, by omega, by omega, rfl, bref _⟩
  case round =>
    obtain ⟨k, hk1, hk2, rfl, hW⟩ := hrel
    have HW := Lib.hid hW
    have HBR := Lib.hid (HBD.out.grow hW)
    have HPR := HP.out.grow hW
    have HBB := Lib.hid (HB.out.trans (hW.mono HB.out.size))
    clear hW
    by_cases h17 : k ≤ 17
    · have HAk := Lib.hid (fun g W h => HA.out k g W h)
      have OFk := Lib.hid (fun g W h => OF.out k ⟨hk1, hk2⟩ g W h)
      have RRk := Lib.hid (fun W => RR.out k ⟨hk1, hk2⟩ W)
      have hr := rawF_cases k
      have WK := Lib.hid (show wrap64 (k + 1) = k + 1 by unfold wrap64; omega)
      have hh0 : handF (newZ z) s k = 0 := by unfold handF; rw [if_neg (fun h => hs h.1)]
      rw [hh0] at HAk
      have hp := HPB.out k (.inl hs)
      rw [hp, lo_zero, hi_zero] at OFk
      have HK := Lib.hid (And.intro hk1 hk2)
      clear hr hh0 hk1 hk2 hp
      have HS := Lib.hid hs
      clear hs
      go_wp2_with (first
        | (go_at_call 24; refine (HAk.out _ _ HBR.out).mono ?_; rintro e w4 ⟨rfl, rfl⟩)
        | (go_at_call 15; refine (OFk.out _ _ HBR.out).mono ?_; rintro e w6 ⟨rfl, hb6⟩)
        | (go_at_call 26; refine (E0.out _).mono ?_; rintro e w7 ⟨rfl, hb7⟩))
      go_roundw
      case rel => exact ⟨k + 1, by have := HK.out; omega, by have := HK.out; omega, by rw [WK.out], bthen (bthen HW.out hb6) hb7⟩
      case measure => (have := HK.out; simp [intOf, WK.out]; omega)
    · obtain rfl : k = 18 := by omega
      have PIk := Lib.hid (fun g W h => PI.out g W h)
      rw [if_neg hs, lo_zero, hi_zero] at PIk
      have KIk := Lib.hid (fun g W h hT => KI.out g W h hT)
      have hkf : kingF (newZ z) s = -1 := by
        unfold kingF
        rw [HPB.out 8 (.inl hs)]
        decide
      rw [hkf] at KIk
      clear hs hkf
      go_wp2_with (first
        | (go_at_call 20; refine (PIk.out _ _ HBR.out).mono ?_; rintro e w6 ⟨rfl, hb6⟩)
        | (go_at_call 26; refine (E0.out _).mono ?_; rintro e w7 ⟨rfl, hb7⟩)
        | (go_at_call 17; refine (KIk.out _ _ ((HBR.out.grow hb6).grow hb7) (HT.out.grow (bthen (bthen HBB.out hb6) hb7))).mono ?_; rintro e w8 ⟨rfl, hb8⟩))
      go_ret
      exact ⟨rfl, bthen (bthen (bthen HBB.out hb6) hb7) hb8⟩
end Go.Proofs.YtmnkbckjhkegaaaDoor.boardAsks
