/-
  board.Check's parts: hasNifu.
-/
import Derived.Test.YtbopbekehccdmaaDoorChk4
namespace Go.Proofs.YtbopbekehccdmaaDoor
open Go.RowKit
set_option linter.unusedVariables false
set_option linter.unusedSimpArgs false

/-! Two pawns in a file. -/
def pawnsN (z : List Int) (s f : Nat) : Nat := pop 81 (pieceN z (ofF s 1) &&& ofN (fileL f 9))
def oneQ (z : List Int) (i : Nat) : Bool := decide (pawnsN z (i / 9) (i % 9) ≤ 1)
theorem heldV_fst {wc W : World} {s : Nat} {x y : Value} (h : Below wc.heap.size wc W ∧ s < W.heap.size ∧ W.cell? ⟨s, 0, none⟩ = some x ∧ W.cell? ⟨s, 1, none⟩ = some y) : Below wc.heap.size wc W := h.1
theorem heldV_step {wc W w' : World} {s : Nat} {x y : Value} (h : Below wc.heap.size wc W ∧ s < W.heap.size ∧ W.cell? ⟨s, 0, none⟩ = some x ∧ W.cell? ⟨s, 1, none⟩ = some y) (hb : Below W.heap.size W w') :
    Below wc.heap.size wc w' ∧ s < w'.heap.size ∧ w'.cell? ⟨s, 0, none⟩ = some x ∧ w'.cell? ⟨s, 1, none⟩ = some y := by
  obtain ⟨h0, h1, h3, h4⟩ := h
  have hs := hb.size
  exact ⟨bthen h0 hb, by omega, (hb.cell (p := ⟨s, 0, none⟩) h1).trans h3, (hb.cell (p := ⟨s, 1, none⟩) h1).trans h4⟩
set_option maxHeartbeats 4000000 in
theorem hasNifu_any (b : Nat) (z : List Int) (hz : z.length = 98) (w : World) (hb : Brd w b z) :
    Calls Tryd.prog 103 #[.pointer (some ⟨b, 0, none⟩)] w fun e w' => e = .returned (.bool (!allB (oneQ z) 18)) ∧ Below w.heap.size w w' := by
  have OF := Lib.hid (fun (s : Nat) W (h : Brd W b z) => of_brd b z s 1 (by omega) hz W h)
  have HB := Lib.hid hb
  clear hb hz
  go_enter Tryd.func103, Tryd.ntmps103
  go_wp2
  go_loopw [3, 4, 5, 6] (fun _ _ _ i wr => ∃ s : Nat, s ≤ 2 ∧ i = .int .i64 s ∧ allB (oneQ z) (9 * s) = true ∧ Below w.heap.size w wr) (fun _ _ _ i _ => 2 - (intOf i).toNat)
  case atStart => exact ⟨0, Nat.zero_le _, rfl, rfl, bref _⟩
  case round =>
    obtain ⟨s, hs2, rfl, hall, hB⟩ := hrel
    have HW := Lib.hid hB
    have HALL := Lib.hid hall
    clear hB hall
    by_cases hlt : s < 2
    · have O := Lib.hid (fun W (h : Brd W b z) => OF.out s W h)
      generalize hlw : loW (pieceN z (ofF s 1)) = l at O
      generalize hhw : hiW (pieceN z (ofF s 1)) = h at O
      have HL := Lib.hid hlw
      have HH := Lib.hid hhw
      clear hlw hhw
      go_wp2_with (go_at_call 21; refine (O.out _ (HB.out.grow HW.out)).mono ?_; rintro e w1 ⟨rfl, hb1⟩)
      have V0 : Var (w1.alloc (.cells #[.int .u64 l, .int .u64 h] 40)) w1.heap.size l h := ⟨by simp, by go_simp, by go_simp, by go_simp, by go_simp⟩
      have VV := Lib.hid V0
      clear V0
      have B0 := Lib.hid ((bthen HW.out hb1).alloc (bthen HW.out hb1).size (.cells #[.int .u64 l, .int .u64 h] 40))
      clear hb1 HW
      generalize w1.alloc (.cells #[.int .u64 l, .int .u64 h] 40) = w2 at *
      generalize w1.heap.size = g at *
      go_loopw [5, 12] (fun _ i wr => ∃ j : Nat, j ≤ 9 ∧ i = .int .i64 j ∧ allB (oneQ z) (9 * s + j) = true ∧ Below w.heap.size w wr ∧ Var wr g l h) (fun _ i _ => 9 - (intOf i).toNat)
      case atStart => exact ⟨0, Nat.zero_le _, rfl, HALL.out, B0.out, VV.out⟩
      case round =>
        obtain ⟨j, hj, rfl, hall, hB, hV⟩ := hrel
        have HWJ := Lib.hid hB
        have HALLJ := Lib.hid hall
        have HV := Lib.hid hV
        clear hB hall hV
        by_cases hlt9 : j < 9
        · have va := HV.out.lo
          have vb := HV.out.hi
          have zg := HV.out.lt
          have FI := Lib.hid (fun W => inFile_any j W)
          have AN := Lib.hid (fun W => and_any (pieceN z (ofF s 1)) (ofN (fileL j 9)) (pieceN_sq _ _) (ofN_sq _) W)
          rw [HL.out, HH.out] at AN
          have CN := Lib.hid (fun W => count_any (pieceN z (ofF s 1) &&& ofN (fileL j 9)) (pieceN_sq _ _).and W)
          have hq : oneQ z (9 * s + j) = decide (pawnsN z s j ≤ 1) := by
            unfold oneQ
            rw [show (9 * s + j) / 9 = s by omega, show (9 * s + j) % 9 = j by omega]
          have hpd : pawnsN z s j = pop 81 (pieceN z (ofF s 1) &&& ofN (fileL j 9)) := rfl
          rw [hpd] at hq
          clear hpd
          generalize loW (ofN (fileL j 9)) = fl at FI AN
          generalize hiW (ofN (fileL j 9)) = fh at FI AN
          generalize loW (pieceN z (ofF s 1) &&& ofN (fileL j 9)) = al at AN CN
          generalize hiW (pieceN z (ofF s 1) &&& ofN (fileL j 9)) = ah at AN CN
          generalize pop 81 (pieceN z (ofF s 1) &&& ofN (fileL j 9)) = n at CN hq
          by_cases hn : n ≤ 1
          · have HQ := Lib.hid (show True → oneQ z (9 * s + j) = true from fun _ => by rw [hq]; exact decide_eq_true hn)
            have c1 : ¬ (1 : Int) < (n : Int) := by omega
            clear hq hn
            go_wp2
            go_region_held3 (fun w' => Below wr.heap.size wr w' ∧ g < w'.heap.size ∧ w'.cell? ⟨g, 0, none⟩ = some (.int .u64 l) ∧ w'.cell? ⟨g, 1, none⟩ = some (.int .u64 h)) (first | exact ⟨(bref wr).drew, zg, va, vb⟩ | exact heldV_step (by assumption) hb)
              (first
                | (go_at_call 126; refine (FI.out _).mono ?_; rintro e wn ⟨rfl, hb⟩)
                | (go_at_call 62; refine (AN.out _).mono ?_; rintro e wn ⟨rfl, hb⟩)
                | (go_at_call 61; refine (CN.out _).mono ?_; rintro e wn ⟨rfl, hb⟩))
            have hall7 : Below wr.heap.size wr wn := heldV_fst (by assumption)
            have HB7 := Lib.hid (HWJ.out.trans (hall7.mono HWJ.out.size))
            have HV7 := Lib.hid (HV.out.grow hall7)
            clear hall7 va vb zg
            go_wp2
            go_roundw
            case rel => exact ⟨j + 1, by omega, by go_num, allB_step HALLJ.out (HQ.out trivial), HB7.out, HV7.out⟩
            case measure => simp [intOf]; omega
          · have HQ := Lib.hid (show True → oneQ z (9 * s + j) = false from fun _ => by rw [hq]; exact decide_eq_false hn)
            have c1 : (1 : Int) < (n : Int) := by omega
            clear hq hn
            go_wp2
            go_region_held3 (fun w' => Below wr.heap.size wr w' ∧ g < w'.heap.size ∧ w'.cell? ⟨g, 0, none⟩ = some (.int .u64 l) ∧ w'.cell? ⟨g, 1, none⟩ = some (.int .u64 h)) (first | exact ⟨(bref wr).drew, zg, va, vb⟩ | exact heldV_step (by assumption) hb)
              (first
                | (go_at_call 126; refine (FI.out _).mono ?_; rintro e wn ⟨rfl, hb⟩)
                | (go_at_call 62; refine (AN.out _).mono ?_; rintro e wn ⟨rfl, hb⟩)
                | (go_at_call 61; refine (CN.out _).mono ?_; rintro e wn ⟨rfl, hb⟩))
            have hall7 : Below wr.heap.size wr wn := heldV_fst (by assumption)
            have HB7 := Lib.hid (HWJ.out.trans (hall7.mono HWJ.out.size))
            clear hall7 va vb zg
            go_wp2
            go_ret
            refine ⟨?_, HB7.out⟩
            rw [allB_no (HQ.out trivial) (by omega : 9 * s + j < 18)]
            rfl
        · obtain rfl : j = 9 := by omega
          go_wp2
          go_roundw
          case rel => exact ⟨s + 1, by omega, by go_num, by rw [show 9 * (s + 1) = 9 * s + 9 by omega]; exact HALLJ.out, HWJ.out⟩
          case measure => simp [intOf]; omega
    · obtain rfl : s = 2 := by omega
      go_wp2
      go_ret
      refine ⟨?_, HW.out⟩
      rw [show (18 : Nat) = 9 * 2 from rfl, HALL.out]
      rfl
end Go.Proofs.YtbopbekehccdmaaDoor
