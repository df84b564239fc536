/-
  The walk of the law StepTurns: for every two numbers it returns true.
-/
import Derived.Test.YtopggngfchjfhaaStepMore
import Derived.Test.YtopggngfchjfhaaStepHead
namespace Go.Proofs.Ytopggngfchjfhaa.stepTurns
open Go.RowKit
set_option linter.unusedVariables false
set_option linter.unusedSimpArgs false

theorem w64 (n : Int) (h0 : -100000 ≤ n) (h1 : n ≤ 100000) : wrap64 n = n := by
  unfold wrap64
  omega
theorem wi64 (n : Int) (h0 : -100000 ≤ n) (h1 : n ≤ 100000) : IntKind.i64.wrap n = n := by
  rw [wrap_i64_eq]
  exact w64 n h0 h1
theorem wrap_i8_eq (n : Int) (h0 : -128 ≤ n) (h1 : n ≤ 127) : IntKind.i8.wrap n = n := by
  simp [IntKind.wrap, IntKind.bits, IntKind.signed]
  split <;> omega
/-- What a round of the loop over ways holds while its statement makes memory: the two sets (blocks b, b + 1), the third one (block s) can be written, the ways lie where they lay (block g), and the way at hand lies in block d. -/
structure HeldT (w W : World) (b s g d : Nat) (l : List (Int × Int)) (xa ya xb yb : Int) (u v : Value) : Prop where
  below : Below w.heap.size w W
  ws : w.heap.size ≤ s
  bs : b + 1 < s
  n0 : W.cell? ⟨b, 0, none⟩ = some (.int .u64 xa)
  n1 : W.cell? ⟨b, 1, none⟩ = some (.int .u64 ya)
  n2 : W.cell? ⟨b + 1, 0, none⟩ = some (.int .u64 xb)
  n3 : W.cell? ⟨b + 1, 1, none⟩ = some (.int .u64 yb)
  lt : s < W.heap.size
  f0 : W.frozen? ⟨s, 0, none⟩ = false
  f1 : W.frozen? ⟨s, 1, none⟩ = false
  ways : DirsAt W g l
  dlt : d < W.heap.size
  c0 : W.cell? ⟨d, 0, none⟩ = some u
  c1 : W.cell? ⟨d, 1, none⟩ = some v
theorem HeldT.step {w W W' : World} {b s g d : Nat} {l : List (Int × Int)} {xa ya xb yb : Int} {u v : Value} (h : HeldT w W b s g d l xa ya xb yb u v) (hb : Below W.heap.size W W') : HeldT w W' b s g d l xa ya xb yb u v := by
  obtain ⟨h0, hws, hbs, a0, a1, a2, a3, h2, h3, h4, h5, h6, h7, h8⟩ := h
  have hs := hb.size
  exact ⟨bthen h0 hb, hws, hbs, (hb.cell (p := ⟨b, 0, none⟩) (by omega : b < _)).trans a0, (hb.cell (p := ⟨b, 1, none⟩) (by omega : b < _)).trans a1, (hb.cell (p := ⟨b + 1, 0, none⟩) (by omega : b + 1 < _)).trans a2, (hb.cell (p := ⟨b + 1, 1, none⟩) (by omega : b + 1 < _)).trans a3, by omega,
    (hb.frozen (p := ⟨s, 0, none⟩) h2).trans h3, (hb.frozen (p := ⟨s, 1, none⟩) h2).trans h4, h5.grow hb, by omega, (hb.cell (p := ⟨d, 0, none⟩) h6).trans h7, (hb.cell (p := ⟨d, 1, none⟩) h6).trans h8⟩
theorem HeldT.store {w W : World} {b s g d : Nat} {l : List (Int × Int)} {xa ya xb yb : Int} {u v : Value} (h : HeldT w W b s g d l xa ya xb yb u v) (hbs' : b + 1 < s) (hg : g ≠ s) (hd : d ≠ s) (x y : Value) : HeldT w ((W.setCell ⟨s, 0, none⟩ x).setCell ⟨s, 1, none⟩ y) b s g d l xa ya xb yb u v := by
  obtain ⟨h0, hws, hbs, a0, a1, a2, a3, h2, h3, h4, h5, h6, h7, h8⟩ := h
  have k0 : b ≠ s := by omega
  have k1 : b + 1 ≠ s := by omega
  refine ⟨(h0.setCell hws _).setCell hws _, hws, hbs, by go_simp, by go_simp, by go_simp, by go_simp, by simpa using h2, by simpa using h3, by simpa using h4, (h5.set _ (Ne.symm hg)).set _ (Ne.symm hg), by simpa using h6, by go_simp, by go_simp⟩

set_option maxHeartbeats 4000000 in
theorem walk_sq (k q : Int) (hk : 1 ≤ k ∧ k ≤ 15) (hq : 0 ≤ q ∧ q ≤ 80) (w : World) :
    Calls Try.prog 4 #[.int .i64 k, .int .i64 q] w fun e w' => e = .returned (.bool true) ∧ Below w.heap.size w w' := by
  have H := Lib.hid (steps_true w)
  have OA := Lib.hid (fun W => stepOf_any k q (by omega) (by omega) W)
  have OB := Lib.hid (fun W => stepOf_any (k + 16) (80 - q) (by omega) (by omega) W)
  have HA := Lib.hid (fun (i : Nat) W => has_any (stepN k q) i (stepN_sq _ _) W)
  have HB' := Lib.hid (fun (i : Int) W => has_any (stepN (k + 16) (80 - q)) i (stepN_sq _ _) W)
  have EQ : Hid (∀ i : Nat, i < 81 → (!decide (stepN (k + 16) (80 - q) &&& oneN (80 - (i : Int)) = 0)) = (!decide (stepN k q &&& oneN (i : Int) = 0))) := fun i hi => by
    rw [has_nat _ _ hi, show (80 - (i : Int)) = ((80 - i : Nat) : Int) by omega, has_nat _ _ (by omega), turn_test k q hk hq i hi]
  have CA := Lib.hid (fun W => count_any (stepN k q) (stepN_sq _ _) W)
  have CB := Lib.hid (fun W => count_any (stepN (k + 16) (80 - q)) (stepN_sq _ _) W)
  have c8 := pop_step k q
  rw [turn_pop k q hk hq] at CB
  have D := Lib.hid (fun W => dirs_any k W)
  have PT := Lib.hid (part_turn k q hk)
  have hl := dirs_len k
  obtain ⟨k0, k1⟩ := hk
  obtain ⟨q0, q1⟩ := hq
  have wk : IntKind.i64.wrap (k + 16) = k + 16 := by rw [wrap_i64_eq]; unfold wrap64; omega
  have wk2 : wrap64 (k + 16) = k + 16 := by unfold wrap64; omega
  have wk3 : IntKind.i8.wrap (k + 16) = k + 16 := wrap_i8_eq _ (by omega) (by omega)
  have wk4 : IntKind.i8.wrap k = k := wrap_i8_eq _ (by omega) (by omega)
  have wq : IntKind.i64.wrap (80 - q) = 80 - q := by rw [wrap_i64_eq]; unfold wrap64; omega
  have wq2 : wrap64 (80 - q) = 80 - q := by unfold wrap64; omega
  generalize pop 81 (stepN k q) = c at CA CB c8
  have c8' : (c : Int) ≤ 8 := by omega
  go_enter Try.func4, Try.ntmps4
  go_wp2_with (go_at_call 8; refine H.out.mono ?_; rintro e w1 ⟨rfl, hb1⟩)
  refine (OA.out _).mono ?_
  rintro e w2 ⟨rfl, hb2⟩
  go_wp2_with fail
  refine (OB.out _).mono ?_
  rintro e w3 ⟨rfl, hb3⟩
  go_wp2_with fail
  have n0 : ((w3.alloc (.cells #[.int .u64 (loW (stepN k q)), .int .u64 (hiW (stepN k q))] 27)).alloc (.cells #[.int .u64 (loW (stepN (k + 16) (80 - q))), .int .u64 (hiW (stepN (k + 16) (80 - q)))] 27)).cell? ⟨w3.heap.size, 0, none⟩ = some (.int .u64 (loW (stepN k q))) := by go_simp
  have n1 : ((w3.alloc (.cells #[.int .u64 (loW (stepN k q)), .int .u64 (hiW (stepN k q))] 27)).alloc (.cells #[.int .u64 (loW (stepN (k + 16) (80 - q))), .int .u64 (hiW (stepN (k + 16) (80 - q)))] 27)).cell? ⟨w3.heap.size, 1, none⟩ = some (.int .u64 (hiW (stepN k q))) := by go_simp
  have n2 : ((w3.alloc (.cells #[.int .u64 (loW (stepN k q)), .int .u64 (hiW (stepN k q))] 27)).alloc (.cells #[.int .u64 (loW (stepN (k + 16) (80 - q))), .int .u64 (hiW (stepN (k + 16) (80 - q)))] 27)).cell? ⟨w3.heap.size + 1, 0, none⟩ = some (.int .u64 (loW (stepN (k + 16) (80 - q)))) := by go_simp
  have n3 : ((w3.alloc (.cells #[.int .u64 (loW (stepN k q)), .int .u64 (hiW (stepN k q))] 27)).alloc (.cells #[.int .u64 (loW (stepN (k + 16) (80 - q))), .int .u64 (hiW (stepN (k + 16) (80 - q)))] 27)).cell? ⟨w3.heap.size + 1, 1, none⟩ = some (.int .u64 (hiW (stepN (k + 16) (80 - q)))) := by go_simp
  have z0 : w3.heap.size + 1 < ((w3.alloc (.cells #[.int .u64 (loW (stepN k q)), .int .u64 (hiW (stepN k q))] 27)).alloc (.cells #[.int .u64 (loW (stepN (k + 16) (80 - q))), .int .u64 (hiW (stepN (k + 16) (80 - q)))] 27)).heap.size := by simp
  have HB0 := ball (ball (bthen hb1 (bthen hb2 hb3)) (.cells #[.int .u64 (loW (stepN k q)), .int .u64 (hiW (stepN k q))] 27)) (.cells #[.int .u64 (loW (stepN (k + 16) (80 - q))), .int .u64 (hiW (stepN (k + 16) (80 - q)))] 27)
  have hw3 : w.heap.size ≤ w3.heap.size := (bthen hb1 (bthen hb2 hb3)).size
  generalize (w3.alloc (.cells #[.int .u64 (loW (stepN k q)), .int .u64 (hiW (stepN k q))] 27)).alloc (.cells #[.int .u64 (loW (stepN (k + 16) (80 - q))), .int .u64 (hiW (stepN (k + 16) (80 - q)))] 27) = v0 at n0 n1 n2 n3 z0 HB0 ⊢
  generalize w3.heap.size = b at n0 n1 n2 n3 z0 hw3 ⊢
  clear hb1 hb2 hb3 OA OB H
  have ES : Hid (stepN k q = stepN k q) := rfl
  generalize hxa : loW (stepN k q) = xa at n0 HA CA ⊢
  generalize hya : hiW (stepN k q) = ya at n1 HA CA ⊢
  generalize loW (stepN (k + 16) (80 - q)) = xb at n2 HB' CB ⊢
  generalize hiW (stepN (k + 16) (80 - q)) = yb at n3 HB' CB ⊢
  have HXA := Lib.hid hxa
  have HYA := Lib.hid hya
  clear hxa hya
  go_loopw [7] (fun i wr => ∃ j : Nat, j ≤ 81 ∧ i = .int .i64 j ∧ Below w.heap.size w wr ∧ b + 1 < wr.heap.size ∧ wr.cell? ⟨b, 0, none⟩ = some (.int .u64 xa) ∧ wr.cell? ⟨b, 1, none⟩ = some (.int .u64 ya) ∧ wr.cell? ⟨b + 1, 0, none⟩ = some (.int .u64 xb) ∧ wr.cell? ⟨b + 1, 1, none⟩ = some (.int .u64 yb)) (fun i _ => 81 - (intOf i).toNat)
  case atStart => exact ⟨0, Nat.zero_le _, rfl, HB0, z0, n0, n1, n2, n3⟩
  case round =>
    obtain ⟨j, hj, rfl, hB, hz, l0, l1, l2, l3⟩ := hrel
    clear n0 n1 n2 n3 z0 HB0
    have HB := Lib.hid hB
    clear hB
    clear wk wk2 wk3 wk4 wq wq2
    have wj : wrap64 ((j : Int) + 1) = ((j + 1 : Nat) : Int) := w64 _ (by omega) (by omega)
    have wz : wrap64 (80 - (j : Int)) = 80 - (j : Int) := w64 _ (by omega) (by omega)
    have wz2 : IntKind.i64.wrap (80 - (j : Int)) = 80 - (j : Int) := wi64 _ (by omega) (by omega)
    have hzb : b < wr.heap.size := by omega
    by_cases hlt : j < 81
    · have SA := Lib.hid (HA.out j)
      have SB := Lib.hid (HB'.out (80 - j))
      rw [EQ.out j hlt] at SB
      clear EQ HA HB' CA CB D PT
      generalize (!decide (stepN k q &&& oneN (j : Int) = 0)) = bb at SA SB
      go_wp2_with fail
      go_region_held3 (fun w' => Below wr.heap.size wr w' ∧ b < w'.heap.size ∧ b + 1 < w'.heap.size ∧ w'.cell? ⟨b, 0, none⟩ = some (.int .u64 xa) ∧ w'.cell? ⟨b, 1, none⟩ = some (.int .u64 ya) ∧ w'.cell? ⟨b + 1, 0, none⟩ = some (.int .u64 xb) ∧ w'.cell? ⟨b + 1, 1, none⟩ = some (.int .u64 yb)) (first | assumption | exact ⟨(bref wr).drew, hzb, hz, l0, l1, l2, l3⟩ | exact held_step (by assumption) hb)
        (first
          | (go_at_call_of 10 (Value.int .u64 xa); refine (SA.out _).mono ?_; rintro e wn ⟨rfl, hb⟩)
          | (go_at_call_of 10 (Value.int .u64 xb); refine (SB.out _).mono ?_; rintro e wn ⟨rfl, hb⟩))
      go_wp2
      go_roundw
      case rel =>
        obtain ⟨hb, h1, h2, h3, h4, h5, h6⟩ := (by assumption : Below wr.heap.size wr wn ∧ b < wn.heap.size ∧ b + 1 < wn.heap.size ∧ wn.cell? ⟨b, 0, none⟩ = some (.int .u64 xa) ∧ wn.cell? ⟨b, 1, none⟩ = some (.int .u64 ya) ∧ wn.cell? ⟨b + 1, 0, none⟩ = some (.int .u64 xb) ∧ wn.cell? ⟨b + 1, 1, none⟩ = some (.int .u64 yb))
        exact ⟨j + 1, by omega, by go_num, bthen HB.out hb, h2, h3, h4, h5, h6⟩
      case measure => simp [intOf]; omega
    · obtain rfl : j = 81 := by omega
      clear EQ HA HB' hlt hj wj wz wz2
      go_wp2_with (go_at_call 14; refine (D.out _).mono ?_; rintro e w4 ⟨v, rfl, hv, hb4⟩; obtain ⟨ao, cap, rfl, hp⟩ := hv.parts)
      have hlen := hl
      have hn0 := hb4.cell (p := ⟨b, 0, none⟩) (by simp; omega)
      have hn1 := hb4.cell (p := ⟨b, 1, none⟩) (by simp; omega)
      have hn2 := hb4.cell (p := ⟨b + 1, 0, none⟩) (by simp; omega)
      have hn3 := hb4.cell (p := ⟨b + 1, 1, none⟩) (by simp; omega)
      have q0' : w4.cell? ⟨b, 0, none⟩ = some (.int .u64 xa) := hn0.trans (by go_simp)
      have q1' : w4.cell? ⟨b, 1, none⟩ = some (.int .u64 ya) := hn1.trans (by go_simp)
      have q2' : w4.cell? ⟨b + 1, 0, none⟩ = some (.int .u64 xb) := hn2.trans (by go_simp)
      have q3' : w4.cell? ⟨b + 1, 1, none⟩ = some (.int .u64 yb) := hn3.trans (by go_simp)
      have V1 : Var w4 wr.heap.size (loW (partN (dirsL k) 0 q 0)) (hiW (partN (dirsL k) 0 q 0)) := by
        rw [show partN (dirsL k) 0 q 0 = 0 from rfl, lo_zero, hi_zero]
        exact Var.grow ⟨by simp, by go_simp, by go_simp, by go_simp, by go_simp⟩ hb4
      have hB0 : Below w.heap.size w w4 := bthen (ball HB.out _) hb4
      have HG : Hid (∀ g, ao = some ⟨g, 0, none⟩ → (dirsL k).length ≠ 0 → wr.heap.size + 1 ≤ g ∧ DirsAt w4 g (dirsL k)) := by
        intro g hg hl
        obtain ⟨g', e, h1, h2⟩ := hp hl
        rw [hg] at e
        cases e
        exact ⟨by simpa using h1, h2⟩
      have HS : Hid ((dirsL k).length ≠ 0 → ∃ g, ao = some ⟨g, 0, none⟩) := fun hl => (hp hl).imp fun g h => h.1
      have hws : w.heap.size ≤ wr.heap.size := HB.out.size
      clear hn0 hn1 hn2 hn3 hv hp hb4 D l0 l1 l2 l3 HB
      generalize wr.heap.size = sb at hz V1 HG hws hzb ⊢
      clear hzb
      go_loopw [53] (fun i wx => ∃ j : Nat, j ≤ (dirsL k).length ∧ i = .int .i64 j ∧ (∀ g, ao = some ⟨g, 0, none⟩ → (dirsL k).length ≠ 0 → sb + 1 ≤ g ∧ DirsAt wx g (dirsL k)) ∧ Below w.heap.size w wx ∧ wx.cell? ⟨b, 0, none⟩ = some (.int .u64 xa) ∧ wx.cell? ⟨b, 1, none⟩ = some (.int .u64 ya) ∧ wx.cell? ⟨b + 1, 0, none⟩ = some (.int .u64 xb) ∧ wx.cell? ⟨b + 1, 1, none⟩ = some (.int .u64 yb) ∧ Var wx sb (loW (partN (dirsL k) 0 q j)) (hiW (partN (dirsL k) 0 q j))) (fun i _ => (dirsL k).length - (intOf i).toNat)
      case atStart => exact ⟨0, Nat.zero_le _, rfl, HG.out, hB0, q0', q1', q2', q3', V1⟩
      case round =>
        obtain ⟨j, hj, rfl, hW, hB, m0, m1, m2, m3, hV⟩ := hrel
        clear q0' q1' q2' q3' V1 hB0 HG
        have HB := Lib.hid hB
        have HV := Lib.hid hV
        have hzs := hV.lt
        clear hB
        have wj : wrap64 ((j : Int) + 1) = ((j + 1 : Nat) : Int) := w64 _ (by omega) (by omega)
        by_cases hlt : j < (dirsL k).length
        · obtain ⟨g, rfl⟩ := HS.out (by omega)
          obtain ⟨hg2, hdr⟩ := hW g rfl (by omega)
          have HD := Lib.hid hdr
          have hg1 := hdr.lt
          have c0 := hdr.at0 _ _ (cellsD_get _ j hlt).1
          have c1 := hdr.at0 _ _ (cellsD_get _ j hlt).2
          have C := Lib.hid (fun W => with_any (partN (dirsL k) 0 q j) (fromF (turnF 0 (dirsL k)[j]) q) (partN_sq _ _ _ _) W)
          rw [← partN_step (dirsL k) 0 q j hlt] at C
          have F := Lib.hid (fun W => from_any (dirsL k)[j].1 (dirsL k)[j].2 q W)
          rw [show fromF ((dirsL k)[j].1, (dirsL k)[j].2) q = fromF (turnF 0 (dirsL k)[j]) q from rfl] at F
          have l0 := hV.lo
          have l1 := hV.hi
          have l2 := hV.f0
          have l3 := hV.f1
          clear hV hdr hW HS CA CB
          generalize fromF (turnF 0 (dirsL k)[j]) q = z at C F
          generalize (dirsL k)[j].1 = df at F c0
          generalize (dirsL k)[j].2 = dr at F c1
          generalize loW (partN (dirsL k) 0 q j) = x at C l0 HV
          generalize hiW (partN (dirsL k) 0 q j) = y at C l1 HV
          generalize hx : loW (partN (dirsL k) 0 q (j + 1)) = x2 at C
          generalize hy : hiW (partN (dirsL k) 0 q (j + 1)) = y2 at C
          have HX := Lib.hid hx
          have HY := Lib.hid hy
          clear hx hy
          go_wp2_with fail
          have hbs : b + 1 < sb := hz
          have hb0' : b < wr.heap.size := by omega
          have hb1' : b + 1 < wr.heap.size := by omega
          have hg3 : g ≠ sb := by omega
          have hd3 : wr.heap.size ≠ sb := by omega
          have H0 : Hid (HeldT w (wr.alloc (Obj.cells #[Value.int IntKind.i64 df, Value.int IntKind.i64 dr] 37)).drew b sb g wr.heap.size (dirsL k) xa ya xb yb (.int .i64 df) (.int .i64 dr)) :=
            ⟨(ball HB.out _).drew, hws, hbs, by go_simp, by go_simp, by go_simp, by go_simp, by simp; omega, by go_simp, by go_simp, HD.out.grow (ball (bref wr) _).drew, by simp, by go_simp, by go_simp⟩
          refine wp_region_any (by kernel_rfl) ?_
          change wpAny _ _ _ _ _ _ _ (World.drew _)
          refine wpAny_inv3 (fun a0 => a0.eval (.tmp 1) = .int .i64 q ∧ a0.eval (.tmp 8) = .pointer (some ⟨sb, 0, none⟩) ∧ a0.eval (.tmp 10) = .pointer (some ⟨wr.heap.size, 0, none⟩) ∧ 62 < a0.tmps.size) ⟨rfl, rfl, rfl, of_decide_eq_true rfl⟩
            (fun a0 ls a w' => ls.size = 6 ∧ HeldT w w' b sb g wr.heap.size (dirsL k) xa ya xb yb (.int .i64 df) (.int .i64 dr) ∧ (ls.getD 5 false = false → w'.cell? ⟨sb, 0, none⟩ = some (.int .u64 x) ∧ w'.cell? ⟨sb, 1, none⟩ = some (.int .u64 y)) ∧ (ls.getD 5 false = true → w'.cell? ⟨sb, 0, none⟩ = some (.int .u64 x2) ∧ w'.cell? ⟨sb, 1, none⟩ = some (.int .u64 y2)) ∧ (ls.getD 5 false = true → ls.getD 0 false = true) ∧ a = cput (ls.getD 4 false) 61 (.agg #[.int .u64 x2, .int .u64 y2]) (cput (ls.getD 3 false) 60 (.int .i64 z) (cput (ls.getD 2 false) 59 (.int .i64 q) (cput (ls.getD 1 false) 58 (.agg #[.int .i64 df, .int .i64 dr]) (cput (ls.getD 0 false) 57 (.agg #[.int .u64 x, .int .u64 y]) (a0)))))) ?step ?fin ?start (by decide)
          case start => exact ⟨rfl, H0.out, fun _ => ⟨by go_simp, by go_simp⟩, (fun h => nomatch h), (fun h => nomatch h), rfl⟩
          case step =>
            rintro a0 ⟨e1, e8, e10, esz⟩ ls a w' ⟨hl, hH, hS, hD, h80, ha⟩ i o ho hu hw
            have hu' := undone hu
            rcases i with _ | _ | _ | _ | _ | _ | i
            · have ho' : some _ = some o := ho
              cases ho'
              have E8 : a.eval (.tmp 8) = .pointer (some ⟨sb, 0, none⟩) := by rw [ha]; simp [eval_cput_ne, e8]
              have l8 : ls.getD 5 false = false := by
                cases h : ls.getD 5 false
                · rfl
                · rw [h80 h] at hu'; cases hu'
              have hS' := hS l8
              refine wpOp_step ho (fun K hK => ?_)
              rw [if_pos (by rfl)]
              refine wp_load_mid _ _ rfl (sb) 0 E8 [.int .u64 x, .int .u64 y] _ (range2 hS'.1 hS'.2) Try.underlying27 rfl infoSet2 ?_
              exact hK _ _ ⟨by simp [hl], hH, by simpa [getF, hl] using hS, by simpa [getF, hl] using hD, by simp [getF, hl], by rw [ha]; simp [cput_put, getF, hl, hu', cput_at]⟩
            · have ho' : some _ = some o := ho
              cases ho'
              have E10 : a.eval (.tmp 10) = .pointer (some ⟨wr.heap.size, 0, none⟩) := by rw [ha]; simp [eval_cput_ne, e10]
              refine wpOp_step ho (fun K hK => ?_)
              rw [if_pos (by rfl)]
              refine wp_load_mid _ _ rfl (wr.heap.size) 0 E10 [.int .i64 df, .int .i64 dr] _ (range2 hH.c0 hH.c1) Try.underlying37 rfl infoDir2 ?_
              exact hK _ _ ⟨by simp [hl], hH, by simpa [getF, hl] using hS, by simpa [getF, hl] using hD, by simpa [getF, hl] using h80, by rw [ha]; simp [cput_put, getF, hl, hu', cput_at]⟩
            · have ho' : some _ = some o := ho
              cases ho'
              have E1 : a.eval (.tmp 1) = .int .i64 q := by rw [ha]; simp [eval_cput_ne, e1]
              refine wpOp_step ho (fun K hK => ?_)
              rw [if_pos (by rfl)]
              refine wp_valueK (w' := w') (.int .i64 q) ?_ (hK _ _ ⟨by simp [hl], hH, by simpa [getF, hl] using hS, by simpa [getF, hl] using hD, by simpa [getF, hl] using h80, by rw [ha]; simp [cput_put, getF, hl, hu', cput_at]⟩)
              clear ha
              exact congrArg (fun v => Result.ok (Next.value v) w') E1
            · have ho' : some _ = some o := ho
              cases ho'
              have d58 : ls.getD 1 false = true := hw ⟨1, .data⟩ (by simp) rfl
              have z58 : 58 < a0.tmps.size := by omega
              have E58 : a.eval (.tmp 58) = .agg #[.int .i64 df, .int .i64 dr] := by rw [ha]; simp [eval_cput_ne, d58, eval_cput_at, size_cput, z58]
              have d59 : ls.getD 2 false = true := hw ⟨2, .data⟩ (by simp) rfl
              have z59 : 59 < a0.tmps.size := by omega
              have E59 : a.eval (.tmp 59) = .int .i64 q := by rw [ha]; simp [eval_cput_ne, d59, eval_cput_at, size_cput, z59]
              refine wpOp_step ho (fun K hK => ?_)
              rw [if_pos (by rfl)]
              refine wp_callK 16 #[a.eval (.tmp 58), a.eval (.tmp 59)] ?_ ?_
              · clear ha E58 E59
                go_simp
              · rw [E58, E59]
                refine (F.out _).mono ?_
                rintro e w2 ⟨rfl, hb2⟩
                refine ⟨_, rfl, hK _ _ ⟨by simp [hl], hH.step hb2, by simpa [getF, hl] using (fun h => cells2_grow hH.lt hb2 (hS h)), by simpa [getF, hl] using (fun h => cells2_grow hH.lt hb2 (hD h)), by simpa [getF, hl] using h80, by rw [ha]; simp [cput_put, getF, hl, hu', cput_at]⟩⟩
            · have ho' : some _ = some o := ho
              cases ho'
              have d57 : ls.getD 0 false = true := hw ⟨0, .data⟩ (by simp) rfl
              have z57 : 57 < a0.tmps.size := by omega
              have E57 : a.eval (.tmp 57) = .agg #[.int .u64 x, .int .u64 y] := by rw [ha]; simp [eval_cput_ne, d57, eval_cput_at, size_cput, z57]
              have d60 : ls.getD 3 false = true := hw ⟨3, .data⟩ (by simp) rfl
              have z60 : 60 < a0.tmps.size := by omega
              have E60 : a.eval (.tmp 60) = .int .i64 z := by rw [ha]; simp [eval_cput_ne, d60, eval_cput_at, size_cput, z60]
              refine wpOp_step ho (fun K hK => ?_)
              rw [if_pos (by rfl)]
              refine wp_callK 15 #[a.eval (.tmp 57), a.eval (.tmp 60)] ?_ ?_
              · clear ha E57 E60
                go_simp
              · rw [E57, E60]
                refine (C.out _).mono ?_
                rintro e w2 ⟨rfl, hb2⟩
                refine ⟨_, rfl, hK _ _ ⟨by simp [hl], hH.step hb2, by simpa [getF, hl] using (fun h => cells2_grow hH.lt hb2 (hS h)), by simpa [getF, hl] using (fun h => cells2_grow hH.lt hb2 (hD h)), by simpa [getF, hl] using h80, by rw [ha]; simp [cput_put, getF, hl, hu', cput_at]⟩⟩
            · have ho' : some _ = some o := ho
              cases ho'
              have E8 : a.eval (.tmp 8) = .pointer (some ⟨sb, 0, none⟩) := by rw [ha]; simp [eval_cput_ne, e8]
              have d61 : ls.getD 4 false = true := hw ⟨4, .data⟩ (by simp) rfl
              have z61 : 61 < a0.tmps.size := by omega
              have E61 : a.eval (.tmp 61) = .agg #[.int .u64 x2, .int .u64 y2] := by rw [ha]; simp [eval_cput_ne, d61, eval_cput_at, size_cput, z61]
              refine wpOp_step ho (fun K hK => ?_)
              rw [if_pos (by rfl)]
              have hS' := hS hu'
              refine wp_store_mid _ _ _ rfl (sb) 0 #[.int .u64 x2, .int .u64 y2] E8 E61 (there2 hS'.1 hS'.2 hH.f0 hH.f1) infoSet2 (by simp [Value.oneCell']) ?_
              have gg : ∀ j, j ≠ 5 → (ls.setIfInBounds 5 true).getD j false = ls.getD j false := fun j hj => (getF (by omega : 5 < ls.size)).trans (if_neg (Ne.symm hj))
              have gs : (ls.setIfInBounds 5 true).getD 5 false = true := (getF (by omega : 5 < ls.size)).trans (if_pos rfl)
              have q0 := hS'.1
              have q1 := hS'.2
              refine hK _ _ ⟨by simp [hl], hH.store hbs hg3 hd3 _ _, (fun h => by rw [gs] at h; cases h), (fun _ => stored2 q0 q1 _ _), (fun _ => by rw [gg 0 (by decide)]; exact hw ⟨0, .phase⟩ (by simp) rfl), ?_⟩
              rw [gg 4 (by decide), gg 3 (by decide), gg 2 (by decide), gg 1 (by decide), gg 0 (by decide), ha]
              rfl
            · cases ho
          case fin =>
            rintro ls a w' ⟨hl, hH, -, hD, -, ha⟩ hr
            have d : ∀ i, i < 6 → ls.getD i false = true := all_doneB hr (by kernel_rfl) (by rw [hl]; rfl)
            obtain ⟨n0, n1⟩ := hD (d 5 (by decide))
            rw [d 4 (by decide), d 3 (by decide), d 2 (by decide), d 1 (by decide), d 0 (by decide)] at ha
            subst ha
            simp only [cput, if_true, Act.put, List.setIfInBounds_toArray, List.set_cons_zero, List.set_cons_succ]
            clear d hD hr hl
            go_wp2
            go_roundw
            case rel =>
              refine ⟨j + 1, by omega, by go_num, ?_, hH.below, hH.n0, hH.n1, hH.n2, hH.n3, ?_⟩
              · intro g' hg' _
                cases hg'
                exact ⟨hg2, hH.ways⟩
              · rw [HX.out, HY.out]
                exact ⟨hH.lt, n0, n1, hH.f0, hH.f1⟩
            case measure => simp [intOf]; omega
        · obtain rfl : j = (dirsL k).length := by omega
          rw [PT.out] at hV
          rw [HXA.out, HYA.out] at hV
          have l0 := hV.lo
          have l1 := hV.hi
          clear hV HV HS hW
          go_wp2_with fail
          have hb0' : b < wr.heap.size := by omega
          have hb1' : b + 1 < wr.heap.size := by omega
          go_region_held3 (fun w' => Below wr.heap.size wr w' ∧ b < w'.heap.size ∧ b + 1 < w'.heap.size ∧ w'.cell? ⟨b, 0, none⟩ = some (.int .u64 xa) ∧ w'.cell? ⟨b, 1, none⟩ = some (.int .u64 ya) ∧ w'.cell? ⟨b + 1, 0, none⟩ = some (.int .u64 xb) ∧ w'.cell? ⟨b + 1, 1, none⟩ = some (.int .u64 yb)) (first | assumption | exact ⟨(bref wr).drew, hb0', hb1', m0, m1, m2, m3⟩ | exact held_step (by assumption) hb)
            (first
              | (go_at_call_of 17 (Value.int .u64 xa); refine (CA.out _).mono ?_; rintro e wn ⟨rfl, hb⟩)
              | (go_at_call_of 17 (Value.int .u64 xb); refine (CB.out _).mono ?_; rintro e wn ⟨rfl, hb⟩))
          go_wp2
          go_ret
          exact ⟨rfl, bthen HB.out (held_fst (by assumption))⟩

theorem walk_out (k q : Int) (h : ¬ ((1 ≤ k ∧ k ≤ 15) ∧ 0 ≤ q ∧ q ≤ 80)) (w : World) :
    Calls Try.prog 4 #[.int .i64 k, .int .i64 q] w fun e w' => e = .returned (.bool true) ∧ Below w.heap.size w w' := by
  have H := Lib.hid (steps_true w)
  have hr : k < 1 ∨ (1 ≤ k ∧ 15 < k) ∨ ((1 ≤ k ∧ k ≤ 15) ∧ q < 0) ∨ ((1 ≤ k ∧ k ≤ 15) ∧ 0 ≤ q ∧ 80 < q) := by omega
  clear h
  rcases hr with a | ⟨a, b⟩ | ⟨⟨a, b⟩, c⟩ | ⟨⟨a, b⟩, c, d⟩
  all_goals
    go_enter Try.func4, Try.ntmps4
    go_wp2_with (go_at_call 8; refine H.out.mono ?_; rintro e w1 ⟨rfl, hb1⟩)
    go_ret
    exact ⟨rfl, hb1⟩

theorem walk (k q : Int) (g0 : (Lit.int .i64 k).wf = true) (g1 : (Lit.int .i64 q).wf = true) (w : World) :
    Calls Try.prog 4 #[.int .i64 k, .int .i64 q] w fun e w' => e = .returned (.bool true) ∧ Below w.heap.size w w' := by
  by_cases h : (1 ≤ k ∧ k ≤ 15) ∧ 0 ≤ q ∧ q ≤ 80
  · exact walk_sq k q h.1 h.2 w
  · exact walk_out k q h w
end Go.Proofs.Ytopggngfchjfhaa.stepTurns
