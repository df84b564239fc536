/-
  The reference's parts for positions, and its Check.
-/
import Derived.Test.YtilhicohfnaclaaDoorRefFar
import Derived.Test.YtilhicohfnaclaaDoorChkAll
import Derived.Test.YtilhicohfnaclaaDoorRefs
import Derived.Test.YtilhicohfnaclaaDoorRefKind
/-
  The reference's parts for positions: On, all, Count, Dead.
-/
namespace Go.Proofs.YtilhicohfnaclaaDoor
open Go.RowKit
set_option linter.unusedVariables false
set_option linter.unusedSimpArgs false
set_option maxRecDepth 100000

def eqB (x y : Int) : Bool := decide (y = x)
theorem cntN_mono (z : List Int) (f : Int → Bool) : ∀ k j, cntN z f k ≤ cntN z f (k + j)
  | k, 0 => Nat.le_refl _
  | k, j + 1 => by
    have := cntN_mono z f k j
    rw [show k + (j + 1) = (k + j) + 1 by omega, cntN]
    split <;> omega
def onI (z : List Int) (x : Int) (f r : Nat) : Int := (cntN z (eqB x) (9 * f + r) : Int) - (cntN z (eqB x) (9 * f) : Int)
theorem onI_bd (z : List Int) (x : Int) (f r : Nat) : 0 ≤ onI z x f r ∧ onI z x f r ≤ (9 * f + r : Nat) := by
  unfold onI
  have h1 := cntN_mono z (eqB x) (9 * f) r
  have h2 := cntN_le z (eqB x) (9 * f + r)
  omega
theorem onI_step (z : List Int) (x : Int) (f r : Nat) : onI z x f (r + 1) = onI z x f r + (if at8 z (9 * f + r) = x then 1 else 0) := by
  unfold onI
  rw [show 9 * f + (r + 1) = (9 * f + r) + 1 by omega, cntN]
  unfold eqB
  by_cases h : at8 z (9 * f + r) = x
  · rw [if_pos (decide_eq_true h), if_pos h]; omega
  · rw [if_neg (by simpa using h), if_neg h]; omega

set_option maxHeartbeats 1000000 in
theorem refOn_any (z : List Int) (hz : z.length = 98) (h8 : I8s z) (x : Int) (f : Nat) (hf : f < 9) (w : World) :
    Calls Tryd.prog 74 #[.agg (posC z).toArray, .int .i64 x, .int .i64 f] w fun e w' => e = .returned (.int .i64 (onI z x f 9)) ∧ Below w.heap.size w w' := by
  have HP := Lib.hid (PosAt.new w z)
  have HB := Lib.hid (ball (bref w) (.cells (posC z).toArray 28))
  have H8 := Lib.hid h8
  have HZ := Lib.hid hz
  clear hz h8
  go_enter Tryd.func74, Tryd.ntmps74
  go_wp2
  generalize w.alloc (.cells (posC z).toArray 28) = w1 at *
  go_loopw [7, 8] (fun n r wr => ∃ k : Nat, k ≤ 9 ∧ r = .int .i64 k ∧ n = .int .i64 (onI z x f k) ∧ wr = w1) (fun _ r _ => 9 - (intOf r).toNat)
  case atStart => exact ⟨0, Nat.zero_le _, rfl, by unfold onI; rw [Nat.add_zero, Int.sub_self], rfl⟩
  case round =>
    obtain ⟨k, hk, rfl, rfl, rfl⟩ := hrel
    by_cases hlt : k < 9
    · have c0 := HP.out.cell (9 * f + k) (by have := HZ.out; omega)
      have hv := H8.out.at (9 * f + k)
      have hwv : wrap64 (at8 z (9 * f + k)) = at8 z (9 * f + k) := by unfold wrap64; omega
      have hst := onI_step z x f k
      have hbd := onI_bd z x f k
      have w1e : wrap64 (9 * (f : Int) + (k : Int)) = ((9 * f + k : Nat) : Int) := by unfold wrap64; omega
      have w2e : wrap64 (9 * (f : Int)) = ((9 * f : Nat) : Int) := by unfold wrap64; omega
      have w3e : wrap64 (((9 * f : Nat) : Int) + (k : Int)) = ((9 * f + k : Nat) : Int) := by unfold wrap64; omega
      have hi : 9 * f + k < 81 := by omega
      have wn : wrap64 (onI z x f k + 1) = onI z x f k + 1 := by unfold wrap64; omega
      have HST := Lib.hid hst
      clear hst hbd hv
      generalize hn1 : onI z x f (k + 1) = n1 at HST
      have HN1 := Lib.hid hn1
      clear hn1
      generalize onI z x f k = n0 at HST wn ⊢
      generalize at8 z (9 * f + k) = v at c0 hwv HST
      by_cases hvx : v = x
      · have bx : (v == x) = true := by simpa using hvx
        have HST2 := Lib.hid (show n1 = n0 + 1 by rw [HST.out, if_pos hvx])
        clear hvx
        go_wp2
        go_roundw
        case rel => exact ⟨k + 1, by omega, by go_num, by rw [HN1.out, HST2.out, wn], trivial⟩
        case measure => simp [intOf]; omega
      · have bx : (v == x) = false := by simpa using hvx
        have HST2 := Lib.hid (show n1 = n0 by rw [HST.out, if_neg hvx, Int.add_zero])
        clear hvx
        go_wp2
        go_roundw
        case rel => exact ⟨k + 1, by omega, by go_num, by rw [HN1.out, HST2.out], trivial⟩
        case measure => simp [intOf]; omega
    · obtain rfl : k = 9 := by omega
      go_wp2
      go_ret
      exact ⟨rfl, HB.out⟩

/-- How many of a piece there are, told file by file. -/
theorem onI_sum (z : List Int) (x : Int) (f : Nat) : (cntN z (eqB x) (9 * f) : Int) + onI z x f 9 = (cntN z (eqB x) (9 * (f + 1)) : Int) := by
  unfold onI
  rw [show 9 * (f + 1) = 9 * f + 9 by omega]
  omega
set_option maxHeartbeats 1000000 in
theorem refAll_any (z : List Int) (hz : z.length = 98) (h8 : I8s z) (x : Int) (w : World) :
    Calls Tryd.prog 70 #[.agg (posC z).toArray, .int .i64 x] w fun e w' => e = .returned (.int .i64 (cntN z (eqB x) 81)) ∧ Below w.heap.size w w' := by
  have ON := Lib.hid (fun (f : Nat) (hf : f < 9) W => refOn_any z hz h8 x f hf W)
  have HP := Lib.hid (PosAt.new w z)
  have HB := Lib.hid (ball (bref w) (.cells (posC z).toArray 28))
  have HINF := Lib.hid (show (Tryd.prog.info? 28).map (·.size) = some (posC z).length by rw [posC_len, hz]; exact infoPos)
  clear hz h8
  go_enter Tryd.func70, Tryd.ntmps70
  go_wp2
  generalize w.alloc (.cells (posC z).toArray 28) = w1 at *
  go_loopw [5, 6] (fun n r wr => ∃ k : Nat, k ≤ 9 ∧ r = .int .i64 k ∧ n = .int .i64 (cntN z (eqB x) (9 * k) : Nat) ∧ Below w1.heap.size w1 wr) (fun _ r _ => 9 - (intOf r).toNat)
  case atStart => exact ⟨0, Nat.zero_le _, rfl, rfl, bref _⟩
  case round =>
    obtain ⟨k, hk, rfl, rfl, hW⟩ := hrel
    have HPW := Lib.hid (HP.out.grow hW)
    have HW := Lib.hid hW
    clear hW
    by_cases hlt : k < 9
    · have ONk := Lib.hid (fun W => ON.out k hlt W)
      have hs := onI_sum z x k
      have h1 := cntN_le z (eqB x) (9 * (k + 1))
      have wn : wrap64 ((cntN z (eqB x) (9 * k) : Int) + onI z x k 9) = (cntN z (eqB x) (9 * (k + 1)) : Int) := by rw [hs]; unfold wrap64; omega
      have WN := Lib.hid wn
      clear hs h1 wn
      generalize onI z x k 9 = o at ONk WN
      generalize ((cntN z (eqB x) (9 * k) : Nat) : Int) = c0 at WN ⊢
      go_wp2_with (first
        | (refine wpList_load_mid rfl 28 _ rfl w.heap.size 0 rfl (posC z) _ HPW.out.range Tryd.underlying28 rfl HINF.out ?_)
        | (go_at_call 74; refine (ONk.out _).mono ?_; rintro e w2 ⟨rfl, hb2⟩))
      go_roundw
      case rel => exact ⟨k + 1, by omega, by go_num, by rw [WN.out], bthen HW.out hb2⟩
      case measure => simp [intOf]; omega
    · obtain rfl : k = 9 := by omega
      go_wp2
      go_ret
      exact ⟨rfl, bthen HB.out HW.out⟩

def rawB (k : Int) (y : Int) : Bool := decide (rawF (kindF y) = k)
set_option maxHeartbeats 1000000 in
theorem refCount_any (z : List Int) (hz : z.length = 98) (h8 : I8s z) (k : Nat) (hk : 1 ≤ k ∧ k ≤ 7) (w : World) :
    Calls Tryd.prog 71 #[.agg (posC z).toArray, .int .i64 k] w fun e w' => e = .returned (.int .i64 ((cntN z (rawB k) 81 : Int) + at8 z (81 + k) + at8 z (89 + k))) ∧ Below w.heap.size w w' := by
  have RK := Lib.hid (fun (x : Int) (h : -128 ≤ x ∧ x ≤ 127) W => refKind_any x W h.1 h.2)
  have RR := Lib.hid (fun (x : Int) W => refRaw_any (kindF x) W (by have := kind_side x; omega))
  have HP := Lib.hid (PosAt.new w z)
  have HB := Lib.hid (ball (bref w) (.cells (posC z).toArray 28))
  have H8 := Lib.hid h8
  have HZ := Lib.hid hz
  clear hz h8
  go_enter Tryd.func71, Tryd.ntmps71
  go_wp2
  generalize w.alloc (.cells (posC z).toArray 28) = w1 at *
  go_loopw [5, 6] (fun n r wr => ∃ j : Nat, j ≤ 81 ∧ r = .int .i64 j ∧ n = .int .i64 (cntN z (rawB k) j : Nat) ∧ wr = w1) (fun _ r _ => 81 - (intOf r).toNat)
  case atStart => exact ⟨0, Nat.zero_le _, rfl, rfl, rfl⟩
  case round =>
    obtain ⟨j, hj, rfl, rfl, rfl⟩ := hrel
    by_cases hlt : j < 81
    · have c0 := HP.out.cell j (by have := HZ.out; omega)
      have hv := H8.out.at j
      have hwv : wrap64 (at8 z j) = at8 z j := by unfold wrap64; omega
      have K := Lib.hid (fun W => RK.out (at8 z j) hv W)
      have R := Lib.hid (fun W => RR.out (at8 z j) W)
      have hst : cntN z (rawB k) (j + 1) = cntN z (rawB k) j + (if rawF (kindF (at8 z j)) = k then 1 else 0) := by
        rw [cntN]
        unfold rawB
        by_cases h : rawF (kindF (at8 z j)) = k
        · rw [if_pos (decide_eq_true h), if_pos h]
        · rw [if_neg (by simpa using h), if_neg h]
      have hle := cntN_le z (rawB k) j
      have wn : wrap64 ((cntN z (rawB k) j : Int) + 1) = (cntN z (rawB k) j : Int) + 1 := by unfold wrap64; omega
      have HST := Lib.hid hst
      have WN := Lib.hid wn
      clear hst hv hle wn
      generalize hn1 : cntN z (rawB k) (j + 1) = n1 at HST
      have HN1 := Lib.hid hn1
      clear hn1
      generalize cntN z (rawB k) j = n0 at HST WN ⊢
      generalize at8 z j = v at c0 hwv HST K R
      generalize rawF (kindF v) = rv at HST R
      generalize kindF v = kv at K R
      by_cases hvx : rv = k
      · have bx : (rv == (k : Int)) = true := by simpa using hvx
        have HST2 := Lib.hid (show n1 = n0 + 1 by rw [HST.out, if_pos hvx])
        clear hvx
        go_wp2_with (first
          | (go_at_call 59; rw [hwv]; refine (K.out _).mono ?_; rintro e w2 ⟨rfl, rfl⟩)
          | (go_at_call 110; refine (R.out _).mono ?_; rintro e w3 ⟨rfl, rfl⟩))
        go_roundw
        case rel => exact ⟨j + 1, by omega, by go_num, by rw [HN1.out, HST2.out, WN.out]; rfl, trivial⟩
        case measure => simp [intOf]; omega
      · have bx : (rv == (k : Int)) = false := by simpa using hvx
        have HST2 := Lib.hid (show n1 = n0 by rw [HST.out, if_neg hvx, Nat.add_zero])
        clear hvx
        go_wp2_with (first
          | (go_at_call 59; rw [hwv]; refine (K.out _).mono ?_; rintro e w2 ⟨rfl, rfl⟩)
          | (go_at_call 110; refine (R.out _).mono ?_; rintro e w3 ⟨rfl, rfl⟩))
        go_roundw
        case rel => exact ⟨j + 1, by omega, by go_num, by rw [HN1.out, HST2.out], trivial⟩
        case measure => simp [intOf]; omega
    · obtain rfl : j = 81 := by omega
      have c0 := HP.out.cell (81 + k) (by have := HZ.out; omega)
      have c1 := HP.out.cell (89 + k) (by have := HZ.out; omega)
      have h0 := H8.out.at (81 + k)
      have h1 := H8.out.at (89 + k)
      have hle := cntN_le z (rawB k) 81
      have w0 : wrap64 (at8 z (81 + k)) = at8 z (81 + k) := by unfold wrap64; omega
      have w1e : wrap64 (at8 z (89 + k)) = at8 z (89 + k) := by unfold wrap64; omega
      have w2e : wrap64 ((cntN z (rawB k) 81 : Int) + at8 z (81 + k)) = (cntN z (rawB k) 81 : Int) + at8 z (81 + k) := by unfold wrap64; omega
      have w3e : wrap64 ((cntN z (rawB k) 81 : Int) + at8 z (81 + k) + at8 z (89 + k)) = (cntN z (rawB k) 81 : Int) + at8 z (81 + k) + at8 z (89 + k) := by unfold wrap64; omega
      have v2e : IntKind.i64.wrap ((cntN z (rawB k) 81 : Int) + at8 z (81 + k)) = (cntN z (rawB k) 81 : Int) + at8 z (81 + k) := by rw [IntKind.wrap_i64]; omega
      have v3e : IntKind.i64.wrap ((cntN z (rawB k) 81 : Int) + at8 z (81 + k) + at8 z (89 + k)) = (cntN z (rawB k) 81 : Int) + at8 z (81 + k) + at8 z (89 + k) := by rw [IntKind.wrap_i64]; omega
      have hk0 : k < 8 := by omega
      clear h0 h1 hle hk hlt
      generalize ha : at8 z (81 + k) = a at *
      generalize hb : at8 z (89 + k) = b at *
      generalize hc : ((cntN z (rawB k) 81 : Nat) : Int) = c at *
      generalize hs1 : c + a = s1 at *
      generalize hs2 : s1 + b = s2 at *
      have HE := Lib.hid (show (cntN z (rawB k) 81 : Int) + at8 z (81 + k) + at8 z (89 + k) = s2 by rw [ha, hb, hc, hs1, hs2])
      clear ha hb hc
      go_wp2
      go_region
      all_goals
        go_wp2
        go_ret
        refine ⟨?_, HB.out.drew⟩
        rw [HE.out]
        rfl
end Go.Proofs.YtilhicohfnaclaaDoor

/-
  The reference's Dead; what the two censuses and the two looks for pawns have in common.
-/
namespace Go.Proofs.YtilhicohfnaclaaDoor
open Go.RowKit
set_option linter.unusedVariables false
set_option linter.unusedSimpArgs false
set_option maxRecDepth 100000

set_option maxHeartbeats 1000000 in
theorem refDead_any (x q : Int) (hx : -128 ≤ x ∧ x ≤ 127) (w : World) :
    Calls Tryd.prog 73 #[.int .i64 x, .int .i64 q] w fun e w' => e = .returned (.bool (deadF x q)) ∧ w = w' := by
  have K := Lib.hid (fun W => refKind_any x W hx.1 hx.2)
  have S := Lib.hid (fun W => refSide_any x W hx.1 hx.2)
  have FA := Lib.hid (fun W => refFar_any (sideF x) q W)
  have hbd := farF_bd (sideF x) q
  unfold deadF
  generalize sideF x = s at S FA hbd ⊢
  generalize farF s q = n at FA hbd ⊢
  generalize hkk : kindF x = k at K ⊢
  clear hkk hx
  have hn01 : decide (0 ≤ n ∧ n ≤ 1) = (decide (n = 0) || decide (n = 1)) := by
    by_cases h0 : n = 0
    · subst h0; rfl
    · by_cases h1 : n = 1
      · subst h1; rfl
      · rw [decide_eq_false h0, decide_eq_false h1, decide_eq_false (by omega)]; rfl
  rw [hn01]
  clear hn01 hbd
  by_cases h12 : k = 1 ∨ k = 2
  · rw [decide_eq_true h12, decide_eq_false (show ¬ k = 3 by omega)]
    rcases h12 with rfl | rfl
    all_goals
      by_cases h0 : n = 0
      · subst h0
        go_enter Tryd.func73, Tryd.ntmps73
        go_wp2_with (first
          | (go_at_call 35; refine (S.out _).mono ?_; rintro e w1 ⟨rfl, rfl⟩)
          | (go_at_call 59; refine (K.out _).mono ?_; rintro e w3 ⟨rfl, rfl⟩)
          | (go_at_call 92; refine (FA.out _).mono ?_; rintro e w2 ⟨rfl, rfl⟩))
        go_ret
        exact ⟨rfl, rfl⟩
      · have n0 : (n == 0) = false := by simpa using h0
        rw [decide_eq_false h0]
        go_enter Tryd.func73, Tryd.ntmps73
        go_wp2_with (first
          | (go_at_call 35; refine (S.out _).mono ?_; rintro e w1 ⟨rfl, rfl⟩)
          | (go_at_call 59; refine (K.out _).mono ?_; rintro e w3 ⟨rfl, rfl⟩)
          | (go_at_call 92; refine (FA.out _).mono ?_; rintro e w2 ⟨rfl, rfl⟩))
        go_ret
        exact ⟨rfl, rfl⟩
  · have k1 : (k == 1) = false := by simp; omega
    have k2 : (k == 2) = false := by simp; omega
    rw [decide_eq_false h12]
    by_cases h3 : k = 3
    · subst h3
      by_cases h0 : n = 0
      · subst h0
        go_enter Tryd.func73, Tryd.ntmps73
        go_wp2_with (first
          | (go_at_call 35; refine (S.out _).mono ?_; rintro e w1 ⟨rfl, rfl⟩)
          | (go_at_call 59; refine (K.out _).mono ?_; rintro e w3 ⟨rfl, rfl⟩)
          | (go_at_call 92; refine (FA.out _).mono ?_; rintro e w2 ⟨rfl, rfl⟩))
        go_ret
        exact ⟨rfl, rfl⟩
      · have n0 : (n == 0) = false := by simpa using h0
        rw [decide_eq_false h0]
        by_cases h1 : n = 1
        · subst h1
          go_enter Tryd.func73, Tryd.ntmps73
          go_wp2_with (first
            | (go_at_call 35; refine (S.out _).mono ?_; rintro e w1 ⟨rfl, rfl⟩)
            | (go_at_call 59; refine (K.out _).mono ?_; rintro e w3 ⟨rfl, rfl⟩)
            | (go_at_call 92; refine (FA.out _).mono ?_; rintro e w2 ⟨rfl, rfl⟩))
          go_ret
          exact ⟨rfl, rfl⟩
        · have n1 : (n == 1) = false := by simpa using h1
          rw [decide_eq_false h1]
          go_enter Tryd.func73, Tryd.ntmps73
          go_wp2_with (first
            | (go_at_call 35; refine (S.out _).mono ?_; rintro e w1 ⟨rfl, rfl⟩)
            | (go_at_call 59; refine (K.out _).mono ?_; rintro e w3 ⟨rfl, rfl⟩)
            | (go_at_call 92; refine (FA.out _).mono ?_; rintro e w2 ⟨rfl, rfl⟩))
          go_ret
          exact ⟨rfl, rfl⟩
    · have k3 : (k == 3) = false := by simpa using h3
      rw [decide_eq_false h3]
      go_enter Tryd.func73, Tryd.ntmps73
      go_wp2_with (first
        | (go_at_call 35; refine (S.out _).mono ?_; rintro e w1 ⟨rfl, rfl⟩)
        | (go_at_call 59; refine (K.out _).mono ?_; rintro e w3 ⟨rfl, rfl⟩)
        | (go_at_call 92; refine (FA.out _).mono ?_; rintro e w2 ⟨rfl, rfl⟩))
      go_ret
      exact ⟨rfl, rfl⟩

/-! How many bits of a number are set: told bit by bit. -/
def tbN (n : Nat) : Nat → Nat
  | 0 => 0
  | k + 1 => tbN n k + (if n.testBit k then 1 else 0)
theorem tb_shift (n : Nat) : ∀ k, tbN n (k + 1) = (if n.testBit 0 then 1 else 0) + tbN (n / 2) k
  | 0 => by simp [tbN]
  | k + 1 => by
    rw [tbN, tb_shift n k, tbN, Nat.testBit_succ]
    omega
theorem pop_tb : ∀ (k n : Nat), pop k n = tbN n k
  | 0, n => rfl
  | k + 1, n => by
    rw [tb_shift, ← pop_tb k (n / 2), pop]
    congr 1
    rw [Nat.testBit_zero]
    by_cases h : n % 2 = 1
    · simp [h]
    · have : n % 2 = 0 := by omega
      simp [this]
/-- The squares of a file. -/
theorem file_test (f : Nat) (hf : f < 9) : ∀ k, k ≤ 9 → ∀ i, i < 81 → (ofN (fileL f k)).testBit i = (decide (9 * f ≤ i) && decide (i < 9 * f + k))
  | 0, _, i, hi => by
    have : ofN (fileL f 0) = 0 := rfl
    rw [this, Nat.zero_testBit]
    symm
    rw [Bool.and_eq_false_iff]
    by_cases h : 9 * f ≤ i
    · right; exact decide_eq_false (by omega)
    · left; exact decide_eq_false h
  | k + 1, hk, i, hi => by
    have e : squareF f k = ((9 * f + k : Nat) : Int) := by unfold squareF; rw [if_pos (by omega)]; omega
    rw [fileL_step, Nat.testBit_or, file_test f hf k (by omega) i hi, e, oneN_test _ i (by omega)]
    by_cases h : i = 9 * f + k
    · subst h
      simp
    · rw [decide_eq_false h, Bool.or_false]
      congr 1
      by_cases h2 : i < 9 * f + k
      · rw [decide_eq_true h2, decide_eq_true (by omega)]
      · rw [decide_eq_false h2, decide_eq_false (by omega)]
theorem tb_file (z : List Int) (g : Int → Bool) (f : Nat) (hf : f < 9) : ∀ k, k ≤ 81 →
    tbN (whereN z g 81 &&& ofN (fileL f 9)) k = cntN z g (min k (9 * f + 9)) - cntN z g (min k (9 * f))
  | 0, _ => by simp [tbN]
  | k + 1, hk => by
    rw [tbN, tb_file z g f hf k (by omega), Nat.testBit_and, where_test, file_test f hf 9 (Nat.le_refl _) k (by omega), decide_eq_true (show k < 81 by omega), Bool.true_and]
    by_cases h1 : k < 9 * f
    · rw [show min k (9 * f + 9) = k by omega, show min k (9 * f) = k by omega, show min (k + 1) (9 * f + 9) = k + 1 by omega, show min (k + 1) (9 * f) = k + 1 by omega, decide_eq_false (show ¬ 9 * f ≤ k by omega)]
      simp
    · by_cases h2 : k < 9 * f + 9
      · rw [show min k (9 * f + 9) = k by omega, show min k (9 * f) = 9 * f by omega, show min (k + 1) (9 * f + 9) = k + 1 by omega, show min (k + 1) (9 * f) = 9 * f by omega, decide_eq_true (show 9 * f ≤ k by omega), decide_eq_true h2, cntN]
        have := cntN_mono z g (9 * f) (k - 9 * f)
        rw [show 9 * f + (k - 9 * f) = k by omega] at this
        simp only [Bool.and_true]
        split <;> omega
      · rw [show min k (9 * f + 9) = 9 * f + 9 by omega, show min k (9 * f) = 9 * f by omega, show min (k + 1) (9 * f + 9) = 9 * f + 9 by omega, show min (k + 1) (9 * f) = 9 * f by omega, decide_eq_false h2]
        simp
theorem cntN_congr (z z' : List Int) (f f' : Int → Bool) : ∀ k, (∀ i, i < k → f (at8 z i) = f' (at8 z' i)) → cntN z f k = cntN z' f' k
  | 0, _ => rfl
  | k + 1, h => by
    rw [cntN, cntN, cntN_congr z z' f f' k (fun i hi => h i (by omega)), h k (by omega)]
theorem pawns_on (z : List Int) (s : Nat) (hs : s < 2) (f : Nat) (hf : f < 9) : (pawnsN z s f : Int) = onI z (16 * s + 1) f 9 := by
  have ho : ofF s 1 = 16 * s + 1 := by
    unfold ofF
    rw [if_neg (by decide)]
    by_cases h : s = 0
    · subst h; rfl
    · obtain rfl : s = 1 := by omega
      rfl
  unfold pawnsN
  rw [ho, pop_tb]
  unfold pieceN
  rw [tb_file z _ f hf 81 (Nat.le_refl _), show min 81 (9 * f + 9) = 9 * f + 9 by omega, show min 81 (9 * f) = 9 * f by omega]
  have hb : ∀ y, pieceB (16 * s + 1) y = eqB (16 * s + 1) y := by
    intro y
    unfold pieceB eqB
    have : kindF (16 * (s : Int) + 1) ≠ 0 := by
      by_cases h : s = 0
      · subst h; decide
      · obtain rfl : s = 1 := by omega
        decide
    rw [decide_eq_false this]
    simp
  rw [cntN_congr z z _ (eqB (16 * s + 1)) _ (fun i _ => hb _), cntN_congr z z (pieceB (16 * s + 1)) (eqB (16 * s + 1)) (9 * f) (fun i _ => hb _)]
  have := cntN_mono z (eqB (16 * s + 1)) (9 * f) 9
  unfold onI
  omega
end Go.Proofs.YtilhicohfnaclaaDoor

/-
  The reference's Check of positions.
-/
namespace Go.Proofs.YtilhicohfnaclaaDoor
open Go.RowKit
set_option linter.unusedVariables false
set_option linter.unusedSimpArgs false
set_option maxRecDepth 100000

theorem chk_side (z : List Int) (h : ¬ (at8 z 97 = 0 ∨ at8 z 97 = 1)) : checkF z = 1 := by unfold checkF chkF; rw [if_pos h]
theorem chk_known (z : List Int) (h : at8 z 97 = 0 ∨ at8 z 97 = 1) (h2 : knownB z = false) : checkF z = 55 := by
  unfold checkF chkF; rw [if_neg (fun e => e h), if_pos h2]
theorem chk_kings (z : List Int) (h : at8 z 97 = 0 ∨ at8 z 97 = 1) (h2 : knownB z = true) (h3 : ¬ (FH z 16 0 = 1 ∧ FH z 16 1 = 1)) : checkF z = 50 := by
  unfold checkF chkF; rw [if_neg (fun e => e h), if_neg (by rw [h2]; decide), if_pos h3]
theorem chk_count (z : List Int) (h : at8 z 97 = 0 ∨ at8 z 97 = 1) (h2 : knownB z = true) (h3 : FH z 16 0 = 1 ∧ FH z 16 1 = 1) (h4 : allB (fewB (FH z 16)) 9 = false) : checkF z = 51 := by
  unfold checkF chkF; rw [if_neg (fun e => e h), if_neg (by rw [h2]; decide), if_neg (fun e => e h3), if_pos h4]
theorem chk_dead (z : List Int) (h : at8 z 97 = 0 ∨ at8 z 97 = 1) (h2 : knownB z = true) (h3 : FH z 16 0 = 1 ∧ FH z 16 1 = 1) (h4 : allB (fewB (FH z 16)) 9 = true) (h5 : allB (aliveQ z) 81 = false) : checkF z = 52 := by
  unfold checkF chkF; rw [if_neg (fun e => e h), if_neg (by rw [h2]; decide), if_neg (fun e => e h3), if_neg (by rw [h4]; decide), if_pos h5]
theorem chk_nifu (z : List Int) (h : at8 z 97 = 0 ∨ at8 z 97 = 1) (h2 : knownB z = true) (h3 : FH z 16 0 = 1 ∧ FH z 16 1 = 1) (h4 : allB (fewB (FH z 16)) 9 = true) (h5 : allB (aliveQ z) 81 = true) (h6 : allB (oneQ (newZ z)) 18 = false) : checkF z = 53 := by
  unfold checkF chkF; rw [if_neg (fun e => e h), if_neg (by rw [h2]; decide), if_neg (fun e => e h3), if_neg (by rw [h4]; decide), if_neg (by rw [h5]; decide), if_pos h6]
theorem chk_ok (z : List Int) (h : at8 z 97 = 0 ∨ at8 z 97 = 1) (h2 : knownB z = true) (h3 : FH z 16 0 = 1 ∧ FH z 16 1 = 1) (h4 : allB (fewB (FH z 16)) 9 = true) (h5 : allB (aliveQ z) 81 = true) (h6 : allB (oneQ (newZ z)) 18 = true) : checkF z = 0 := by
  unfold checkF chkF; rw [if_neg (fun e => e h), if_neg (by rw [h2]; decide), if_neg (fun e => e h3), if_neg (by rw [h4]; decide), if_neg (by rw [h5]; decide), if_neg (by rw [h6]; decide)]

theorem known_of (z : List Int) (h1 : ∀ q, q < 81 → knownQ z q = true) (h2 : ∀ i, i < 8 → knownH z i = true ∧ knownH z (8 + i) = true) : knownB z = true := by
  unfold knownB
  rw [(allB_iff _ _).2 h1, (allB_iff _ _).2 (fun i hi => by
    by_cases h : i < 8
    · exact (h2 i h).1
    · have := (h2 (i - 8) (by omega)).2
      rwa [show 8 + (i - 8) = i by omega] at this)]
  rfl
theorem known_clean (z : List Int) (h : ∀ q, q < 81 → knownQ z q = true) : Clean z := by
  intro q hq hk
  have := h q hq
  unfold knownQ at this
  rw [hk] at this
  simpa using this
theorem king_count (z : List Int) (h8 : I8s z) : FH z 16 0 = cntN z (eqB 8) 81 ∧ FH z 16 1 = cntN z (eqB 24) 81 := by
  rw [FH_at z h8 0 16 (Nat.le_refl _), FH_at z h8 1 16 (Nat.le_refl _)]
  unfold handsF
  rw [if_neg (by omega), if_neg (by omega)]
  unfold FB
  constructor
  · rw [Int.add_zero, cntN_congr z z (cenB 0) (eqB 8) 81 (fun i _ => by unfold cenB eqB; rw [if_pos rfl])]
  · rw [Int.add_zero, cntN_congr z z (cenB 1) (eqB 24) 81 (fun i _ => by unfold cenB eqB; rw [if_neg (by omega), if_pos rfl])]
theorem kind_count (z : List Int) (h8 : I8s z) (k : Nat) (hk : 1 ≤ k ∧ k ≤ 7) : FH z 16 (2 + k) = (cntN z (rawB k) 81 : Int) + at8 z (81 + k) + at8 z (89 + k) := by
  rw [FH_at z h8 _ 16 (Nat.le_refl _)]
  unfold handsF
  rw [if_pos (by omega), if_pos (by omega), if_pos (by omega), show 81 + (2 + k - 2) = 81 + k by omega, show 81 + (8 + (2 + k - 2)) = 89 + k by omega]
  unfold FB
  rw [cntN_congr z z (cenB (2 + k)) (rawB k) 81 (fun i _ => by rw [cenB_kind _ _ (by omega)]; unfold rawB; congr 1; rw [show ((2 + k : Nat) : Int) - 2 = k by omega]), Int.add_assoc]
/-- What has no kind is counted never; kings are two. -/
theorem cnt_add (z : List Int) (f g h : Int → Bool) (hh : ∀ y, (if h y then (1 : Nat) else 0) = (if f y then 1 else 0) + (if g y then 1 else 0)) : ∀ k, cntN z h k = cntN z f k + cntN z g k
  | 0 => rfl
  | k + 1 => by
    rw [cntN, cntN, cntN, cnt_add z f g h hh k, hh]
    omega
theorem few_ends (z : List Int) (h8 : I8s z) (hk : knownB z = true) (h3 : FH z 16 0 = 1 ∧ FH z 16 1 = 1) : fewB (FH z 16) 0 = true ∧ fewB (FH z 16) 8 = true := by
  have hkk := king_count z h8
  rw [hkk.1, hkk.2] at h3
  have hH : ∀ j, j < 16 → knownH z j = true := by
    unfold knownB at hk
    exact (allB_iff _ _).1 (Bool.and_eq_true_iff.1 hk).2
  have e0 : at8 z 81 = 0 := by
    have := hH 0 (by omega)
    unfold knownH at this
    simp at this
    exact this.2
  have e8 : at8 z 89 = 0 := by
    have := hH 8 (by omega)
    unfold knownH at this
    simp at this
    exact this.2
  unfold fewB
  constructor
  · apply decide_eq_true
    rw [FH_at z h8 _ 16 (Nat.le_refl _)]
    have c0 : FB z 81 2 = 0 := by
      unfold FB
      have : ∀ k, cntN z (cenB 2) k = 0 := by
        intro k
        induction k with
        | zero => rfl
        | succ k ih =>
          rw [cntN, ih]
          unfold cenB
          simp
      rw [this]
      rfl
    have hh : handsF z 16 2 = 0 := by
      unfold handsF
      rw [if_pos (by omega), if_pos (by omega), if_pos (by omega)]
      show at8 z 81 + at8 z 89 = 0
      rw [e0, e8]
      rfl
    rw [c0, hh]
    decide
  · apply decide_eq_true
    rw [FH_at z h8 _ 16 (Nat.le_refl _)]
    have hh : handsF z 16 10 = 0 := by
      unfold handsF
      rw [if_neg (by omega)]
    have hc : cntN z (cenB 10) 81 = cntN z (eqB 8) 81 + cntN z (eqB 24) 81 := by
      refine cnt_add z _ _ _ (fun y => ?_) 81
      rw [cenB_kind 10 y (by omega)]
      have hs := kind_side y
      have hr := rawF_cases (kindF y)
      unfold eqB
      by_cases a : y = 8
      · subst a; decide
      · by_cases b : y = 24
        · subst b; decide
        · rw [decide_eq_false a, decide_eq_false b, decide_eq_false (show ¬ rawF (kindF y) = ((10 : Nat) : Int) - 2 by omega)]
          rfl
    show FB z 81 10 + handsF z 16 10 ≤ totalF 8
    rw [hh]
    unfold FB
    rw [hc]
    have : totalF 8 = 2 := by decide
    omega
theorem few_of (z : List Int) (h8 : I8s z) (hk : knownB z = true) (h3 : FH z 16 0 = 1 ∧ FH z 16 1 = 1) (h : ∀ k, 1 ≤ k → k < 8 → fewB (FH z 16) k = true) : allB (fewB (FH z 16)) 9 = true := by
  have he := few_ends z h8 hk h3
  refine (allB_iff _ _).2 (fun i hi => ?_)
  by_cases h0 : i = 0
  · subst h0; exact he.1
  · by_cases h8' : i = 8
    · subst h8'; exact he.2
    · exact h i (by omega) (by omega)
theorem one_at (z : List Int) (s f : Nat) (hs : s < 2) (hf : f < 9) : oneQ z (9 * s + f) = decide (onI z (16 * s + 1) f 9 ≤ 1) := by
  unfold oneQ
  rw [show (9 * s + f) / 9 = s by omega, show (9 * s + f) % 9 = f by omega]
  have := pawns_on z s hs f hf
  by_cases h : pawnsN z s f ≤ 1
  · rw [decide_eq_true h, decide_eq_true (by omega)]
  · rw [decide_eq_false h, decide_eq_false (by omega)]
theorem one_of (z : List Int) (h : ∀ f, f < 9 → onI z 1 f 9 ≤ 1 ∧ onI z 17 f 9 ≤ 1) : allB (oneQ z) 18 = true := by
  refine (allB_iff _ _).2 (fun i hi => ?_)
  by_cases h9 : i < 9
  · have := one_at z 0 i (by omega) h9
    rw [show 9 * 0 + i = i by omega] at this
    rw [this]
    exact decide_eq_true (h i h9).1
  · have := one_at z 1 (i - 9) (by omega) (by omega)
    rw [show 9 * 1 + (i - 9) = i by omega] at this
    rw [this]
    exact decide_eq_true (h (i - 9) (by omega)).2
theorem one_no (z : List Int) (f : Nat) (hf : f < 9) (h : 1 < onI z 1 f 9 ∨ 1 < onI z 17 f 9) : allB (oneQ z) 18 = false := by
  rcases h with h | h
  · have := one_at z 0 f (by omega) hf
    exact allB_no (j := 9 * 0 + f) (by rw [this]; exact decide_eq_false (by show ¬ onI z 1 f 9 ≤ 1; omega)) (by omega)
  · have := one_at z 1 f (by omega) hf
    exact allB_no (j := 9 * 1 + f) (by rw [this]; exact decide_eq_false (by show ¬ onI z 17 f 9 ≤ 1; omega)) (by omega)
end Go.Proofs.YtilhicohfnaclaaDoor

/-
  The reference's Check of positions: the walk.
-/
namespace Go.Proofs.YtilhicohfnaclaaDoor
open Go.RowKit
set_option linter.unusedVariables false
set_option linter.unusedSimpArgs false

theorem load_mid_want {P : Program} {ops : Array Oper} {rest : List Oper} {o : Oper} {a : Act} {w : World} {Q : Exit → Act → World → Prop} (hw : Region.wanted o (yielded ops a.tmps) = true) (ty : TypeId) (x : Operand) (ho : o.op = .load ty x)
    (b n : Nat) (hx : a.eval x = .pointer (some ⟨b, n, none⟩)) (cs : List Value) (d : TypeDesc) (hc : w.rangeAt b n cs) (hu : P.underlying ty = some d) (hd : d.isRow = true) (hi : (P.info? ty).map (·.size) = some cs.length)
    (h : wpList P ops Q rest (a.put o.dst (.agg cs.toArray)) w) : wpList P ops Q (o :: rest) a w :=
  wpList_step fun K hK => by
    rw [if_pos hw]
    exact wp_load_mid ty x ho b n hx cs d hc hu hd hi (hK _ _ h)
set_option maxRecDepth 100000 in
set_option maxHeartbeats 8000000 in
theorem refCheck_any (z : List Int) (hz : z.length = 98) (h8 : I8s z) (w : World) :
    Calls Tryd.prog 33 #[.agg (posC z).toArray] w fun e w' => e = .returned (.int .i64 (checkF z)) ∧ Below w.heap.size w w' := by
  have RK := Lib.hid (fun (x : Int) (h : -128 ≤ x ∧ x ≤ 127) W => refKind_any x W h.1 h.2)
  have AL := Lib.hid (fun x W => refAll_any z hz h8 x W)
  have CO := Lib.hid (fun k hk W => refCount_any z hz h8 k hk W)
  have TT := Lib.hid (fun k W => refTotal_any k W)
  have DE := Lib.hid (fun x q hx W => refDead_any x q hx W)
  have ON := Lib.hid (fun x f hf W => refOn_any z hz h8 x f hf W)
  have hkc := king_count z h8
  have HKC := Lib.hid (show True → _ from fun _ => hkc)
  have P0 := PosAt.new w z
  have c97 := P0.cell 97 (by omega)
  have HP := Lib.hid P0
  have HB := Lib.hid (ball (bref w) (.cells (posC z).toArray 28))
  have HINF := Lib.hid (show (Tryd.prog.info? 28).map (·.size) = some (posC z).length by rw [posC_len, hz]; exact infoPos)
  have H8 := Lib.hid h8
  have HZ := Lib.hid hz
  clear hz h8 P0 hkc
  by_cases hs0 : at8 z 97 = 0
  · have HS := Lib.hid (show at8 z 97 = 0 ∨ at8 z 97 = 1 from .inl hs0)
    rw [hs0] at c97
    clear hs0
    go_enter Tryd.func33, Tryd.ntmps33
    go_wp2
    generalize w.alloc (.cells (posC z).toArray 28) = w1 at *
    clear c97
    -- the squares
    go_loopw [3] (fun r wr => ∃ j : Nat, j ≤ 81 ∧ r = .int .i64 j ∧ (∀ q, q < j → knownQ z q = true) ∧ wr = w1) (fun r _ => 81 - (intOf r).toNat)
    case atStart => exact ⟨0, Nat.zero_le _, rfl, fun q hq => absurd hq (Nat.not_lt_zero _), rfl⟩
    case round =>
      obtain ⟨j, hj, rfl, hall, rfl⟩ := hrel
      have HALL := Lib.hid hall
      clear hall
      by_cases hlt : j < 81
      · have c0 := HP.out.cell j (by have := HZ.out; omega)
        have hv := H8.out.at j
        have hwv : wrap64 (at8 z j) = at8 z j := by unfold wrap64; omega
        have K := Lib.hid (fun W => RK.out (at8 z j) hv W)
        have hk : knownQ z j = (decide (at8 z j = 0) || !decide (kindF (at8 z j) = 0)) := rfl
        clear hv
        generalize at8 z j = x at c0 hwv K hk
        generalize kindF x = kx at K hk
        by_cases h0 : x = 0
        · have hk1 : knownQ z j = true := by rw [hk, decide_eq_true h0]; rfl
          have HN := Lib.hid (show ∀ q, q < j + 1 → knownQ z q = true from fun q hq => by
            by_cases e : q = j
            · rw [e]; exact hk1
            · exact HALL.out q (by omega))
          subst h0
          clear hk hk1 hwv
          go_wp2
          go_roundw
          case rel => exact ⟨j + 1, by omega, by go_num, HN.out, trivial⟩
          case measure => simp [intOf]; omega
        · have n0 : (x != 0) = true := by simpa using h0
          by_cases h1 : kx = 0
          · have HN := Lib.hid (show True → knownB z = false from fun _ => by
              unfold knownB
              rw [allB_no (f := knownQ z) (j := j) (by rw [hk, decide_eq_false h0, decide_eq_true h1]; rfl) hlt]
              rfl)
            have FIN := Lib.hid (show True → Ending.returned (Value.int .i64 55) = Ending.returned (Value.int .i64 (checkF z)) from fun _ => by rw [chk_known z HS.out (HN.out trivial)])
            subst h1
            clear hk h0
            go_wp2_with (go_at_call 59; rw [hwv]; refine (K.out _).mono ?_; rintro e w2 ⟨rfl, rfl⟩)
            go_ret
            exact ⟨FIN.out trivial, HB.out⟩
          · have hk1 : knownQ z j = true := by rw [hk, decide_eq_false h0, decide_eq_false h1]; rfl
            have n1 : (kx == 0) = false := by simpa using h1
            have HN := Lib.hid (show ∀ q, q < j + 1 → knownQ z q = true from fun q hq => by
              by_cases e : q = j
              · rw [e]; exact hk1
              · exact HALL.out q (by omega))
            clear hk hk1 h0 h1
            go_wp2_with (go_at_call 59; rw [hwv]; refine (K.out _).mono ?_; rintro e w2 ⟨rfl, rfl⟩)
            go_roundw
            case rel => exact ⟨j + 1, by omega, by go_num, HN.out, trivial⟩
            case measure => simp [intOf]; omega
      · obtain rfl : j = 81 := by omega
        clear hlt hj
        go_wp2
        -- the hands
        go_loopw [4, 5, 6] (fun r _ _ wr' => ∃ j : Nat, j ≤ 8 ∧ r = .int .i64 j ∧ (∀ i, i < j → knownH z i = true ∧ knownH z (8 + i) = true) ∧ wr' = wr) (fun r _ _ _ => 8 - (intOf r).toNat)
        case atStart => exact ⟨0, Nat.zero_le _, rfl, fun q hq => absurd hq (Nat.not_lt_zero _), rfl⟩
        case round =>
          obtain ⟨k, hk8, rfl, hallk, rfl⟩ := hrel
          have HALLK := Lib.hid hallk
          clear hallk
          by_cases hlt : k < 8
          · go_wp2
            go_loopw [5, 6] (fun r _ wr' => ∃ s : Nat, s ≤ 2 ∧ r = .int .i64 s ∧ (∀ i, i < s → knownH z (8 * i + k) = true) ∧ wr' = wr) (fun r _ _ => 2 - (intOf r).toNat)
            case atStart => exact ⟨0, Nat.zero_le _, rfl, fun q hq => absurd hq (Nat.not_lt_zero _), rfl⟩
            case round =>
              obtain ⟨s, hs2, rfl, halls, rfl⟩ := hrel
              have HALLS := Lib.hid halls
              clear halls
              by_cases hlts : s < 2
              · have c0 := HP.out.cell (81 + s * 8 + k) (by have := HZ.out; omega)
                have hk : knownH z (8 * s + k) = !(decide (at8 z (81 + (8 * s + k)) < 0) || (decide (k = 0) && !decide (at8 z (81 + (8 * s + k)) = 0))) := by
                  unfold knownH
                  rw [show (8 * s + k) % 8 = k by omega]
                rw [show 81 + s * 8 + k = 81 + (8 * s + k) by omega] at c0
                have c0' := c0
                rw [show 81 + (8 * s + k) = 81 + s * 8 + k by omega] at c0'
                rw [show at8 z (81 + s * 8 + k) = at8 z (81 + (8 * s + k)) by rw [show 81 + s * 8 + k = 81 + (8 * s + k) by omega]] at c0'
                clear c0
                generalize at8 z (81 + (8 * s + k)) = x at c0' hk
                by_cases hbad : x < 0 ∨ (k = 0 ∧ x ≠ 0)
                · have HN := Lib.hid (show True → knownB z = false from fun _ => by
                    unfold knownB
                    rw [allB_no (f := knownH z) (j := 8 * s + k) (by
                      rw [hk]
                      rcases hbad with h | ⟨h, h'⟩
                      · rw [decide_eq_true h]; rfl
                      · rw [decide_eq_true h, decide_eq_false h']; cases decide (x < 0) <;> rfl) (by omega), Bool.and_false])
                  have FIN := Lib.hid (show True → Ending.returned (Value.int .i64 55) = Ending.returned (Value.int .i64 (checkF z)) from fun _ => by rw [chk_known z HS.out (HN.out trivial)])
                  clear hk
                  by_cases h : x < 0
                  · clear hbad
                    go_wp2
                    go_ret
                    exact ⟨FIN.out trivial, HB.out⟩
                  · have hb2 := hbad.resolve_left h
                    have j0 : ((k : Int) == 0) = true := by simpa using hb2.1
                    have n0 : (x != 0) = true := by simpa using hb2.2
                    clear hbad hb2
                    go_wp2
                    go_ret
                    exact ⟨FIN.out trivial, HB.out⟩
                · have hk1 : knownH z (8 * s + k) = true := by
                    rw [hk, decide_eq_false (fun h => hbad (.inl h))]
                    by_cases h : k = 0
                    · rw [decide_eq_true h, decide_eq_true (show x = 0 by omega)]; rfl
                    · rw [decide_eq_false h]; rfl
                  have HN := Lib.hid (show ∀ i, i < s + 1 → knownH z (8 * i + k) = true from fun i hi => by
                    by_cases e : i = s
                    · rw [e]; exact hk1
                    · exact HALLS.out i (by omega))
                  clear hk hk1
                  have nb : ¬ x < 0 := fun h => hbad (.inl h)
                  by_cases h : k = 0
                  · have hx0 : x = 0 := by omega
                    have j0 : ((k : Int) == 0) = true := by simpa using h
                    have n0 : (x != 0) = false := by simpa using hx0
                    clear hbad h hx0
                    go_wp2
                    go_roundw
                    case rel => exact ⟨s + 1, by omega, by go_num, HN.out, trivial⟩
                    case measure => simp [intOf]; omega
                  · have nj : ((k : Int) == 0) = false := by simpa using h
                    clear hbad h
                    go_wp2
                    go_roundw
                    case rel => exact ⟨s + 1, by omega, by go_num, HN.out, trivial⟩
                    case measure => simp [intOf]; omega
              · obtain rfl : s = 2 := by omega
                have HN := Lib.hid (show ∀ i, i < k + 1 → knownH z i = true ∧ knownH z (8 + i) = true from fun i hi => by
                  by_cases e : i = k
                  · subst e
                    have a0 := HALLS.out 0 (by omega)
                    have a1 := HALLS.out 1 (by omega)
                    rw [show 8 * 0 + i = i by omega] at a0
                    rw [show 8 * 1 + i = 8 + i by omega] at a1
                    exact ⟨a0, a1⟩
                  · exact HALLK.out i (by omega))
                go_wp2
                go_roundw
                case rel => exact ⟨k + 1, by omega, by go_num, HN.out, trivial⟩
                case measure => simp [intOf]; omega
          · obtain rfl : k = 8 := by omega
            have HKN := Lib.hid (show True → knownB z = true from fun _ => known_of z HALL.out HALLK.out)
            have HCL := Lib.hid (known_clean z HALL.out)
            clear hlt hk8 HALL HALLK
            -- the kings
            have A8 := Lib.hid (fun W => AL.out 8 W)
            have A24 := Lib.hid (fun W => AL.out 24 W)
            have HK2 := Lib.hid (show True → ((cntN z (eqB 8) 81 : Int) = FH z 16 0) ∧ ((cntN z (eqB 24) 81 : Int) = FH z 16 1) from fun _ => ⟨(HKC.out trivial).1.symm, (HKC.out trivial).2.symm⟩)
            rw [(HK2.out trivial).1] at A8
            rw [(HK2.out trivial).2] at A24
            generalize hk0 : FH z 16 0 = k0 at A8
            generalize hk1 : FH z 16 1 = k1 at A24
            have HK3 := Lib.hid (show True → FH z 16 0 = k0 ∧ FH z 16 1 = k1 from fun _ => ⟨hk0, hk1⟩)
            clear hk0 hk1 HK2
            by_cases hk0 : k0 = 1
            · by_cases hk1 : k1 = 1
              · have HKK := Lib.hid (show True → FH z 16 0 = 1 ∧ FH z 16 1 = 1 from fun _ => ⟨(HK3.out trivial).1.trans hk0, (HK3.out trivial).2.trans hk1⟩)
                subst hk0 hk1
                go_wp2_with (first
                  | (refine wpList_load_mid rfl 28 _ rfl w.heap.size 0 rfl (posC z) _ HP.out.range Tryd.underlying28 rfl HINF.out ?_)
                  | (go_at_call_of 70 (Value.int .i64 8); refine (A8.out _).mono ?_; rintro e w2 ⟨rfl, hb⟩; have HP := Lib.hid (HP.out.grow hb); have HB := Lib.hid (bthen HB.out hb); clear hb)
                  | (refine load_mid_want (by rfl) 28 _ rfl w.heap.size 0 rfl (posC z) _ HP.out.range Tryd.underlying28 rfl HINF.out ?_)
                  | (go_at_call_of 70 (Value.int .i64 24); refine (A24.out _).mono ?_; rintro e w3 ⟨rfl, hb⟩; have HP := Lib.hid (HP.out.grow hb); have HB := Lib.hid (bthen HB.out hb); clear hb))
                clear A8 A24
                -- the counts
                go_loopw [7] (fun r wr => ∃ j : Nat, 1 ≤ j ∧ j ≤ 8 ∧ r = .int .i64 j ∧ (∀ i, 1 ≤ i → i < j → fewB (FH z 16) i = true) ∧ Below w3.heap.size w3 wr) (fun r _ => 8 - (intOf r).toNat)
                case atStart => exact ⟨1, Nat.le_refl _, by omega, rfl, fun q hq h => absurd hq (by omega), bref _⟩
                case round =>
                  obtain ⟨j, hj1, hj, rfl, hall, hW⟩ := hrel
                  have HALLC := Lib.hid hall
                  have HP := Lib.hid (HP.out.grow hW)
                  have HB := Lib.hid (bthen HB.out hW)
                  have HWC := Lib.hid hW
                  clear hall hW
                  by_cases hlt : j < 8
                  · have COj := Lib.hid (fun W => CO.out j ⟨hj1, by omega⟩ W)
                    rw [← kind_count z H8.out j ⟨hj1, by omega⟩] at COj
                    have TTj := Lib.hid (fun W => TT.out j W)
                    have hf : fewB (FH z 16) j = decide (FH z 16 (2 + j) ≤ totalF j) := rfl
                    generalize FH z 16 (2 + j) = x at COj hf
                    generalize totalF j = t at TTj hf
                    by_cases h : x ≤ t
                    · have HN := Lib.hid (show ∀ i, 1 ≤ i → i < j + 1 → fewB (FH z 16) i = true from fun i hi1 hi => by
                        by_cases e : i = j
                        · rw [e, hf]; exact decide_eq_true h
                        · exact HALLC.out i hi1 (by omega))
                      have c1 : ¬ t < x := by omega
                      clear hf h
                      go_wp2_with (first
                        | (refine wpList_load_mid rfl 28 _ rfl w.heap.size 0 rfl (posC z) _ HP.out.range Tryd.underlying28 rfl HINF.out ?_)
                        | (go_at_call 71; refine (COj.out _).mono ?_; rintro e w4 ⟨rfl, hb4⟩)
                        | (go_at_call 72; refine (TTj.out _).mono ?_; rintro e w5 ⟨rfl, hb5⟩))
                      go_roundw
                      case rel => exact ⟨j + 1, by omega, by omega, by go_num, HN.out, bthen (bthen HWC.out hb4) hb5⟩
                      case measure => simp [intOf]; omega
                    · have hbad : allB (fewB (FH z 16)) 9 = false := allB_no (by rw [hf]; exact decide_eq_false h) (by omega)
                      have FIN := Lib.hid (show True → Ending.returned (Value.int .i64 51) = Ending.returned (Value.int .i64 (checkF z)) from fun _ => by rw [chk_count z HS.out (HKN.out trivial) (HKK.out trivial) hbad])
                      have c1 : t < x := by omega
                      clear hf h hbad
                      go_wp2_with (first
                        | (refine wpList_load_mid rfl 28 _ rfl w.heap.size 0 rfl (posC z) _ HP.out.range Tryd.underlying28 rfl HINF.out ?_)
                        | (go_at_call 71; refine (COj.out _).mono ?_; rintro e w4 ⟨rfl, hb4⟩)
                        | (go_at_call 72; refine (TTj.out _).mono ?_; rintro e w5 ⟨rfl, hb5⟩))
                      go_ret
                      exact ⟨FIN.out trivial, bthen (bthen HB.out hb4) hb5⟩
                  · obtain rfl : j = 8 := by omega
                    have HFW := Lib.hid (show True → allB (fewB (FH z 16)) 9 = true from fun _ => few_of z H8.out (HKN.out trivial) (HKK.out trivial) HALLC.out)
                    clear hlt hj hj1 HALLC HWC
                    go_wp2
                    -- the dead
                    try rw [show ((8 : Nat) : Int) = 8 from rfl]
                    go_loopw [8] (fun r wr' => ∃ j : Nat, j ≤ 81 ∧ r = .int .i64 j ∧ (∀ q, q < j → aliveQ z q = true) ∧ wr' = wr) (fun r _ => 81 - (intOf r).toNat)
                    case atStart => exact ⟨0, Nat.zero_le _, rfl, fun q hq => absurd hq (Nat.not_lt_zero _), rfl⟩
                    case round =>
                      obtain ⟨j, hj, rfl, hall, rfl⟩ := hrel
                      have HALLD := Lib.hid hall
                      clear hall
                      by_cases hlt : j < 81
                      · have c0 := HP.out.cell j (by have := HZ.out; omega)
                        have hv := H8.out.at j
                        have hwv : wrap64 (at8 z j) = at8 z j := by unfold wrap64; omega
                        have DEj := Lib.hid (fun W => DE.out (at8 z j) j hv W)
                        have hk : aliveQ z j = !deadF (at8 z j) j := rfl
                        clear hv
                        generalize deadF (at8 z j) j = d at DEj hk
                        generalize at8 z j = x at c0 hwv DEj
                        cases d with
                        | true =>
                          have hbad : allB (aliveQ z) 81 = false := allB_no hk hlt
                          have FIN := Lib.hid (show True → Ending.returned (Value.int .i64 52) = Ending.returned (Value.int .i64 (checkF z)) from fun _ => by rw [chk_dead z HS.out (HKN.out trivial) (HKK.out trivial) (HFW.out trivial) hbad])
                          clear hk hbad
                          go_wp2_with (go_at_call 73; rw [hwv]; refine (DEj.out _).mono ?_; rintro e w4 ⟨rfl, rfl⟩)
                          go_ret
                          exact ⟨FIN.out trivial, HB.out⟩
                        | false =>
                          have HN := Lib.hid (show ∀ q, q < j + 1 → aliveQ z q = true from fun q hq => by
                            by_cases e : q = j
                            · rw [e, hk]; rfl
                            · exact HALLD.out q (by omega))
                          clear hk
                          go_wp2_with (go_at_call 73; rw [hwv]; refine (DEj.out _).mono ?_; rintro e w4 ⟨rfl, rfl⟩)
                          go_roundw
                          case rel => exact ⟨j + 1, by omega, by go_num, HN.out, trivial⟩
                          case measure => simp [intOf]; omega
                      · obtain rfl : j = 81 := by omega
                        have HAL := Lib.hid (show True → allB (aliveQ z) 81 = true from fun _ => (allB_iff _ _).2 HALLD.out)
                        clear hlt hj HALLD
                        go_wp2
                        -- the pawns
                        generalize hwr : wr = wp at *
                        clear hwr
                        try rw [show ((81 : Nat) : Int) = 81 from rfl]
                        go_loopw [9] (fun r wr' => ∃ j : Nat, j ≤ 9 ∧ r = .int .i64 j ∧ (∀ f, f < j → onI z 1 f 9 ≤ 1 ∧ onI z 17 f 9 ≤ 1) ∧ Below wp.heap.size wp wr') (fun r _ => 9 - (intOf r).toNat)
                        case atStart => exact ⟨0, Nat.zero_le _, rfl, fun q hq => absurd hq (Nat.not_lt_zero _), bref _⟩
                        case round =>
                          obtain ⟨j, hj, rfl, hall, hW⟩ := hrel
                          have HALLE := Lib.hid hall
                          have HP := Lib.hid (HP.out.grow hW)
                          have HB := Lib.hid (bthen HB.out hW)
                          have HWE := Lib.hid hW
                          clear hall hW
                          by_cases hlt : j < 9
                          · have ON1 := Lib.hid (fun W => ON.out 1 j hlt W)
                            have ON17 := Lib.hid (fun W => ON.out 17 j hlt W)
                            have HNZ := Lib.hid (show True → newZ z = z from fun _ => newZ_self z HZ.out HCL.out)
                            have hno := one_no z j hlt
                            generalize ha : onI z 1 j 9 = a at ON1 hno
                            generalize hb : onI z 17 j 9 = b at ON17 hno
                            by_cases h1 : 1 < a
                            · have hbad : allB (oneQ (newZ z)) 18 = false := by rw [HNZ.out trivial]; exact hno (.inl h1)
                              have FIN := Lib.hid (show True → Ending.returned (Value.int .i64 53) = Ending.returned (Value.int .i64 (checkF z)) from fun _ => by rw [chk_nifu z HS.out (HKN.out trivial) (HKK.out trivial) (HFW.out trivial) (HAL.out trivial) hbad])
                              clear hbad hno ha hb
                              go_wp2_with (first
                                | (refine wpList_load_mid rfl 28 _ rfl w.heap.size 0 rfl (posC z) _ HP.out.range Tryd.underlying28 rfl HINF.out ?_)
                                | (go_at_call_of 74 (Value.int .i64 1); refine (ON1.out _).mono ?_; rintro e w4 ⟨rfl, hb4⟩))
                              go_ret
                              exact ⟨FIN.out trivial, bthen HB.out hb4⟩
                            · have d1 : decide (1 < a) = false := decide_eq_false h1
                              by_cases h17 : 1 < b
                              · have hbad : allB (oneQ (newZ z)) 18 = false := by rw [HNZ.out trivial]; exact hno (.inr h17)
                                have FIN := Lib.hid (show True → Ending.returned (Value.int .i64 53) = Ending.returned (Value.int .i64 (checkF z)) from fun _ => by rw [chk_nifu z HS.out (HKN.out trivial) (HKK.out trivial) (HFW.out trivial) (HAL.out trivial) hbad])
                                clear hbad hno ha hb
                                go_wp2_with (first
                                  | (refine wpList_load_mid rfl 28 _ rfl w.heap.size 0 rfl (posC z) _ HP.out.range Tryd.underlying28 rfl HINF.out ?_)
                                  | (go_at_call_of 74 (Value.int .i64 17); refine (ON17.out _).mono ?_; rintro e w5 ⟨rfl, hb5⟩)
                                  | (go_at_call_of 74 (Value.int .i64 1); refine (ON1.out _).mono ?_; rintro e w4 ⟨rfl, hb⟩; have HP := Lib.hid (HP.out.grow hb); have HB := Lib.hid (bthen HB.out hb); clear hb)
                                  | (refine load_mid_want (by rfl) 28 _ rfl w.heap.size 0 rfl (posC z) _ HP.out.range Tryd.underlying28 rfl HINF.out ?_))
                                go_ret
                                exact ⟨FIN.out trivial, bthen HB.out hb5⟩
                              · have HN := Lib.hid (show ∀ f, f < j + 1 → onI z 1 f 9 ≤ 1 ∧ onI z 17 f 9 ≤ 1 from fun f hf => by
                                  by_cases e : f = j
                                  · subst e; rw [ha, hb]; omega
                                  · exact HALLE.out f (by omega))
                                clear hno ha hb
                                go_wp2_with (first
                                  | (refine wpList_load_mid rfl 28 _ rfl w.heap.size 0 rfl (posC z) _ HP.out.range Tryd.underlying28 rfl HINF.out ?_)
                                  | (go_at_call_of 74 (Value.int .i64 17); refine (ON17.out _).mono ?_; rintro e w5 ⟨rfl, hb5⟩; have HWE := Lib.hid (bthen HWE.out hb5))
                                  | (go_at_call_of 74 (Value.int .i64 1); refine (ON1.out _).mono ?_; rintro e w4 ⟨rfl, hb⟩; have HP := Lib.hid (HP.out.grow hb); have HWE := Lib.hid (bthen HWE.out hb); clear hb)
                                  | (refine load_mid_want (by rfl) 28 _ rfl w.heap.size 0 rfl (posC z) _ HP.out.range Tryd.underlying28 rfl HINF.out ?_))
                                go_roundw
                                case rel => exact ⟨j + 1, by omega, by go_num, HN.out, HWE.out⟩
                                case measure => simp [intOf]; omega
                          · obtain rfl : j = 9 := by omega
                            have FIN := Lib.hid (show True → Ending.returned (Value.int .i64 0) = Ending.returned (Value.int .i64 (checkF z)) from fun _ => by rw [chk_ok z HS.out (HKN.out trivial) (HKK.out trivial) (HFW.out trivial) (HAL.out trivial) (by rw [newZ_self z HZ.out HCL.out]; exact one_of z HALLE.out)])
                            go_wp2
                            go_ret
                            exact ⟨FIN.out trivial, HB.out⟩
              · have FIN := Lib.hid (show True → Ending.returned (Value.int .i64 50) = Ending.returned (Value.int .i64 (checkF z)) from fun _ => by rw [chk_kings z HS.out (HKN.out trivial) (fun h => hk1 ((HK3.out trivial).2.symm.trans h.2))])
                have n1 : (k1 != 1) = true := by simpa using hk1
                subst hk0
                clear hk1
                go_wp2_with (first
                  | (refine wpList_load_mid rfl 28 _ rfl w.heap.size 0 rfl (posC z) _ HP.out.range Tryd.underlying28 rfl HINF.out ?_)
                  | (go_at_call_of 70 (Value.int .i64 8); refine (A8.out _).mono ?_; rintro e w2 ⟨rfl, hb⟩; have HP := Lib.hid (HP.out.grow hb); have HB := Lib.hid (bthen HB.out hb); clear hb)
                  | (refine load_mid_want (by rfl) 28 _ rfl w.heap.size 0 rfl (posC z) _ HP.out.range Tryd.underlying28 rfl HINF.out ?_)
                  | (go_at_call_of 70 (Value.int .i64 24); refine (A24.out _).mono ?_; rintro e w3 ⟨rfl, hb⟩; have HP := Lib.hid (HP.out.grow hb); have HB := Lib.hid (bthen HB.out hb); clear hb))
                go_ret
                exact ⟨FIN.out trivial, HB.out⟩
            · have FIN := Lib.hid (show True → Ending.returned (Value.int .i64 50) = Ending.returned (Value.int .i64 (checkF z)) from fun _ => by rw [chk_kings z HS.out (HKN.out trivial) (fun h => hk0 ((HK3.out trivial).1.symm.trans h.1))])
              have n0 : (k0 != 1) = true := by simpa using hk0
              clear hk0
              go_wp2_with (first
                  | (refine wpList_load_mid rfl 28 _ rfl w.heap.size 0 rfl (posC z) _ HP.out.range Tryd.underlying28 rfl HINF.out ?_)
                  | (go_at_call_of 70 (Value.int .i64 8); refine (A8.out _).mono ?_; rintro e w2 ⟨rfl, hb⟩; have HP := Lib.hid (HP.out.grow hb); have HB := Lib.hid (bthen HB.out hb); clear hb)
                  | (refine load_mid_want (by rfl) 28 _ rfl w.heap.size 0 rfl (posC z) _ HP.out.range Tryd.underlying28 rfl HINF.out ?_)
                  | (go_at_call_of 70 (Value.int .i64 24); refine (A24.out _).mono ?_; rintro e w3 ⟨rfl, hb⟩; have HP := Lib.hid (HP.out.grow hb); have HB := Lib.hid (bthen HB.out hb); clear hb))
              go_ret
              exact ⟨FIN.out trivial, HB.out⟩
  · by_cases hs1 : at8 z 97 = 1
    · have HS := Lib.hid (show at8 z 97 = 0 ∨ at8 z 97 = 1 from .inr hs1)
      rw [hs1] at c97
      clear hs0 hs1
      go_enter Tryd.func33, Tryd.ntmps33
      go_wp2
      generalize w.alloc (.cells (posC z).toArray 28) = w1 at *
      clear c97
      -- the squares
      go_loopw [3] (fun r wr => ∃ j : Nat, j ≤ 81 ∧ r = .int .i64 j ∧ (∀ q, q < j → knownQ z q = true) ∧ wr = w1) (fun r _ => 81 - (intOf r).toNat)
      case atStart => exact ⟨0, Nat.zero_le _, rfl, fun q hq => absurd hq (Nat.not_lt_zero _), rfl⟩
      case round =>
        obtain ⟨j, hj, rfl, hall, rfl⟩ := hrel
        have HALL := Lib.hid hall
        clear hall
        by_cases hlt : j < 81
        · have c0 := HP.out.cell j (by have := HZ.out; omega)
          have hv := H8.out.at j
          have hwv : wrap64 (at8 z j) = at8 z j := by unfold wrap64; omega
          have K := Lib.hid (fun W => RK.out (at8 z j) hv W)
          have hk : knownQ z j = (decide (at8 z j = 0) || !decide (kindF (at8 z j) = 0)) := rfl
          clear hv
          generalize at8 z j = x at c0 hwv K hk
          generalize kindF x = kx at K hk
          by_cases h0 : x = 0
          · have hk1 : knownQ z j = true := by rw [hk, decide_eq_true h0]; rfl
            have HN := Lib.hid (show ∀ q, q < j + 1 → knownQ z q = true from fun q hq => by
              by_cases e : q = j
              · rw [e]; exact hk1
              · exact HALL.out q (by omega))
            subst h0
            clear hk hk1 hwv
            go_wp2
            go_roundw
            case rel => exact ⟨j + 1, by omega, by go_num, HN.out, trivial⟩
            case measure => simp [intOf]; omega
          · have n0 : (x != 0) = true := by simpa using h0
            by_cases h1 : kx = 0
            · have HN := Lib.hid (show True → knownB z = false from fun _ => by
                unfold knownB
                rw [allB_no (f := knownQ z) (j := j) (by rw [hk, decide_eq_false h0, decide_eq_true h1]; rfl) hlt]
                rfl)
              have FIN := Lib.hid (show True → Ending.returned (Value.int .i64 55) = Ending.returned (Value.int .i64 (checkF z)) from fun _ => by rw [chk_known z HS.out (HN.out trivial)])
              subst h1
              clear hk h0
              go_wp2_with (go_at_call 59; rw [hwv]; refine (K.out _).mono ?_; rintro e w2 ⟨rfl, rfl⟩)
              go_ret
              exact ⟨FIN.out trivial, HB.out⟩
            · have hk1 : knownQ z j = true := by rw [hk, decide_eq_false h0, decide_eq_false h1]; rfl
              have n1 : (kx == 0) = false := by simpa using h1
              have HN := Lib.hid (show ∀ q, q < j + 1 → knownQ z q = true from fun q hq => by
                by_cases e : q = j
                · rw [e]; exact hk1
                · exact HALL.out q (by omega))
              clear hk hk1 h0 h1
              go_wp2_with (go_at_call 59; rw [hwv]; refine (K.out _).mono ?_; rintro e w2 ⟨rfl, rfl⟩)
              go_roundw
              case rel => exact ⟨j + 1, by omega, by go_num, HN.out, trivial⟩
              case measure => simp [intOf]; omega
        · obtain rfl : j = 81 := by omega
          clear hlt hj
          go_wp2
          -- the hands
          go_loopw [4, 5, 6] (fun r _ _ wr' => ∃ j : Nat, j ≤ 8 ∧ r = .int .i64 j ∧ (∀ i, i < j → knownH z i = true ∧ knownH z (8 + i) = true) ∧ wr' = wr) (fun r _ _ _ => 8 - (intOf r).toNat)
          case atStart => exact ⟨0, Nat.zero_le _, rfl, fun q hq => absurd hq (Nat.not_lt_zero _), rfl⟩
          case round =>
            obtain ⟨k, hk8, rfl, hallk, rfl⟩ := hrel
            have HALLK := Lib.hid hallk
            clear hallk
            by_cases hlt : k < 8
            · go_wp2
              go_loopw [5, 6] (fun r _ wr' => ∃ s : Nat, s ≤ 2 ∧ r = .int .i64 s ∧ (∀ i, i < s → knownH z (8 * i + k) = true) ∧ wr' = wr) (fun r _ _ => 2 - (intOf r).toNat)
              case atStart => exact ⟨0, Nat.zero_le _, rfl, fun q hq => absurd hq (Nat.not_lt_zero _), rfl⟩
              case round =>
                obtain ⟨s, hs2, rfl, halls, rfl⟩ := hrel
                have HALLS := Lib.hid halls
                clear halls
                by_cases hlts : s < 2
                · have c0 := HP.out.cell (81 + s * 8 + k) (by have := HZ.out; omega)
                  have hk : knownH z (8 * s + k) = !(decide (at8 z (81 + (8 * s + k)) < 0) || (decide (k = 0) && !decide (at8 z (81 + (8 * s + k)) = 0))) := by
                    unfold knownH
                    rw [show (8 * s + k) % 8 = k by omega]
                  rw [show 81 + s * 8 + k = 81 + (8 * s + k) by omega] at c0
                  have c0' := c0
                  rw [show 81 + (8 * s + k) = 81 + s * 8 + k by omega] at c0'
                  rw [show at8 z (81 + s * 8 + k) = at8 z (81 + (8 * s + k)) by rw [show 81 + s * 8 + k = 81 + (8 * s + k) by omega]] at c0'
                  clear c0
                  generalize at8 z (81 + (8 * s + k)) = x at c0' hk
                  by_cases hbad : x < 0 ∨ (k = 0 ∧ x ≠ 0)
                  · have HN := Lib.hid (show True → knownB z = false from fun _ => by
                      unfold knownB
                      rw [allB_no (f := knownH z) (j := 8 * s + k) (by
                        rw [hk]
                        rcases hbad with h | ⟨h, h'⟩
                        · rw [decide_eq_true h]; rfl
                        · rw [decide_eq_true h, decide_eq_false h']; cases decide (x < 0) <;> rfl) (by omega), Bool.and_false])
                    have FIN := Lib.hid (show True → Ending.returned (Value.int .i64 55) = Ending.returned (Value.int .i64 (checkF z)) from fun _ => by rw [chk_known z HS.out (HN.out trivial)])
                    clear hk
                    by_cases h : x < 0
                    · clear hbad
                      go_wp2
                      go_ret
                      exact ⟨FIN.out trivial, HB.out⟩
                    · have hb2 := hbad.resolve_left h
                      have j0 : ((k : Int) == 0) = true := by simpa using hb2.1
                      have n0 : (x != 0) = true := by simpa using hb2.2
                      clear hbad hb2
                      go_wp2
                      go_ret
                      exact ⟨FIN.out trivial, HB.out⟩
                  · have hk1 : knownH z (8 * s + k) = true := by
                      rw [hk, decide_eq_false (fun h => hbad (.inl h))]
                      by_cases h : k = 0
                      · rw [decide_eq_true h, decide_eq_true (show x = 0 by omega)]; rfl
                      · rw [decide_eq_false h]; rfl
                    have HN := Lib.hid (show ∀ i, i < s + 1 → knownH z (8 * i + k) = true from fun i hi => by
                      by_cases e : i = s
                      · rw [e]; exact hk1
                      · exact HALLS.out i (by omega))
                    clear hk hk1
                    have nb : ¬ x < 0 := fun h => hbad (.inl h)
                    by_cases h : k = 0
                    · have hx0 : x = 0 := by omega
                      have j0 : ((k : Int) == 0) = true := by simpa using h
                      have n0 : (x != 0) = false := by simpa using hx0
                      clear hbad h hx0
                      go_wp2
                      go_roundw
                      case rel => exact ⟨s + 1, by omega, by go_num, HN.out, trivial⟩
                      case measure => simp [intOf]; omega
                    · have nj : ((k : Int) == 0) = false := by simpa using h
                      clear hbad h
                      go_wp2
                      go_roundw
                      case rel => exact ⟨s + 1, by omega, by go_num, HN.out, trivial⟩
                      case measure => simp [intOf]; omega
                · obtain rfl : s = 2 := by omega
                  have HN := Lib.hid (show ∀ i, i < k + 1 → knownH z i = true ∧ knownH z (8 + i) = true from fun i hi => by
                    by_cases e : i = k
                    · subst e
                      have a0 := HALLS.out 0 (by omega)
                      have a1 := HALLS.out 1 (by omega)
                      rw [show 8 * 0 + i = i by omega] at a0
                      rw [show 8 * 1 + i = 8 + i by omega] at a1
                      exact ⟨a0, a1⟩
                    · exact HALLK.out i (by omega))
                  go_wp2
                  go_roundw
                  case rel => exact ⟨k + 1, by omega, by go_num, HN.out, trivial⟩
                  case measure => simp [intOf]; omega
            · obtain rfl : k = 8 := by omega
              have HKN := Lib.hid (show True → knownB z = true from fun _ => known_of z HALL.out HALLK.out)
              have HCL := Lib.hid (known_clean z HALL.out)
              clear hlt hk8 HALL HALLK
              -- the kings
              have A8 := Lib.hid (fun W => AL.out 8 W)
              have A24 := Lib.hid (fun W => AL.out 24 W)
              have HK2 := Lib.hid (show True → ((cntN z (eqB 8) 81 : Int) = FH z 16 0) ∧ ((cntN z (eqB 24) 81 : Int) = FH z 16 1) from fun _ => ⟨(HKC.out trivial).1.symm, (HKC.out trivial).2.symm⟩)
              rw [(HK2.out trivial).1] at A8
              rw [(HK2.out trivial).2] at A24
              generalize hk0 : FH z 16 0 = k0 at A8
              generalize hk1 : FH z 16 1 = k1 at A24
              have HK3 := Lib.hid (show True → FH z 16 0 = k0 ∧ FH z 16 1 = k1 from fun _ => ⟨hk0, hk1⟩)
              clear hk0 hk1 HK2
              by_cases hk0 : k0 = 1
              · by_cases hk1 : k1 = 1
                · have HKK := Lib.hid (show True → FH z 16 0 = 1 ∧ FH z 16 1 = 1 from fun _ => ⟨(HK3.out trivial).1.trans hk0, (HK3.out trivial).2.trans hk1⟩)
                  subst hk0 hk1
                  go_wp2_with (first
                    | (refine wpList_load_mid rfl 28 _ rfl w.heap.size 0 rfl (posC z) _ HP.out.range Tryd.underlying28 rfl HINF.out ?_)
                    | (go_at_call_of 70 (Value.int .i64 8); refine (A8.out _).mono ?_; rintro e w2 ⟨rfl, hb⟩; have HP := Lib.hid (HP.out.grow hb); have HB := Lib.hid (bthen HB.out hb); clear hb)
                    | (refine load_mid_want (by rfl) 28 _ rfl w.heap.size 0 rfl (posC z) _ HP.out.range Tryd.underlying28 rfl HINF.out ?_)
                    | (go_at_call_of 70 (Value.int .i64 24); refine (A24.out _).mono ?_; rintro e w3 ⟨rfl, hb⟩; have HP := Lib.hid (HP.out.grow hb); have HB := Lib.hid (bthen HB.out hb); clear hb))
                  clear A8 A24
                  -- the counts
                  go_loopw [7] (fun r wr => ∃ j : Nat, 1 ≤ j ∧ j ≤ 8 ∧ r = .int .i64 j ∧ (∀ i, 1 ≤ i → i < j → fewB (FH z 16) i = true) ∧ Below w3.heap.size w3 wr) (fun r _ => 8 - (intOf r).toNat)
                  case atStart => exact ⟨1, Nat.le_refl _, by omega, rfl, fun q hq h => absurd hq (by omega), bref _⟩
                  case round =>
                    obtain ⟨j, hj1, hj, rfl, hall, hW⟩ := hrel
                    have HALLC := Lib.hid hall
                    have HP := Lib.hid (HP.out.grow hW)
                    have HB := Lib.hid (bthen HB.out hW)
                    have HWC := Lib.hid hW
                    clear hall hW
                    by_cases hlt : j < 8
                    · have COj := Lib.hid (fun W => CO.out j ⟨hj1, by omega⟩ W)
                      rw [← kind_count z H8.out j ⟨hj1, by omega⟩] at COj
                      have TTj := Lib.hid (fun W => TT.out j W)
                      have hf : fewB (FH z 16) j = decide (FH z 16 (2 + j) ≤ totalF j) := rfl
                      generalize FH z 16 (2 + j) = x at COj hf
                      generalize totalF j = t at TTj hf
                      by_cases h : x ≤ t
                      · have HN := Lib.hid (show ∀ i, 1 ≤ i → i < j + 1 → fewB (FH z 16) i = true from fun i hi1 hi => by
                          by_cases e : i = j
                          · rw [e, hf]; exact decide_eq_true h
                          · exact HALLC.out i hi1 (by omega))
                        have c1 : ¬ t < x := by omega
                        clear hf h
                        go_wp2_with (first
                          | (refine wpList_load_mid rfl 28 _ rfl w.heap.size 0 rfl (posC z) _ HP.out.range Tryd.underlying28 rfl HINF.out ?_)
                          | (go_at_call 71; refine (COj.out _).mono ?_; rintro e w4 ⟨rfl, hb4⟩)
                          | (go_at_call 72; refine (TTj.out _).mono ?_; rintro e w5 ⟨rfl, hb5⟩))
                        go_roundw
                        case rel => exact ⟨j + 1, by omega, by omega, by go_num, HN.out, bthen (bthen HWC.out hb4) hb5⟩
                        case measure => simp [intOf]; omega
                      · have hbad : allB (fewB (FH z 16)) 9 = false := allB_no (by rw [hf]; exact decide_eq_false h) (by omega)
                        have FIN := Lib.hid (show True → Ending.returned (Value.int .i64 51) = Ending.returned (Value.int .i64 (checkF z)) from fun _ => by rw [chk_count z HS.out (HKN.out trivial) (HKK.out trivial) hbad])
                        have c1 : t < x := by omega
                        clear hf h hbad
                        go_wp2_with (first
                          | (refine wpList_load_mid rfl 28 _ rfl w.heap.size 0 rfl (posC z) _ HP.out.range Tryd.underlying28 rfl HINF.out ?_)
                          | (go_at_call 71; refine (COj.out _).mono ?_; rintro e w4 ⟨rfl, hb4⟩)
                          | (go_at_call 72; refine (TTj.out _).mono ?_; rintro e w5 ⟨rfl, hb5⟩))
                        go_ret
                        exact ⟨FIN.out trivial, bthen (bthen HB.out hb4) hb5⟩
                    · obtain rfl : j = 8 := by omega
                      have HFW := Lib.hid (show True → allB (fewB (FH z 16)) 9 = true from fun _ => few_of z H8.out (HKN.out trivial) (HKK.out trivial) HALLC.out)
                      clear hlt hj hj1 HALLC HWC
                      go_wp2
                      -- the dead
                      try rw [show ((8 : Nat) : Int) = 8 from rfl]
                      go_loopw [8] (fun r wr' => ∃ j : Nat, j ≤ 81 ∧ r = .int .i64 j ∧ (∀ q, q < j → aliveQ z q = true) ∧ wr' = wr) (fun r _ => 81 - (intOf r).toNat)
                      case atStart => exact ⟨0, Nat.zero_le _, rfl, fun q hq => absurd hq (Nat.not_lt_zero _), rfl⟩
                      case round =>
                        obtain ⟨j, hj, rfl, hall, rfl⟩ := hrel
                        have HALLD := Lib.hid hall
                        clear hall
                        by_cases hlt : j < 81
                        · have c0 := HP.out.cell j (by have := HZ.out; omega)
                          have hv := H8.out.at j
                          have hwv : wrap64 (at8 z j) = at8 z j := by unfold wrap64; omega
                          have DEj := Lib.hid (fun W => DE.out (at8 z j) j hv W)
                          have hk : aliveQ z j = !deadF (at8 z j) j := rfl
                          clear hv
                          generalize deadF (at8 z j) j = d at DEj hk
                          generalize at8 z j = x at c0 hwv DEj
                          cases d with
                          | true =>
                            have hbad : allB (aliveQ z) 81 = false := allB_no hk hlt
                            have FIN := Lib.hid (show True → Ending.returned (Value.int .i64 52) = Ending.returned (Value.int .i64 (checkF z)) from fun _ => by rw [chk_dead z HS.out (HKN.out trivial) (HKK.out trivial) (HFW.out trivial) hbad])
                            clear hk hbad
                            go_wp2_with (go_at_call 73; rw [hwv]; refine (DEj.out _).mono ?_; rintro e w4 ⟨rfl, rfl⟩)
                            go_ret
                            exact ⟨FIN.out trivial, HB.out⟩
                          | false =>
                            have HN := Lib.hid (show ∀ q, q < j + 1 → aliveQ z q = true from fun q hq => by
                              by_cases e : q = j
                              · rw [e, hk]; rfl
                              · exact HALLD.out q (by omega))
                            clear hk
                            go_wp2_with (go_at_call 73; rw [hwv]; refine (DEj.out _).mono ?_; rintro e w4 ⟨rfl, rfl⟩)
                            go_roundw
                            case rel => exact ⟨j + 1, by omega, by go_num, HN.out, trivial⟩
                            case measure => simp [intOf]; omega
                        · obtain rfl : j = 81 := by omega
                          have HAL := Lib.hid (show True → allB (aliveQ z) 81 = true from fun _ => (allB_iff _ _).2 HALLD.out)
                          clear hlt hj HALLD
                          go_wp2
                          -- the pawns
                          generalize hwr : wr = wp at *
                          clear hwr
                          try rw [show ((81 : Nat) : Int) = 81 from rfl]
                          go_loopw [9] (fun r wr' => ∃ j : Nat, j ≤ 9 ∧ r = .int .i64 j ∧ (∀ f, f < j → onI z 1 f 9 ≤ 1 ∧ onI z 17 f 9 ≤ 1) ∧ Below wp.heap.size wp wr') (fun r _ => 9 - (intOf r).toNat)
                          case atStart => exact ⟨0, Nat.zero_le _, rfl, fun q hq => absurd hq (Nat.not_lt_zero _), bref _⟩
                          case round =>
                            obtain ⟨j, hj, rfl, hall, hW⟩ := hrel
                            have HALLE := Lib.hid hall
                            have HP := Lib.hid (HP.out.grow hW)
                            have HB := Lib.hid (bthen HB.out hW)
                            have HWE := Lib.hid hW
                            clear hall hW
                            by_cases hlt : j < 9
                            · have ON1 := Lib.hid (fun W => ON.out 1 j hlt W)
                              have ON17 := Lib.hid (fun W => ON.out 17 j hlt W)
                              have HNZ := Lib.hid (show True → newZ z = z from fun _ => newZ_self z HZ.out HCL.out)
                              have hno := one_no z j hlt
                              generalize ha : onI z 1 j 9 = a at ON1 hno
                              generalize hb : onI z 17 j 9 = b at ON17 hno
                              by_cases h1 : 1 < a
                              · have hbad : allB (oneQ (newZ z)) 18 = false := by rw [HNZ.out trivial]; exact hno (.inl h1)
                                have FIN := Lib.hid (show True → Ending.returned (Value.int .i64 53) = Ending.returned (Value.int .i64 (checkF z)) from fun _ => by rw [chk_nifu z HS.out (HKN.out trivial) (HKK.out trivial) (HFW.out trivial) (HAL.out trivial) hbad])
                                clear hbad hno ha hb
                                go_wp2_with (first
                                  | (refine wpList_load_mid rfl 28 _ rfl w.heap.size 0 rfl (posC z) _ HP.out.range Tryd.underlying28 rfl HINF.out ?_)
                                  | (go_at_call_of 74 (Value.int .i64 1); refine (ON1.out _).mono ?_; rintro e w4 ⟨rfl, hb4⟩))
                                go_ret
                                exact ⟨FIN.out trivial, bthen HB.out hb4⟩
                              · have d1 : decide (1 < a) = false := decide_eq_false h1
                                by_cases h17 : 1 < b
                                · have hbad : allB (oneQ (newZ z)) 18 = false := by rw [HNZ.out trivial]; exact hno (.inr h17)
                                  have FIN := Lib.hid (show True → Ending.returned (Value.int .i64 53) = Ending.returned (Value.int .i64 (checkF z)) from fun _ => by rw [chk_nifu z HS.out (HKN.out trivial) (HKK.out trivial) (HFW.out trivial) (HAL.out trivial) hbad])
                                  clear hbad hno ha hb
                                  go_wp2_with (first
                                    | (refine wpList_load_mid rfl 28 _ rfl w.heap.size 0 rfl (posC z) _ HP.out.range Tryd.underlying28 rfl HINF.out ?_)
                                    | (go_at_call_of 74 (Value.int .i64 17); refine (ON17.out _).mono ?_; rintro e w5 ⟨rfl, hb5⟩)
                                    | (go_at_call_of 74 (Value.int .i64 1); refine (ON1.out _).mono ?_; rintro e w4 ⟨rfl, hb⟩; have HP := Lib.hid (HP.out.grow hb); have HB := Lib.hid (bthen HB.out hb); clear hb)
                                    | (refine load_mid_want (by rfl) 28 _ rfl w.heap.size 0 rfl (posC z) _ HP.out.range Tryd.underlying28 rfl HINF.out ?_))
                                  go_ret
                                  exact ⟨FIN.out trivial, bthen HB.out hb5⟩
                                · have HN := Lib.hid (show ∀ f, f < j + 1 → onI z 1 f 9 ≤ 1 ∧ onI z 17 f 9 ≤ 1 from fun f hf => by
                                    by_cases e : f = j
                                    · subst e; rw [ha, hb]; omega
                                    · exact HALLE.out f (by omega))
                                  clear hno ha hb
                                  go_wp2_with (first
                                    | (refine wpList_load_mid rfl 28 _ rfl w.heap.size 0 rfl (posC z) _ HP.out.range Tryd.underlying28 rfl HINF.out ?_)
                                    | (go_at_call_of 74 (Value.int .i64 17); refine (ON17.out _).mono ?_; rintro e w5 ⟨rfl, hb5⟩; have HWE := Lib.hid (bthen HWE.out hb5))
                                    | (go_at_call_of 74 (Value.int .i64 1); refine (ON1.out _).mono ?_; rintro e w4 ⟨rfl, hb⟩; have HP := Lib.hid (HP.out.grow hb); have HWE := Lib.hid (bthen HWE.out hb); clear hb)
                                    | (refine load_mid_want (by rfl) 28 _ rfl w.heap.size 0 rfl (posC z) _ HP.out.range Tryd.underlying28 rfl HINF.out ?_))
                                  go_roundw
                                  case rel => exact ⟨j + 1, by omega, by go_num, HN.out, HWE.out⟩
                                  case measure => simp [intOf]; omega
                            · obtain rfl : j = 9 := by omega
                              have FIN := Lib.hid (show True → Ending.returned (Value.int .i64 0) = Ending.returned (Value.int .i64 (checkF z)) from fun _ => by rw [chk_ok z HS.out (HKN.out trivial) (HKK.out trivial) (HFW.out trivial) (HAL.out trivial) (by rw [newZ_self z HZ.out HCL.out]; exact one_of z HALLE.out)])
                              go_wp2
                              go_ret
                              exact ⟨FIN.out trivial, HB.out⟩
                · have FIN := Lib.hid (show True → Ending.returned (Value.int .i64 50) = Ending.returned (Value.int .i64 (checkF z)) from fun _ => by rw [chk_kings z HS.out (HKN.out trivial) (fun h => hk1 ((HK3.out trivial).2.symm.trans h.2))])
                  have n1 : (k1 != 1) = true := by simpa using hk1
                  subst hk0
                  clear hk1
                  go_wp2_with (first
                    | (refine wpList_load_mid rfl 28 _ rfl w.heap.size 0 rfl (posC z) _ HP.out.range Tryd.underlying28 rfl HINF.out ?_)
                    | (go_at_call_of 70 (Value.int .i64 8); refine (A8.out _).mono ?_; rintro e w2 ⟨rfl, hb⟩; have HP := Lib.hid (HP.out.grow hb); have HB := Lib.hid (bthen HB.out hb); clear hb)
                    | (refine load_mid_want (by rfl) 28 _ rfl w.heap.size 0 rfl (posC z) _ HP.out.range Tryd.underlying28 rfl HINF.out ?_)
                    | (go_at_call_of 70 (Value.int .i64 24); refine (A24.out _).mono ?_; rintro e w3 ⟨rfl, hb⟩; have HP := Lib.hid (HP.out.grow hb); have HB := Lib.hid (bthen HB.out hb); clear hb))
                  go_ret
                  exact ⟨FIN.out trivial, HB.out⟩
              · have FIN := Lib.hid (show True → Ending.returned (Value.int .i64 50) = Ending.returned (Value.int .i64 (checkF z)) from fun _ => by rw [chk_kings z HS.out (HKN.out trivial) (fun h => hk0 ((HK3.out trivial).1.symm.trans h.1))])
                have n0 : (k0 != 1) = true := by simpa using hk0
                clear hk0
                go_wp2_with (first
                    | (refine wpList_load_mid rfl 28 _ rfl w.heap.size 0 rfl (posC z) _ HP.out.range Tryd.underlying28 rfl HINF.out ?_)
                    | (go_at_call_of 70 (Value.int .i64 8); refine (A8.out _).mono ?_; rintro e w2 ⟨rfl, hb⟩; have HP := Lib.hid (HP.out.grow hb); have HB := Lib.hid (bthen HB.out hb); clear hb)
                    | (refine load_mid_want (by rfl) 28 _ rfl w.heap.size 0 rfl (posC z) _ HP.out.range Tryd.underlying28 rfl HINF.out ?_)
                    | (go_at_call_of 70 (Value.int .i64 24); refine (A24.out _).mono ?_; rintro e w3 ⟨rfl, hb⟩; have HP := Lib.hid (HP.out.grow hb); have HB := Lib.hid (bthen HB.out hb); clear hb))
                go_ret
                exact ⟨FIN.out trivial, HB.out⟩
    · have FIN := Lib.hid (show True → Ending.returned (Value.int .i64 1) = Ending.returned (Value.int .i64 (checkF z)) from fun _ => by rw [chk_side z (fun h => h.elim hs0 hs1)])
      have n0 : (at8 z 97 != 0) = true := by simpa using hs0
      have n1 : (at8 z 97 != 1) = true := by simpa using hs1
      clear hs0 hs1
      go_enter Tryd.func33, Tryd.ntmps33
      go_wp2
      go_ret
      exact ⟨FIN.out trivial, HB.out⟩
end Go.Proofs.YtilhicohfnaclaaDoor
