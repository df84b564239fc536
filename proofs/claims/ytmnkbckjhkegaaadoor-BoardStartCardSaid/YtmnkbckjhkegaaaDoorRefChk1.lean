/-
  The reference's parts for positions: On, all, Count, Dead.
-/
import Derived.Test.YtmnkbckjhkegaaaDoorChk6
import Derived.Test.YtmnkbckjhkegaaaDoorRefs
import Derived.Test.YtmnkbckjhkegaaaDoorRefKind
namespace Go.Proofs.YtmnkbckjhkegaaaDoor
open Go.RowKit
set_option linter.unusedVariables false
set_option linter.unusedSimpArgs false

def eqB (x y : Int) : Bool := decide (y = x)
theorem cntN_mono (z : List Int) (f : Int → Bool) : ∀ k j, cntN z f k ≤ cntN z f (k + j)
  | k, 0 => Nat.le_refl _
  | k, j + 1 => by
    have := cntN_mono z f k j
    rw [show k + (j + 1) = (k + j) + 1 by omega, cntN]
    split <;> omega
def onI (z : List Int) (x : Int) (f r : Nat) : Int := (cntN z (eqB x) (9 * f + r) : Int) - (cntN z (eqB x) (9 * f) : Int)
theorem onI_bd (z : List Int) (x : Int) (f r : Nat) : 0 ≤ onI z x f r ∧ onI z x f r ≤ (9 * f + r : Nat) := by
  unfold onI
  have h1 := cntN_mono z (eqB x) (9 * f) r
  have h2 := cntN_le z (eqB x) (9 * f + r)
  omega
theorem onI_step (z : List Int) (x : Int) (f r : Nat) : onI z x f (r + 1) = onI z x f r + (if at8 z (9 * f + r) = x then 1 else 0) := by
  unfold onI
  rw [show 9 * f + (r + 1) = (9 * f + r) + 1 by omega, cntN]
  unfold eqB
  by_cases h : at8 z (9 * f + r) = x
  · rw [if_pos (decide_eq_true h), if_pos h]; omega
  · rw [if_neg (by simpa using h), if_neg h]; omega

set_option maxHeartbeats 1000000 in
theorem refOn_any (z : List Int) (hz : z.length = 98) (h8 : I8s z) (x : Int) (f : Nat) (hf : f < 9) (w : World) :
    Calls Tryd.prog 48 #[.agg (posC z).toArray, .int .i64 x, .int .i64 f] w fun e w' => e = .returned (.int .i64 (onI z x f 9)) ∧ Below w.heap.size w w' := by
  have HP := Lib.hid (PosAt.new w z)
  have HB := Lib.hid (ball (bref w) (.cells (posC z).toArray 28))
  have H8 := Lib.hid h8
  have HZ := Lib.hid hz
  clear hz h8
  go_enter Tryd.func48, Tryd.ntmps48
  go_wp2
  generalize w.alloc (.cells (posC z).toArray 28) = w1 at *
  go_loopw [7, 8] (fun n r wr => ∃ k : Nat, k ≤ 9 ∧ r = .int .i64 k ∧ n = .int .i64 (onI z x f k) ∧ wr = w1) (fun _ r _ => 9 - (intOf r).toNat)
  case atStart => exact ⟨0, Nat.zero_le _, rfl, by unfold onI; rw [Nat.add_zero, Int.sub_self], rfl⟩
  case round =>
    obtain ⟨k, hk, rfl, rfl, rfl⟩ := hrel
    by_cases hlt : k < 9
    · have c0 := HP.out.cell (9 * f + k) (by have := HZ.out; omega)
      have hv := H8.out.at (9 * f + k)
      have hwv : wrap64 (at8 z (9 * f + k)) = at8 z (9 * f + k) := by unfold wrap64; omega
      have hst := onI_step z x f k
      have hbd := onI_bd z x f k
      have w1e : wrap64 (9 * (f : Int) + (k : Int)) = ((9 * f + k : Nat) : Int) := by unfold wrap64; omega
      have w2e : wrap64 (9 * (f : Int)) = ((9 * f : Nat) : Int) := by unfold wrap64; omega
      have w3e : wrap64 (((9 * f : Nat) : Int) + (k : Int)) = ((9 * f + k : Nat) : Int) := by unfold wrap64; omega
      have hi : 9 * f + k < 81 := by omega
      have wn : wrap64 (onI z x f k + 1) = onI z x f k + 1 := by unfold wrap64; omega
      have HST := Lib.hid hst
      clear hst hbd hv
      generalize hn1 : onI z x f (k + 1) = n1 at HST
      have HN1 := Lib.hid hn1
      clear hn1
      generalize onI z x f k = n0 at HST wn ⊢
      generalize at8 z (9 * f + k) = v at c0 hwv HST
      by_cases hvx : v = x
      · have bx : (v == x) = true := by simpa using hvx
        have HST2 := Lib.hid (show n1 = n0 + 1 by rw [HST.out, if_pos hvx])
        clear hvx
        go_wp2
        go_roundw
        case rel => exact ⟨k + 1, by omega, by go_num, by rw [HN1.out, HST2.out, wn], trivial⟩
        case measure => simp [intOf]; omega
      · have bx : (v == x) = false := by simpa using hvx
        have HST2 := Lib.hid (show n1 = n0 by rw [HST.out, if_neg hvx, Int.add_zero])
        clear hvx
        go_wp2
        go_roundw
        case rel => exact ⟨k + 1, by omega, by go_num, by rw [HN1.out, HST2.out], trivial⟩
        case measure => simp [intOf]; omega
    · obtain rfl : k = 9 := by omega
      go_wp2
      go_ret
      exact ⟨rfl, HB.out⟩

/-- How many of a piece there are, told file by file. -/
theorem onI_sum (z : List Int) (x : Int) (f : Nat) : (cntN z (eqB x) (9 * f) : Int) + onI z x f 9 = (cntN z (eqB x) (9 * (f + 1)) : Int) := by
  unfold onI
  rw [show 9 * (f + 1) = 9 * f + 9 by omega]
  omega
set_option maxHeartbeats 1000000 in
theorem refAll_any (z : List Int) (hz : z.length = 98) (h8 : I8s z) (x : Int) (w : World) :
    Calls Tryd.prog 44 #[.agg (posC z).toArray, .int .i64 x] w fun e w' => e = .returned (.int .i64 (cntN z (eqB x) 81)) ∧ Below w.heap.size w w' := by
  have ON := Lib.hid (fun (f : Nat) (hf : f < 9) W => refOn_any z hz h8 x f hf W)
  have HP := Lib.hid (PosAt.new w z)
  have HB := Lib.hid (ball (bref w) (.cells (posC z).toArray 28))
  have HINF := Lib.hid (show (Tryd.prog.info? 28).map (·.size) = some (posC z).length by rw [posC_len, hz]; exact infoPos)
  clear hz h8
  go_enter Tryd.func44, Tryd.ntmps44
  go_wp2
  generalize w.alloc (.cells (posC z).toArray 28) = w1 at *
  go_loopw [5, 6] (fun n r wr => ∃ k : Nat, k ≤ 9 ∧ r = .int .i64 k ∧ n = .int .i64 (cntN z (eqB x) (9 * k) : Nat) ∧ Below w1.heap.size w1 wr) (fun _ r _ => 9 - (intOf r).toNat)
  case atStart => exact ⟨0, Nat.zero_le _, rfl, rfl, bref _⟩
  case round =>
    obtain ⟨k, hk, rfl, rfl, hW⟩ := hrel
    have HPW := Lib.hid (HP.out.grow hW)
    have HW := Lib.hid hW
    clear hW
    by_cases hlt : k < 9
    · have ONk := Lib.hid (fun W => ON.out k hlt W)
      have hs := onI_sum z x k
      have h1 := cntN_le z (eqB x) (9 * (k + 1))
      have wn : wrap64 ((cntN z (eqB x) (9 * k) : Int) + onI z x k 9) = (cntN z (eqB x) (9 * (k + 1)) : Int) := by rw [hs]; unfold wrap64; omega
      have WN := Lib.hid wn
      clear hs h1 wn
      generalize onI z x k 9 = o at ONk WN
      generalize ((cntN z (eqB x) (9 * k) : Nat) : Int) = c0 at WN ⊢
      go_wp2_with (first
        | (refine wpList_load_mid rfl 28 _ rfl w.heap.size 0 rfl (posC z) _ HPW.out.range Tryd.underlying28 rfl HINF.out ?_)
        | (go_at_call 48; refine (ONk.out _).mono ?_; rintro e w2 ⟨rfl, hb2⟩))
      go_roundw
      case rel => exact ⟨k + 1, by omega, by go_num, by rw [WN.out], bthen HW.out hb2⟩
      case measure => simp [intOf]; omega
    · obtain rfl : k = 9 := by omega
      go_wp2
      go_ret
      exact ⟨rfl, bthen HB.out HW.out⟩

def rawB (k : Int) (y : Int) : Bool := decide (rawF (kindF y) = k)
set_option maxHeartbeats 1000000 in
theorem refCount_any (z : List Int) (hz : z.length = 98) (h8 : I8s z) (k : Nat) (hk : 1 ≤ k ∧ k ≤ 7) (w : World) :
    Calls Tryd.prog 45 #[.agg (posC z).toArray, .int .i64 k] w fun e w' => e = .returned (.int .i64 ((cntN z (rawB k) 81 : Int) + at8 z (81 + k) + at8 z (89 + k))) ∧ Below w.heap.size w w' := by
  have RK := Lib.hid (fun (x : Int) (h : -128 ≤ x ∧ x ≤ 127) W => refKind_any x W h.1 h.2)
  have RR := Lib.hid (fun (x : Int) W => refRaw_any (kindF x) W (by have := kind_side x; omega))
  have HP := Lib.hid (PosAt.new w z)
  have HB := Lib.hid (ball (bref w) (.cells (posC z).toArray 28))
  have H8 := Lib.hid h8
  have HZ := Lib.hid hz
  clear hz h8
  go_enter Tryd.func45, Tryd.ntmps45
  go_wp2
  generalize w.alloc (.cells (posC z).toArray 28) = w1 at *
  go_loopw [5, 6] (fun n r wr => ∃ j : Nat, j ≤ 81 ∧ r = .int .i64 j ∧ n = .int .i64 (cntN z (rawB k) j : Nat) ∧ wr = w1) (fun _ r _ => 81 - (intOf r).toNat)
  case atStart => exact ⟨0, Nat.zero_le _, rfl, rfl, rfl⟩
  case round =>
    obtain ⟨j, hj, rfl, rfl, rfl⟩ := hrel
    by_cases hlt : j < 81
    · have c0 := HP.out.cell j (by have := HZ.out; omega)
      have hv := H8.out.at j
      have hwv : wrap64 (at8 z j) = at8 z j := by unfold wrap64; omega
      have K := Lib.hid (fun W => RK.out (at8 z j) hv W)
      have R := Lib.hid (fun W => RR.out (at8 z j) W)
      have hst : cntN z (rawB k) (j + 1) = cntN z (rawB k) j + (if rawF (kindF (at8 z j)) = k then 1 else 0) := by
        rw [cntN]
        unfold rawB
        by_cases h : rawF (kindF (at8 z j)) = k
        · rw [if_pos (decide_eq_true h), if_pos h]
        · rw [if_neg (by simpa using h), if_neg h]
      have hle := cntN_le z (rawB k) j
      have wn : wrap64 ((cntN z (rawB k) j : Int) + 1) = (cntN z (rawB k) j : Int) + 1 := by unfold wrap64; omega
      have HST := Lib.hid hst
      have WN := Lib.hid wn
      clear hst hv hle wn
      generalize hn1 : cntN z (rawB k) (j + 1) = n1 at HST
      have HN1 := Lib.hid hn1
      clear hn1
      generalize cntN z (rawB k) j = n0 at HST WN ⊢
      generalize at8 z j = v at c0 hwv HST K R
      generalize rawF (kindF v) = rv at HST R
      generalize kindF v = kv at K R
      by_cases hvx : rv = k
      · have bx : (rv == (k : Int)) = true := by simpa using hvx
        have HST2 := Lib.hid (show n1 = n0 + 1 by rw [HST.out, if_pos hvx])
        clear hvx
        go_wp2_with (first
          | (go_at_call 11; rw [hwv]; refine (K.out _).mono ?_; rintro e w2 ⟨rfl, rfl⟩)
          | (go_at_call 25; refine (R.out _).mono ?_; rintro e w3 ⟨rfl, rfl⟩))
        go_roundw
        case rel => exact ⟨j + 1, by omega, by go_num, by rw [HN1.out, HST2.out, WN.out]; rfl, trivial⟩
        case measure => simp [intOf]; omega
      · have bx : (rv == (k : Int)) = false := by simpa using hvx
        have HST2 := Lib.hid (show n1 = n0 by rw [HST.out, if_neg hvx, Nat.add_zero])
        clear hvx
        go_wp2_with (first
          | (go_at_call 11; rw [hwv]; refine (K.out _).mono ?_; rintro e w2 ⟨rfl, rfl⟩)
          | (go_at_call 25; refine (R.out _).mono ?_; rintro e w3 ⟨rfl, rfl⟩))
        go_roundw
        case rel => exact ⟨j + 1, by omega, by go_num, by rw [HN1.out, HST2.out], trivial⟩
        case measure => simp [intOf]; omega
    · obtain rfl : j = 81 := by omega
      have c0 := HP.out.cell (81 + k) (by have := HZ.out; omega)
      have c1 := HP.out.cell (89 + k) (by have := HZ.out; omega)
      have h0 := H8.out.at (81 + k)
      have h1 := H8.out.at (89 + k)
      have hle := cntN_le z (rawB k) 81
      have w0 : wrap64 (at8 z (81 + k)) = at8 z (81 + k) := by unfold wrap64; omega
      have w1e : wrap64 (at8 z (89 + k)) = at8 z (89 + k) := by unfold wrap64; omega
      have w2e : wrap64 ((cntN z (rawB k) 81 : Int) + at8 z (81 + k)) = (cntN z (rawB k) 81 : Int) + at8 z (81 + k) := by unfold wrap64; omega
      have w3e : wrap64 ((cntN z (rawB k) 81 : Int) + at8 z (81 + k) + at8 z (89 + k)) = (cntN z (rawB k) 81 : Int) + at8 z (81 + k) + at8 z (89 + k) := by unfold wrap64; omega
      have v2e : IntKind.i64.wrap ((cntN z (rawB k) 81 : Int) + at8 z (81 + k)) = (cntN z (rawB k) 81 : Int) + at8 z (81 + k) := by rw [IntKind.wrap_i64]; omega
      have v3e : IntKind.i64.wrap ((cntN z (rawB k) 81 : Int) + at8 z (81 + k) + at8 z (89 + k)) = (cntN z (rawB k) 81 : Int) + at8 z (81 + k) + at8 z (89 + k) := by rw [IntKind.wrap_i64]; omega
      have hk0 : k < 8 := by omega
      clear h0 h1 hle hk hlt
      generalize ha : at8 z (81 + k) = a at *
      generalize hb : at8 z (89 + k) = b at *
      generalize hc : ((cntN z (rawB k) 81 : Nat) : Int) = c at *
      generalize hs1 : c + a = s1 at *
      generalize hs2 : s1 + b = s2 at *
      have HE := Lib.hid (show (cntN z (rawB k) 81 : Int) + at8 z (81 + k) + at8 z (89 + k) = s2 by rw [ha, hb, hc, hs1, hs2])
      clear ha hb hc
      go_wp2
      go_region
      all_goals
        go_wp2
        go_ret
        refine ⟨?_, HB.out.drew⟩
        rw [HE.out]
        rfl
end Go.Proofs.YtmnkbckjhkegaaaDoor
