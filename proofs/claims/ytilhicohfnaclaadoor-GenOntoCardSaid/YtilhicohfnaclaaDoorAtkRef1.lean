/-
  The document's answers on attacks: Taken, On, King, InCheck, Check; the statements' clean and real.
-/
import Derived.Test.YtilhicohfnaclaaDoorAtk2
import Derived.Test.YtilhicohfnaclaaDoorReach
import Derived.Test.YtilhicohfnaclaaDoorRefChk
import Derived.Test.YtilhicohfnaclaaDoorListAll
namespace Go.Proofs.YtilhicohfnaclaaDoor
open Go.RowKit
set_option maxRecDepth 100000
set_option linter.unusedVariables false
set_option linter.unusedSimpArgs false

def clP (z : List Int) : Nat → List Int
  | 0 => z
  | k + 1 => if kindF (at8 z k) = 0 then (clP z k).set k 0 else clP z k
theorem clP_len (z : List Int) : ∀ k, (clP z k).length = z.length
  | 0 => rfl
  | k + 1 => by
    unfold clP
    split
    · rw [List.length_set, clP_len z k]
    · exact clP_len z k
theorem clP_at (z : List Int) (hz : z.length = 98) : ∀ k, k ≤ 81 → ∀ i, at8 (clP z k) i = if i < k ∧ kindF (at8 z i) = 0 then 0 else at8 z i
  | 0, _, i => by rw [if_neg (by omega)]; rfl
  | k + 1, hk, i => by
    have ih := clP_at z hz k (by omega)
    unfold clP
    by_cases h : kindF (at8 z k) = 0
    · rw [if_pos h, at8_set _ _ _ _ (by rw [clP_len, hz]; omega)]
      by_cases e : i = k
      · subst e
        rw [if_pos rfl, if_pos ⟨by omega, h⟩]
      · rw [if_neg e, ih i]
        by_cases h2 : i < k ∧ kindF (at8 z i) = 0
        · rw [if_pos h2, if_pos ⟨by omega, h2.2⟩]
        · rw [if_neg h2, if_neg (fun h3 => h2 ⟨by omega, h3.2⟩)]
    · rw [if_neg h, ih i]
      by_cases h2 : i < k ∧ kindF (at8 z i) = 0
      · rw [if_pos h2, if_pos ⟨by omega, h2.2⟩]
      · rw [if_neg h2, if_neg (fun h3 => h2 ⟨by
          have : i ≠ k := fun e => h (by rw [← e]; exact h3.2)
          omega, h3.2⟩)]
theorem clP_new (z : List Int) (hz : z.length = 98) : clP z 81 = newZ z :=
  at8_ext _ _ (by rw [clP_len, hz]) (newZ_len z hz) fun i hi => by
    rw [clP_at z hz 81 (Nat.le_refl _) i, newZ_at z hz i hi]
set_option maxHeartbeats 4000000 in
theorem clean8_any (z : List Int) (hz : z.length = 98) (h8 : I8s z) (w : World) :
    Calls Tryd.prog 16 #[.agg (posC z).toArray] w fun e w' => e = .returned (.agg (posC (newZ z)).toArray) ∧ Below w.heap.size w w' := by
  rw [← clP_new z hz]
  have HZ := Lib.hid hz
  have H8 := Lib.hid h8
  have P0 := Lib.hid ((PosAt.new w z).grow (ball (bref _) (.cells Tryd.zeroCells28 28)))
  have D0 : ((w.alloc (.cells (posC z).toArray 28)).alloc (.cells Tryd.zeroCells28 28)).heap[w.heap.size + 1]? = some (.cells Tryd.zeroCells28 28) := by
    have := heap_alloc_new (w.alloc (.cells (posC z).toArray 28)) (.cells Tryd.zeroCells28 28)
    rwa [show (w.alloc (.cells (posC z).toArray 28)).heap.size = w.heap.size + 1 by simp] at this
  have HD0 := Lib.hid D0
  have HB0 := Lib.hid (ball (ball (bref w) (.cells (posC z).toArray 28)) (.cells Tryd.zeroCells28 28))
  have HS0 := Lib.hid (show w.heap.size + 1 < ((w.alloc (.cells (posC z).toArray 28)).alloc (.cells Tryd.zeroCells28 28)).heap.size by simp)
  clear hz h8 D0
  go_enter Tryd.func16, Tryd.ntmps16
  go_wp2
  generalize (w.alloc (.cells (posC z).toArray 28)).alloc (.cells Tryd.zeroCells28 28) = w2 at *
  go_loopw [4] (fun i wr => ∃ k : Nat, k ≤ 81 ∧ i = .int .i64 k ∧ PosAt wr w.heap.size (clP z k) ∧ But w.heap.size w2 wr) (fun i _ => 81 - (intOf i).toNat)
  case atStart => exact ⟨0, by omega, rfl, P0.out, But.refl _ _⟩
  case round =>
    obtain ⟨k, hk, rfl, hP, hB⟩ := hrel
    have HP := Lib.hid hP
    have HB := Lib.hid hB
    clear hP hB
    by_cases hlt : k < 81
    · have hx := H8.out.at k
      have K := Lib.hid (fun W => refKind_any (at8 z k) W hx.1 hx.2)
      have c0 := HP.out.cell k (by rw [clP_len, HZ.out]; omega)
      rw [clP_at z HZ.out k (by omega) k, if_neg (by omega)] at c0
      have f0 := HP.out.frozen k
      have zb := HP.out.lt
      have hw : wrap64 (at8 z k) = at8 z k := by unfold wrap64; omega
      by_cases h0 : kindF (at8 z k) = 0
      · have e := show clP z (k + 1) = (clP z k).set k 0 from if_pos h0
        have E := Lib.hid e
        have b0 : (kindF (at8 z k) == 0) = true := by simpa using h0
        generalize kindF (at8 z k) = kk at *
        generalize at8 z k = x at *
        obtain ⟨hx0, hx1⟩ := hx
        clear e h0
        go_wp2_with (go_at_call 59; refine (K.out _).mono ?_; rintro e w3 ⟨rfl, rfl⟩)
        go_roundw
        case rel => exact ⟨k + 1, by omega, by go_num, by rw [E.out]; exact HP.out.set k 0, HB.out.setCell _ rfl _⟩
        case measure => simp [intOf]; omega
      · have e := show clP z (k + 1) = clP z k from if_neg h0
        have E := Lib.hid e
        have b0 : (kindF (at8 z k) == 0) = false := by simpa using h0
        generalize kindF (at8 z k) = kk at *
        generalize at8 z k = x at *
        obtain ⟨hx0, hx1⟩ := hx
        clear e h0
        go_wp2_with (go_at_call 59; refine (K.out _).mono ?_; rintro e w3 ⟨rfl, rfl⟩)
        go_roundw
        case rel => exact ⟨k + 1, by omega, by go_num, by rw [E.out]; exact HP.out, HB.out⟩
        case measure => simp [intOf]; omega
    · obtain rfl : k = 81 := by omega
      have hl : (clP z 81).length = 98 := by rw [clP_len, HZ.out]
      have HINF := Lib.hid (show (Tryd.prog.info? 28).map (·.size) = some (posC (clP z 81)).length by rw [posC_len, hl]; exact infoPos)
      have HS := Lib.hid (show Tryd.zeroCells28.size = (posC (clP z 81)).toArray.size from zeroPos_size.trans (by rw [List.size_toArray, posC_len, hl]))
      have HD6 := Lib.hid ((HB.out.block (w.heap.size + 1) HS0.out (by omega)).trans HD0.out)
      clear hl
      generalize hc : clP z 81 = sz at *
      go_wp2_with (first
        | (refine wpList_load_mid rfl 28 _ rfl w.heap.size 0 rfl (posC sz) _ HP.out.range Tryd.underlying28 rfl HINF.out ?_)
        | (refine wpList_store_row rfl 28 _ _ rfl (w.heap.size + 1) (posC sz).toArray rfl rfl 28 Tryd.zeroCells28 HD6.out (by rw [List.size_toArray]; exact HINF.out) HS.out (posC_one sz) ?_))
      refine bodyPost_ret (results_cell_row rfl _ _ (w.heap.size + 1) 28 (posC sz).toArray (0, 0) _ rfl (setRow_heap _ _ _ _ _ _ HD6.out) Tryd.underlying28 rfl (by rw [List.size_toArray]; exact HINF.out)) rfl ?_
      exact ⟨by rw [hc], below_row (HB0.out.trans (HB.out.below (by omega) (by have := HS0.out; omega))) (by omega) _⟩

theorem real8_any (a b : Int) (a0 : 0 ≤ a) (a1 : a ≤ 18446744073709551615) (b0 : 0 ≤ b) (b1 : b ≤ 18446744073709551615) (w : World) :
    Calls Tryd.prog 17 #[.agg #[.int .u64 a, .int .u64 b]] w fun e w' => e = .returned (.agg #[.int .u64 (loW (realN a b)), .int .u64 (hiW (realN a b))]) ∧ Below w.heap.size w w' := by
  have e1 := real_lo a b a0 a1
  have e2 := real_hi a b b0 b1
  generalize loW (realN a b) = x at e1 ⊢
  generalize hiW (realN a b) = y at e2 ⊢
  clear a0 a1 b0 b1
  go_enter Tryd.func17, Tryd.ntmps17
  go_wp2
  exact bodyPost_ret (v := .agg #[.int .u64 x, .int .u64 y]) (by simp [results, Tryd.results17, go_sem]) rfl ⟨rfl, ball (ball (bref _) _) _⟩

/-! Taken. -/
def nzB (x : Int) : Bool := !decide (x = 0)
def nzN (z : List Int) : Nat := whereN z nzB 81
theorem nzN_sq (z : List Int) : Sq (nzN z) := where_sq _ _
theorem nzN_taken (z : List Int) (hc : Clean z) : nzN z = takenN z := by
  refine eq_of_bits81 (nzN_sq z) (takenN_sq z) fun i hi => ?_
  unfold nzN takenN sideN
  rw [Nat.testBit_or, where_test, where_test, where_test, decide_eq_true hi]
  unfold nzB sideB
  have h := hc i hi
  have hk := kind_side (at8 z i)
  by_cases h0 : at8 z i = 0
  · rw [h0, side_zero]; rfl
  · have : sideF (at8 z i) = 0 ∨ sideF (at8 z i) = 1 := by
      by_cases hk0 : kindF (at8 z i) = 0
      · exact absurd (h hk0) h0
      · omega
    rw [decide_eq_false h0]
    rcases this with e | e <;> rw [e] <;> rfl
theorem zero_arrB (w : World) : (zeroValue 42).run Tryd.prog w = .ok (.agg zA) w := by kernel_rfl
theorem build_arrB (w : World) : (Instr.build 42 #[]).run Tryd.prog w = .ok (.agg zA) w := by kernel_rfl
theorem info_arrB : (Tryd.prog.info? 42).map (·.size) = some 81 := by kernel_rfl
theorem refTaken_any (z : List Int) (hz : z.length = 98) (w : World) :
    Calls Tryd.prog 25 #[.agg (posC z).toArray] w fun e w' => e = .returned (.agg (arrP (nzN z) 81)) ∧ Below w.heap.size w w' := by
  have hz0 := zero_arrB
  have hbd := build_arrB
  have HP := Lib.hid (PosAt.new w z)
  have HZ := Lib.hid hz
  clear hz
  go_enter Tryd.func25, Tryd.ntmps25
  go_upto_region 1 with fail
  have R1 := Lib.hid (show ((w.alloc (.cells (posC z).toArray 28)).alloc (.cells zA 42)).heap[w.heap.size + 1]? = some (.cells zA 42) by
    have := heap_alloc_new (w.alloc (.cells (posC z).toArray 28)) (.cells zA 42)
    rwa [show (w.alloc (.cells (posC z).toArray 28)).heap.size = w.heap.size + 1 by simp] at this)
  have HP1 := Lib.hid (HP.out.grow (ball (bref _) (.cells zA 42)))
  have HB1 := Lib.hid (ball (ball (bref w) (.cells (posC z).toArray 28)) (.cells zA 42))
  have HS1 := Lib.hid (show ((w.alloc (.cells (posC z).toArray 28)).alloc (.cells zA 42)).heap.size = w.heap.size + 2 by simp)
  generalize (w.alloc (.cells (posC z).toArray 28)).alloc (.cells zA 42) = w1 at *
  go_wp2_with (refine wpList_store_row rfl 42 _ _ rfl w1.heap.size zA rfl rfl 42 zA (heap_alloc_new w1 _) info_arrB rfl zA_one ?_)
  clear hz0 hbd
  have R2 := Lib.hid (show ((w1.alloc (.cells zA 42)).setRow w1.heap.size zA).heap[w1.heap.size]? = some (.cells zA 42) from setRow_heap _ _ _ _ _ _ (heap_alloc_new w1 _))
  have HB2 := Lib.hid (show Below w1.heap.size w1 ((w1.alloc (.cells zA 42)).setRow w1.heap.size zA) from below_row (ball (bref w1) _) (Nat.le_refl _) _)
  generalize (w1.alloc (.cells zA 42)).setRow w1.heap.size zA = w2 at *
  have hs1 := HS1.out
  have R2 := Lib.hid (show w2.heap[w.heap.size + 2]? = some (.cells zA 42) by have := R2.out; rw [hs1] at this; exact this)
  rw [hs1]
  go_loopw [4] (fun i wr => ∃ k : Nat, k ≤ 81 ∧ i = .int .i64 k ∧ But (w.heap.size + 2) w2 wr ∧ wr.heap[w.heap.size + 2]? = some (.cells (arrP (nzN z) k) 42)) (fun i _ => 81 - (intOf i).toNat)
  case atStart => exact ⟨0, by omega, rfl, But.refl _ _, by rw [arrP_zero]; exact R2.out⟩
  case round =>
    obtain ⟨k, hk, rfl, hB, hV⟩ := hrel
    have hP2 : PosAt w2 w.heap.size z := HP1.out.grow HB2.out
    have hP : PosAt wr w.heap.size z := (hB.block w.heap.size hP2.lt (by omega)).trans hP2
    have HB := Lib.hid hB
    have HV := Lib.hid hV
    by_cases hlt : k < 81
    · have cc : wr.cell? ⟨w.heap.size + 2, k, none⟩ = some (.bool (decide (k < k) && (nzN z).testBit k)) := by
        rw [cell_of_row _ _ _ _ _ _ hV, arrP_get _ _ _ hlt]
      have fz : wr.frozen? ⟨w.heap.size + 2, k, none⟩ = false := frozen_of_row _ _ _ _ _ hV
      have c0 := hP.cell k (by rw [HZ.out]; omega)
      have ht : (nzN z).testBit k = (at8 z k != 0) := by
        unfold nzN nzB
        rw [where_test, decide_eq_true hlt, Bool.true_and]
        by_cases h : at8 z k = 0 <;> simp [h]
      have HTB := Lib.hid ht
      clear hB hV hP hP2 ht
      generalize at8 z k = x at c0 HTB
      go_wp2
      go_roundw
      case rel =>
        refine ⟨k + 1, by omega, by go_num, HB.out.setCell _ rfl _, ?_⟩
        rw [heap_setCell_same _ _ _ _ _ _ HV.out, ← HTB.out, arrP_step _ _ hlt]
      case measure => simp [intOf]; omega
    · obtain rfl : k = 81 := by omega
      have R1w := Lib.hid ((hB.block (w.heap.size + 1) (by have := HB2.out.size; omega) (by omega)).trans ((HB2.out.block (w.heap.size + 1) (by omega)).trans R1.out))
      have HBF := Lib.hid (show Below w.heap.size w wr from (HB1.out.trans (HB2.out.mono (by omega))).trans (hB.below (by omega) (by have := HB2.out.size; omega)))
      clear hB hV hP hP2
      go_wp2_with (first | (refine wpList_load_row rfl 42 _ rfl (w.heap.size + 2) rfl 42 _ _ _ HV.out Tryd.underlying42 rfl (by rw [arrP_size]; exact info_arrB) ?_) | (refine wpList_store_row rfl 42 _ _ rfl (w.heap.size + 1) (arrP (nzN z) 81) rfl rfl 42 zA R1w.out info_arrB rfl (arrP_one _ _) ?_))
      exact bodyPost_ret (results_cell_row Tryd.results25 _ _ (w.heap.size + 1) 42 (arrP (nzN z) 81) _ _ rfl (setRow_heap _ _ _ _ _ _ R1w.out) Tryd.underlying42 rfl (by rw [arrP_size]; exact info_arrB)) rfl
        ⟨rfl, below_row HBF.out (by omega) _⟩

/-! King. -/
theorem first_is (n k : Nat) (h : Sq n) (hk : n.testBit k = true) (hlt : ∀ i, i < k → n.testBit i = false) : firstF n = k := by
  have h81 : k < 81 := by
    apply Nat.lt_of_not_le
    intro hh
    rw [test_sq h k hh] at hk
    cases hk
  have h0 : n ≠ 0 := by
    rintro rfl
    rw [Nat.zero_testBit] at hk
    cases hk
  have hf := first_sq n h h0
  have hs : (sqI n).head? = some (k : Int) := by
    unfold sqI bitsL
    rw [List.head?_map, List.head?_filter]
    have : List.find? (fun i => n.testBit i) (List.range 81) = some k := by
      rw [List.find?_range_eq_some]
      exact ⟨hk, List.mem_range.2 h81, fun j hj => by rw [hlt j hj]; rfl⟩
    rw [this]
    rfl
  rw [hs] at hf
  exact (Option.some.inj hf).symm
theorem first_none : firstF 0 = -1 := by decide
theorem king_piece (z : List Int) (s : Int) (hs : s = 0 ∨ s = 1) (i : Nat) (hi : i < 81) : (pieceN z (ofF s 8)).testBit i = decide (at8 z i = 16 * s + 8) := by
  unfold pieceN pieceB
  rw [where_test, decide_eq_true hi, of_at s 8 hs (by decide), (kind_at s 8 hs (by omega) (by omega)).1]
  simp
theorem king_is (z : List Int) (s : Int) (hs : s = 0 ∨ s = 1) (k : Nat) (hk : k < 81) (h : at8 z k = 16 * s + 8) (hlt : ∀ i, i < k → at8 z i ≠ 16 * s + 8) : kingF z s = k := by
  unfold kingF
  refine first_is _ _ (pieceN_sq _ _) (by rw [king_piece z s hs k hk]; exact decide_eq_true h) fun i hi => ?_
  rw [king_piece z s hs i (by omega)]
  exact decide_eq_false (hlt i hi)
theorem king_none (z : List Int) (s : Int) (hs : s = 0 ∨ s = 1) (hlt : ∀ i, i < 81 → at8 z i ≠ 16 * s + 8) : kingF z s = -1 := by
  unfold kingF
  have : pieceN z (ofF s 8) = 0 := by
    refine eq_of_bits81 (pieceN_sq _ _) Sq.zero fun i hi => ?_
    rw [king_piece z s hs i hi, Nat.zero_testBit]
    exact decide_eq_false (hlt i hi)
  rw [this]
  exact first_none
theorem refKing_any (z : List Int) (s : Int) (hs : s = 0 ∨ s = 1) (hz : z.length = 98) (h8 : I8s z) (w : World) :
    Calls Tryd.prog 32 #[.agg (posC z).toArray, .int .i64 s] w fun e w' => e = .returned (.int .i64 (kingF z s)) ∧ Below w.heap.size w w' := by
  have HP := Lib.hid (PosAt.new w z)
  have HZ := Lib.hid hz
  have H8 := Lib.hid h8
  have HKI := Lib.hid (king_is z s hs)
  have HKN := Lib.hid (king_none z s hs)
  have hw1 : IntKind.i64.wrap (16 * s) = 16 * s := by rw [wrap_i64_eq]; unfold wrap64; omega
  have hw2 : IntKind.i64.wrap (16 * s + 8) = 16 * s + 8 := by rw [wrap_i64_eq]; unfold wrap64; omega
  have hw3 : wrap64 (16 * s) = 16 * s := by unfold wrap64; omega
  have hw4 : wrap64 (16 * s + 8) = 16 * s + 8 := by unfold wrap64; omega
  clear hz h8 hs
  generalize kingF z s = r at *
  go_enter Tryd.func32, Tryd.ntmps32
  go_wp2
  go_loopw [5] (fun i wr => ∃ k : Nat, k ≤ 81 ∧ i = .int .i64 k ∧ wr = w.alloc (.cells (posC z).toArray 28) ∧ ∀ i, i < k → at8 z i ≠ 16 * s + 8) (fun i _ => 81 - (intOf i).toNat)
  case atStart => exact ⟨0, by omega, rfl, rfl, fun i hi => by omega⟩
  case round =>
    obtain ⟨k, hk, rfl, rfl, hn⟩ := hrel
    have HN := Lib.hid hn
    clear hn
    by_cases hlt : k < 81
    · have c0 := HP.out.cell k (by rw [HZ.out]; omega)
      have hx := H8.out.at k
      have hwi : IntKind.i64.wrap (at8 z k) = at8 z k := by rw [wrap_i64_eq]; unfold wrap64; omega
      have hwj : wrap64 (at8 z k) = at8 z k := by unfold wrap64; omega
      by_cases he : at8 z k = 16 * s + 8
      · have be : (at8 z k == 16 * s + 8) = true := by simpa using he
        have hr := HKI.out k hlt he HN.out
        have HE := Lib.hid hr
        have HBW := Lib.hid (ball (bref w) (.cells (posC z).toArray 28))
        clear hx he hr
        generalize at8 z k = x at *
        generalize w.alloc (.cells (posC z).toArray 28) = w1 at *
        go_wp2
        go_ret
        exact ⟨by rw [HE.out]; rfl, HBW.out⟩
      · have be : (at8 z k == 16 * s + 8) = false := by simpa using he
        have HE := Lib.hid he
        clear hx he
        generalize hgx : at8 z k = x at *
        have HGX := Lib.hid hgx
        clear hgx
        generalize hgw : w.alloc (.cells (posC z).toArray 28) = w1 at *
        go_wp2
        go_roundw
        case rel =>
          refine ⟨k + 1, by omega, by go_num, by first | trivial | rfl, fun i hi => ?_⟩
          by_cases e : i = k
          · subst e; rw [HGX.out]; exact HE.out
          · exact HN.out i (by omega)
        case measure => simp [intOf]; omega
    · obtain rfl : k = 81 := by omega
      have hr := HKN.out HN.out
      go_wp2
      go_ret
      exact ⟨by rw [hr]; rfl, ball (bref w) _⟩
end Go.Proofs.YtilhicohfnaclaaDoor
