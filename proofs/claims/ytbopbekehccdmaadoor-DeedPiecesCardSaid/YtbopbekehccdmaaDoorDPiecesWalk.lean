/-
  The walk of the law DeedPieces: for every position and every move it returns true.
-/
import Derived.Test.YtbopbekehccdmaaDoorDmRefs
import Derived.Test.YtbopbekehccdmaaDoorMakes
import Derived.Test.YtbopbekehccdmaaDoorRefChk
import Derived.Test.YtbopbekehccdmaaDoorDeedCom
import Derived.OpenShut
namespace Go.Proofs.YtbopbekehccdmaaDoor.deedPieces
open Go.RowKit
set_option linter.unusedVariables false
set_option linter.unusedSimpArgs false

set_option maxRecDepth 100000 in
set_option maxHeartbeats 8000000 in
theorem walk_no (z : List Int) (f t d : Int) (p : Bool) (hz' : z.length = 98) (h8 : I8s z) (hc : checkF (newZ z) ≠ 0) (w : World) (hH : Home w) :
    Calls Tryd.prog 6 #[.agg (posC z).toArray, .agg #[.int .i64 f, .int .i64 t, .int .i64 d, .bool p]] w fun e w' => e = .returned (.bool true) ∧ Below w.heap.size w w' := by
  have R := Lib.hid (RB.start w z #[.int .i64 f, .int .i64 t, .int .i64 d, .bool p])
  have MT := Lib.hid (fun W (hH : Home W) => makes_true W hH)
  have CL := Lib.hid (fun W => clean_any z hz' h8 W)
  have hzc := newZ_len z hz'
  have h8c := newZ_8 z h8
  have hcc := newZ_clean z hz'
  have CK := Lib.hid (fun W => refCheck_any (newZ z) hzc h8c W)
  have HINF := Lib.hid (show (Tryd.prog.info? 28).map (·.size) = some (posC z).length by rw [posC_len, hz']; exact infoPos)
  have HINFC := Lib.hid (show (Tryd.prog.info? 28).map (·.size) = some (posC (newZ z)).length by rw [posC_len, hzc]; exact infoPos)
  have HSC := Lib.hid (show (posC z).toArray.size = (posC (newZ z)).toArray.size by rw [List.size_toArray, List.size_toArray, posC_len, posC_len, hz', hzc])
  have HH := Lib.hid hH
  have bc : (checkF (newZ z) != 0) = true := by simpa using hc
  clear hH hz' h8
  clear hc hzc h8c hcc
  generalize checkF (newZ z) = c at *
  generalize newZ z = zc at *
  go_enter Tryd.func6, Tryd.ntmps6
  go_upto_region 1 with fail
  generalize (w.alloc (.cells (posC z).toArray 28)).alloc (.cells #[.int .i64 f, .int .i64 t, .int .i64 d, .bool p] 64) = w0 at *
  go_upto_region 4 with (first
    | (go_at_call 28; refine (MT.out _ (HH.out.grow R.out.2.2)).mono ?_; rintro e w1 ⟨rfl, hb⟩; have R := Lib.hid (R.out.grow hb); clear hb)
    | (refine wpList_load_mid rfl 28 _ rfl w.heap.size 0 rfl (posC z) _ R.out.1.range Tryd.underlying28 rfl HINF.out ?_)
    | (go_at_call 29; refine (CL.out _).mono ?_; rintro e w2 ⟨rfl, hb⟩; have R := Lib.hid (R.out.grow hb); clear hb)
    | (refine wpList_store_row rfl 28 _ _ rfl w.heap.size (posC zc).toArray rfl rfl 28 _ R.out.1 (by rw [List.size_toArray]; exact HINFC.out) HSC.out (posC_one zc) ?_))
  have R := Lib.hid (R.out.setRow (z' := zc))
  generalize w2.setRow w.heap.size (posC zc).toArray = w3 at *
  go_wp2_with (first
    | (refine load_row_want (by rfl) 28 _ rfl w.heap.size rfl 28 _ _ _ R.out.1 Tryd.underlying28 rfl (by rw [List.size_toArray]; exact HINFC.out) ?_)
    | (refine wpList_load_mid rfl 28 _ rfl w.heap.size 0 rfl (posC zc) _ R.out.1.range Tryd.underlying28 rfl HINFC.out ?_)
    | (go_at_call 38; refine (CK.out _).mono ?_; rintro e w4 ⟨rfl, hb⟩; have R := Lib.hid (R.out.grow hb); clear hb; obtain ⟨m0, m1, m2, m3⟩ := mv_cells' R.out.2.1)
    | fail)
  go_ret
  exact ⟨rfl, R.out.2.2⟩

set_option maxRecDepth 100000 in
set_option maxHeartbeats 8000000 in
theorem walk_not (z : List Int) (f t d : Int) (p : Bool) (hz' : z.length = 98) (h8 : I8s z) (hc : checkF (newZ z) = 0) (hcan : canF (newZ z) f t d p = false) (w : World) (hH : Home w) :
    Calls Tryd.prog 6 #[.agg (posC z).toArray, .agg #[.int .i64 f, .int .i64 t, .int .i64 d, .bool p]] w fun e w' => e = .returned (.bool true) ∧ Below w.heap.size w w' := by
  have R := Lib.hid (RB.start w z #[.int .i64 f, .int .i64 t, .int .i64 d, .bool p])
  have MT := Lib.hid (fun W (hH : Home W) => makes_true W hH)
  have CL := Lib.hid (fun W => clean_any z hz' h8 W)
  have hzc := newZ_len z hz'
  have h8c := newZ_8 z h8
  have hcc := newZ_clean z hz'
  have CK := Lib.hid (fun W => refCheck_any (newZ z) hzc h8c W)
  have HINF := Lib.hid (show (Tryd.prog.info? 28).map (·.size) = some (posC z).length by rw [posC_len, hz']; exact infoPos)
  have HINFC := Lib.hid (show (Tryd.prog.info? 28).map (·.size) = some (posC (newZ z)).length by rw [posC_len, hzc]; exact infoPos)
  have HSC := Lib.hid (show (posC z).toArray.size = (posC (newZ z)).toArray.size by rw [List.size_toArray, List.size_toArray, posC_len, posC_len, hz', hzc])
  have HH := Lib.hid hH
  rw [hc] at CK
  have hpos : PosOk (newZ z) 126 := ⟨hzc, h8c, hcc, fun j a b => ⟨(chk_hands (newZ z) h8c hc j a b).1, Int.le_trans (chk_hands (newZ z) h8c hc j a b).2 (by decide)⟩⟩
  have AF := Lib.hid (fun W => after_no (newZ z) f t d p hzc h8c hcc hcan W)
  have HSF := Lib.hid (show Tryd.zeroCells28.size = (posC (newZ z)).toArray.size from zeroPos_size.trans (by rw [List.size_toArray, posC_len, hzc]))
  have EQC := pos_eq (newZ z) hzc
  clear hH hz' h8
  clear hc hcan hpos hzc h8c hcc
  generalize newZ z = zc at *
  go_enter Tryd.func6, Tryd.ntmps6
  go_upto_region 1 with fail
  generalize (w.alloc (.cells (posC z).toArray 28)).alloc (.cells #[.int .i64 f, .int .i64 t, .int .i64 d, .bool p] 64) = w0 at *
  go_upto_region 4 with (first
    | (go_at_call 28; refine (MT.out _ (HH.out.grow R.out.2.2)).mono ?_; rintro e w1 ⟨rfl, hb⟩; have R := Lib.hid (R.out.grow hb); clear hb)
    | (refine wpList_load_mid rfl 28 _ rfl w.heap.size 0 rfl (posC z) _ R.out.1.range Tryd.underlying28 rfl HINF.out ?_)
    | (go_at_call 29; refine (CL.out _).mono ?_; rintro e w2 ⟨rfl, hb⟩; have R := Lib.hid (R.out.grow hb); clear hb)
    | (refine wpList_store_row rfl 28 _ _ rfl w.heap.size (posC zc).toArray rfl rfl 28 _ R.out.1 (by rw [List.size_toArray]; exact HINFC.out) HSC.out (posC_one zc) ?_))
  have R := Lib.hid (R.out.setRow (z' := zc))
  generalize w2.setRow w.heap.size (posC zc).toArray = w3 at *
  go_upto_region 7 with (first
    | (refine load_row_want (by rfl) 28 _ rfl w.heap.size rfl 28 _ _ _ R.out.1 Tryd.underlying28 rfl (by rw [List.size_toArray]; exact HINFC.out) ?_)
    | (refine wpList_load_mid rfl 28 _ rfl w.heap.size 0 rfl (posC zc) _ R.out.1.range Tryd.underlying28 rfl HINFC.out ?_)
    | (go_at_call 38; refine (CK.out _).mono ?_; rintro e w4 ⟨rfl, hb⟩; have R := Lib.hid (R.out.grow hb); clear hb; obtain ⟨m0, m1, m2, m3⟩ := mv_cells' R.out.2.1)
    | (go_at_call 39; refine (AF.out _).mono ?_; rintro e wa ⟨rfl, hb⟩; have R := Lib.hid (R.out.grow hb); clear hb m0 m1 m2 m3; obtain ⟨m0, m1, m2, m3⟩ := mv_cells' R.out.2.1)
    | (refine wpList_store_row rfl 28 _ _ rfl wa.heap.size (posC zc).toArray rfl rfl 28 Tryd.zeroCells28 (heap_alloc_new wa _) (by rw [List.size_toArray]; exact HINFC.out) HSF.out (posC_one zc) ?_)
    | fail)
  have P7 := Lib.hid (fresh_pos wa zc)
  have FB := Lib.hid (fresh_below wa (.cells Tryd.zeroCells28 28) (posC zc).toArray)
  have R := Lib.hid (R.out.grow FB.out)
  generalize ha7 : wa.heap.size = a7 at *
  generalize (wa.alloc (.cells Tryd.zeroCells28 28)).setRow a7 (posC zc).toArray = wb at *
  clear ha7
  go_wp2_with (first
    | (refine load_row_want (by rfl) 28 _ rfl a7 rfl 28 _ _ _ P7.out Tryd.underlying28 rfl (by rw [List.size_toArray]; exact HINFC.out) ?_)
    | (refine load_row_want (by rfl) 28 _ rfl w.heap.size rfl 28 _ _ _ R.out.1 Tryd.underlying28 rfl (by rw [List.size_toArray]; exact HINFC.out) ?_)
    | (refine wpList_load_mid rfl 28 _ rfl a7 0 rfl (posC zc) _ P7.out.range Tryd.underlying28 rfl HINFC.out ?_)
    | (refine wpList_load_mid rfl 28 _ rfl w.heap.size 0 rfl (posC zc) _ R.out.1.range Tryd.underlying28 rfl HINFC.out ?_)
    | fail)
  go_ret
  exact ⟨rfl, R.out.2.2⟩

set_option maxRecDepth 100000 in
set_option maxHeartbeats 8000000 in
theorem walk_made (z : List Int) (f t d : Int) (p : Bool) (hz' : z.length = 98) (h8 : I8s z) (hc : checkF (newZ z) = 0) (hcan : canF (newZ z) f t d p = true) (w : World) (hH : Home w) :
    Calls Tryd.prog 6 #[.agg (posC z).toArray, .agg #[.int .i64 f, .int .i64 t, .int .i64 d, .bool p]] w fun e w' => e = .returned (.bool true) ∧ Below w.heap.size w w' := by
  have R := Lib.hid (RB.start w z #[.int .i64 f, .int .i64 t, .int .i64 d, .bool p])
  have MT := Lib.hid (fun W (hH : Home W) => makes_true W hH)
  have CL := Lib.hid (fun W => clean_any z hz' h8 W)
  have hzc := newZ_len z hz'
  have h8c := newZ_8 z h8
  have hcc := newZ_clean z hz'
  have CK := Lib.hid (fun W => refCheck_any (newZ z) hzc h8c W)
  have HINF := Lib.hid (show (Tryd.prog.info? 28).map (·.size) = some (posC z).length by rw [posC_len, hz']; exact infoPos)
  have HINFC := Lib.hid (show (Tryd.prog.info? 28).map (·.size) = some (posC (newZ z)).length by rw [posC_len, hzc]; exact infoPos)
  have HSC := Lib.hid (show (posC z).toArray.size = (posC (newZ z)).toArray.size by rw [List.size_toArray, List.size_toArray, posC_len, posC_len, hz', hzc])
  have HH := Lib.hid hH
  rw [hc] at CK
  have hpos : PosOk (newZ z) 126 := ⟨hzc, h8c, hcc, fun j a b => ⟨(chk_hands (newZ z) h8c hc j a b).1, Int.le_trans (chk_hands (newZ z) h8c hc j a b).2 (by decide)⟩⟩
  have AF := Lib.hid (fun W => after_yes (newZ z) f t d p hzc h8c hcc hpos.hand hcan W)
  obtain ⟨hok, h97⟩ := afterZ_ok hpos (Int.le_refl _) hcan
  have hzf := hok.len
  have HZF := Lib.hid hzf
  have HINFF := Lib.hid (show (Tryd.prog.info? 28).map (·.size) = some (posC (afterZ (newZ z) f t d p)).length by rw [posC_len, hzf]; exact infoPos)
  have HSF := Lib.hid (show Tryd.zeroCells28.size = (posC (afterZ (newZ z) f t d p)).toArray.size from zeroPos_size.trans (by rw [List.size_toArray, posC_len, hzf]))
  have CA := Lib.hid (fun (k : Nat) (hk : 1 ≤ k ∧ k ≤ 7) W => refCount_any (newZ z) hzc h8c k hk W)
  have CB := Lib.hid (fun (k : Nat) (hk : 1 ≤ k ∧ k ≤ 7) W => refCount_any (afterZ (newZ z) f t d p) hzf hok.i8 k hk W)
  have PS := Lib.hid (fun (k : Nat) (hk : 1 ≤ k ∧ k ≤ 7) => pieces_same (newZ z) f t d p hpos hcan k hk)
  have H97 := Lib.hid h97
  have HS := Lib.hid (show at8 (newZ z) 97 = 0 ∨ at8 (newZ z) 97 = 1 from (chk_zero (newZ z) hc).1)
  have HZC := Lib.hid hzc
  clear hH hz' h8
  clear hc hcan hpos hzc h8c hcc hzf hok h97
  generalize afterZ (newZ z) f t d p = zf at *
  generalize newZ z = zc at *
  go_enter Tryd.func6, Tryd.ntmps6
  go_upto_region 1 with fail
  generalize (w.alloc (.cells (posC z).toArray 28)).alloc (.cells #[.int .i64 f, .int .i64 t, .int .i64 d, .bool p] 64) = w0 at *
  go_upto_region 4 with (first
    | (go_at_call 28; refine (MT.out _ (HH.out.grow R.out.2.2)).mono ?_; rintro e w1 ⟨rfl, hb⟩; have R := Lib.hid (R.out.grow hb); clear hb)
    | (refine wpList_load_mid rfl 28 _ rfl w.heap.size 0 rfl (posC z) _ R.out.1.range Tryd.underlying28 rfl HINF.out ?_)
    | (go_at_call 29; refine (CL.out _).mono ?_; rintro e w2 ⟨rfl, hb⟩; have R := Lib.hid (R.out.grow hb); clear hb)
    | (refine wpList_store_row rfl 28 _ _ rfl w.heap.size (posC zc).toArray rfl rfl 28 _ R.out.1 (by rw [List.size_toArray]; exact HINFC.out) HSC.out (posC_one zc) ?_))
  have R := Lib.hid (R.out.setRow (z' := zc))
  generalize w2.setRow w.heap.size (posC zc).toArray = w3 at *
  go_upto_region 7 with (first
    | (refine load_row_want (by rfl) 28 _ rfl w.heap.size rfl 28 _ _ _ R.out.1 Tryd.underlying28 rfl (by rw [List.size_toArray]; exact HINFC.out) ?_)
    | (refine wpList_load_mid rfl 28 _ rfl w.heap.size 0 rfl (posC zc) _ R.out.1.range Tryd.underlying28 rfl HINFC.out ?_)
    | (go_at_call 38; refine (CK.out _).mono ?_; rintro e w4 ⟨rfl, hb⟩; have R := Lib.hid (R.out.grow hb); clear hb; obtain ⟨m0, m1, m2, m3⟩ := mv_cells' R.out.2.1)
    | (go_at_call 39; refine (AF.out _).mono ?_; rintro e wa ⟨rfl, hb⟩; have R := Lib.hid (R.out.grow hb); clear hb m0 m1 m2 m3; obtain ⟨m0, m1, m2, m3⟩ := mv_cells' R.out.2.1)
    | (refine wpList_store_row rfl 28 _ _ rfl wa.heap.size (posC zf).toArray rfl rfl 28 Tryd.zeroCells28 (heap_alloc_new wa _) (by rw [List.size_toArray]; exact HINFF.out) HSF.out (posC_one zf) ?_)
    | fail)
  have P7 := Lib.hid (fresh_pos wa zf)
  have FB := Lib.hid (fresh_below wa (.cells Tryd.zeroCells28 28) (posC zf).toArray)
  have R := Lib.hid (R.out.grow FB.out)
  generalize ha7 : wa.heap.size = a7 at *
  generalize (wa.alloc (.cells Tryd.zeroCells28 28)).setRow a7 (posC zf).toArray = wb at *
  clear ha7 m0 m1 m2 m3 FB
  go_wp2_with fail
  go_loopw [7] (fun r wr => ∃ k : Nat, 1 ≤ k ∧ k ≤ 8 ∧ r = .int .i64 k ∧ RB w zc #[.int .i64 f, .int .i64 t, .int .i64 d, .bool p] wr ∧ PosAt wr a7 zf) (fun r _ => 8 - (intOf r).toNat)
  case atStart => exact ⟨1, by omega, by omega, rfl, R.out, P7.out⟩
  case round =>
    obtain ⟨k, hk1, hk8, rfl, hR, hP⟩ := hrel
    have R := Lib.hid hR
    have P7 := Lib.hid hP
    clear hR hP
    by_cases hlt : (k : Int) ≤ 7
    · have hk17 : 1 ≤ k ∧ k ≤ 7 := by omega
      have ps := PS.out k hk17
      go_wp2_with fail
      refine wp_region_held_drew (S := fun W => RB w zc #[.int .i64 f, .int .i64 t, .int .i64 d, .bool p] W ∧ PosAt W a7 zf) (by kernel_rfl) ?_ (fun hHeld => ?_)
      · exact ⟨⟨R.out.1, R.out.2.1, R.out.2.2.drew⟩, P7.out⟩
      refine wpAnyH_take (i := 0) rfl (by kernel_rfl) (by kernel_rfl) (by kernel_rfl) (fun _ _ _ h => h) (yieldsIf_load_mid (by rfl) _ _ rfl _ _ rfl (posC zc) _ (fun w h => h.1.1.range) (Tryd.underlying28) rfl (HINFC.out)) (by assumption) ?_
      try simp only [Act.put, List.getElem_toArray, List.getElem_cons_zero, List.getElem_cons_succ, List.setIfInBounds_toArray, List.set_cons_zero, List.set_cons_succ]
      refine wpAnyH_take (i := 1) (v := ?v1) rfl (by kernel_rfl) (by kernel_rfl) (by kernel_rfl) (fun _ _ _ h => h) (Or.inl ⟨by rfl, ?y1⟩) (by assumption) ?r1
      case y1 => (intro w hSw; (go_simp <;> first | with_reducible rfl | (rw [if_pos (by omega)] <;> with_reducible rfl)))
      try simp only [Act.put, List.getElem_toArray, List.getElem_cons_zero, List.getElem_cons_succ, List.setIfInBounds_toArray, List.set_cons_zero, List.set_cons_succ]
      refine wpAnyH_take (i := 3) rfl (by kernel_rfl) (by kernel_rfl) (by kernel_rfl) (fun _ _ _ h => h) (yieldsIf_load_mid (by rfl) _ _ rfl _ _ rfl (posC zf) _ (fun w h => h.2.range) (Tryd.underlying28) rfl (HINFF.out)) (by assumption) ?_
      try simp only [Act.put, List.getElem_toArray, List.getElem_cons_zero, List.getElem_cons_succ, List.setIfInBounds_toArray, List.set_cons_zero, List.set_cons_succ]
      refine wpAnyH_take (i := 4) (v := ?v2) rfl (by kernel_rfl) (by kernel_rfl) (by kernel_rfl) (fun _ _ _ h => h) (Or.inl ⟨by rfl, ?y2⟩) (by assumption) ?r2
      case y2 => (intro w hSw; (go_simp <;> first | with_reducible rfl | (rw [if_pos (by omega)] <;> with_reducible rfl)))
      try simp only [Act.put, List.getElem_toArray, List.getElem_cons_zero, List.getElem_cons_succ, List.setIfInBounds_toArray, List.set_cons_zero, List.set_cons_succ]
      refine wpAnyH_ready (rs := [2]) (by kernel_rfl) (by simp) ?_
      refine AllReadyH.cons rfl (fun K hK => ?_) AllReadyH.nil
      rw [if_pos (by rfl)]
      go_simp
      go_at_call 40
      refine (CA.out k hk17 _).mono ?_
      rintro e wn ⟨rfl, hb⟩
      refine hK.out _ _ (⟨hHeld.1.grow hb, hHeld.2.grow hb⟩) (fun hHeld => ?_)
      clear hK K
      try simp only [Act.put, List.getElem_toArray, List.getElem_cons_zero, List.getElem_cons_succ, List.setIfInBounds_toArray, List.set_cons_zero, List.set_cons_succ]
      refine wpAnyH_ready (rs := [5]) (by kernel_rfl) (by simp) ?_
      refine AllReadyH.cons rfl (fun K hK => ?_) AllReadyH.nil
      rw [if_pos (by rfl)]
      go_simp
      go_at_call 40
      refine (CB.out k hk17 _).mono ?_
      rintro e wn ⟨rfl, hb⟩
      refine hK.out _ _ (⟨hHeld.1.grow hb, hHeld.2.grow hb⟩) (fun hHeld => ?_)
      clear hK K
      try simp only [Act.put, List.getElem_toArray, List.getElem_cons_zero, List.getElem_cons_succ, List.setIfInBounds_toArray, List.set_cons_zero, List.set_cons_succ]
      refine wpAnyH_take (i := 6) (v := ?v3) rfl (by kernel_rfl) (by kernel_rfl) (by kernel_rfl) (fun _ _ _ h => h) (Or.inl ⟨by rfl, ?y3⟩) (by assumption) ?r3
      case y3 => (intro w hSw; (go_simp <;> first | with_reducible rfl | (rw [if_pos (by omega)] <;> with_reducible rfl)))
      try simp only [Act.put, List.getElem_toArray, List.getElem_cons_zero, List.getElem_cons_succ, List.setIfInBounds_toArray, List.set_cons_zero, List.set_cons_succ]
      refine wpAnyH_done (by kernel_rfl) ?_ _
      rw [ps]
      generalize (cntN zc (rawB k) 81 : Int) + at8 zc (81 + k) + at8 zc (89 + k) = cc at *
      have bn : (cc != cc) = false := by simp
      go_wp2_with fail
      go_roundw
      case rel => exact ⟨k + 1, by omega, by omega, by go_num, hHeld.1, hHeld.2⟩
      case measure => simp [intOf]; omega
    · obtain rfl : k = 8 := by omega
      have cs := R.out.1.cell 97 (by rw [HZC.out]; omega)
      have ca := P7.out.cell 97 (by rw [HZF.out]; omega)
      rw [H97.out] at ca
      have HSO := HS.out
      generalize at8 zc 97 = s at *
      have bs : (1 - s == 1 - s) = true := by simp
      have hws : IntKind.i8.wrap (1 - s) = 1 - s := by rcases HSO with h | h <;> subst h <;> decide
      have B8 := Lib.hid R.out.2.2
      clear HSO
      go_wp2_with fail
      go_ret
      exact ⟨by simp_all, B8.out⟩

/-- THE WALK OF THE LAW. -/
theorem walk (z : List Int) (f t d : Int) (p : Bool) (hz' : z.length = 98) (h8 : I8s z) (wf : (Lit.int .i64 f).wf = true) (wt : (Lit.int .i64 t).wf = true) (wd : (Lit.int .i64 d).wf = true) (w : World) (hH : Home w) :
    Calls Tryd.prog 6 #[.agg (posC z).toArray, .agg #[.int .i64 f, .int .i64 t, .int .i64 d, .bool p]] w fun e w' => e = .returned (.bool true) ∧ Below w.heap.size w w' := by
  by_cases hc : checkF (newZ z) = 0
  · cases hcan : canF (newZ z) f t d p
    · exact walk_not z f t d p hz' h8 hc hcan w hH
    · exact walk_made z f t d p hz' h8 hc hcan w hH
  · exact walk_no z f t d p hz' h8 hc w hH
end Go.Proofs.YtbopbekehccdmaaDoor.deedPieces
