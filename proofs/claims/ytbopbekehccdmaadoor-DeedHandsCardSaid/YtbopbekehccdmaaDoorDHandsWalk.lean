/-
  The walk of the law DeedHands: for every position and every move it returns true.
-/
import Derived.Test.YtbopbekehccdmaaDoorDmRefs
import Derived.Test.YtbopbekehccdmaaDoorMakes
import Derived.Test.YtbopbekehccdmaaDoorRefChk
import Derived.Test.YtbopbekehccdmaaDoorDeedCom
import Derived.OpenShut
namespace Go.Proofs.YtbopbekehccdmaaDoor.deedHands
open Go.RowKit
set_option linter.unusedVariables false
set_option linter.unusedSimpArgs false

def HandAt (w : World) (b : Nat) (h : List Int) : Prop := w.heap[b]? = some (.cells (posC h).toArray 26)
theorem HandAt.cell {w : World} {b : Nat} {h : List Int} (k : HandAt w b h) (j : Nat) (hj : j < h.length) : w.cell? ⟨b, j, none⟩ = some (.int .i8 (at8 h j)) := by
  rw [cell_of_row w b j _ _ _ k]
  simpa using posC_get h j hj
theorem HandAt.frozen {w : World} {b : Nat} {h : List Int} (k : HandAt w b h) (j : Nat) : w.frozen? ⟨b, j, none⟩ = false := frozen_of_row _ _ _ _ _ k
theorem HandAt.set {w : World} {b : Nat} {h : List Int} (k : HandAt w b h) (j : Nat) (v : Int) : HandAt (w.setCell ⟨b, j, none⟩ (.int .i8 v)) b (h.set j v) := by
  unfold HandAt
  rw [heap_setCell_same w b j _ _ _ k, posC_set]
theorem HandAt.drew {w : World} {b : Nat} {h : List Int} (k : HandAt w b h) : HandAt w.drew b h := k
theorem zeroHands_size : (#[.int .i8 0, .int .i8 0, .int .i8 0, .int .i8 0, .int .i8 0, .int .i8 0, .int .i8 0, .int .i8 0, .int .i8 0, .int .i8 0, .int .i8 0, .int .i8 0, .int .i8 0, .int .i8 0, .int .i8 0, .int .i8 0] : Array Value).size = 16 := rfl

set_option maxRecDepth 100000 in
set_option maxHeartbeats 8000000 in
theorem walk_no (z : List Int) (f t d : Int) (p : Bool) (hz' : z.length = 98) (h8 : I8s z) (hc : checkF (newZ z) ≠ 0) (w : World) (hH : Home w) :
    Calls Tryd.prog 7 #[.agg (posC z).toArray, .agg #[.int .i64 f, .int .i64 t, .int .i64 d, .bool p]] w fun e w' => e = .returned (.bool true) ∧ Below w.heap.size w w' := by
  have R := Lib.hid (RB.start w z #[.int .i64 f, .int .i64 t, .int .i64 d, .bool p])
  have MT := Lib.hid (fun W (hH : Home W) => makes_true W hH)
  have CL := Lib.hid (fun W => clean_any z hz' h8 W)
  have hzc := newZ_len z hz'
  have h8c := newZ_8 z h8
  have hcc := newZ_clean z hz'
  have CK := Lib.hid (fun W => refCheck_any (newZ z) hzc h8c W)
  have HINF := Lib.hid (show (Tryd.prog.info? 28).map (·.size) = some (posC z).length by rw [posC_len, hz']; exact infoPos)
  have HINFC := Lib.hid (show (Tryd.prog.info? 28).map (·.size) = some (posC (newZ z)).length by rw [posC_len, hzc]; exact infoPos)
  have HSC := Lib.hid (show (posC z).toArray.size = (posC (newZ z)).toArray.size by rw [List.size_toArray, List.size_toArray, posC_len, posC_len, hz', hzc])
  have HH := Lib.hid hH
  have bc : (checkF (newZ z) != 0) = true := by simpa using hc
  clear hH hz' h8
  clear hc hzc h8c hcc
  generalize checkF (newZ z) = c at *
  generalize newZ z = zc at *
  go_enter Tryd.func7, Tryd.ntmps7
  go_upto_region 1 with fail
  generalize (w.alloc (.cells (posC z).toArray 28)).alloc (.cells #[.int .i64 f, .int .i64 t, .int .i64 d, .bool p] 64) = w0 at *
  go_upto_region 4 with (first
    | (go_at_call 28; refine (MT.out _ (HH.out.grow R.out.2.2)).mono ?_; rintro e w1 ⟨rfl, hb⟩; have R := Lib.hid (R.out.grow hb); clear hb)
    | (refine wpList_load_mid rfl 28 _ rfl w.heap.size 0 rfl (posC z) _ R.out.1.range Tryd.underlying28 rfl HINF.out ?_)
    | (go_at_call 29; refine (CL.out _).mono ?_; rintro e w2 ⟨rfl, hb⟩; have R := Lib.hid (R.out.grow hb); clear hb)
    | (refine wpList_store_row rfl 28 _ _ rfl w.heap.size (posC zc).toArray rfl rfl 28 _ R.out.1 (by rw [List.size_toArray]; exact HINFC.out) HSC.out (posC_one zc) ?_))
  have R := Lib.hid (R.out.setRow (z' := zc))
  generalize w2.setRow w.heap.size (posC zc).toArray = w3 at *
  go_wp2_with (first
    | (refine load_row_want (by rfl) 28 _ rfl w.heap.size rfl 28 _ _ _ R.out.1 Tryd.underlying28 rfl (by rw [List.size_toArray]; exact HINFC.out) ?_)
    | (refine wpList_load_mid rfl 28 _ rfl w.heap.size 0 rfl (posC zc) _ R.out.1.range Tryd.underlying28 rfl HINFC.out ?_)
    | (go_at_call 38; refine (CK.out _).mono ?_; rintro e w4 ⟨rfl, hb⟩; have R := Lib.hid (R.out.grow hb); clear hb; obtain ⟨m0, m1, m2, m3⟩ := mv_cells' R.out.2.1)
    | fail)
  go_ret
  exact ⟨rfl, R.out.2.2⟩

set_option maxRecDepth 100000 in
set_option maxHeartbeats 8000000 in
theorem walk_not (z : List Int) (f t d : Int) (p : Bool) (hz' : z.length = 98) (h8 : I8s z) (hc : checkF (newZ z) = 0) (hcan : canF (newZ z) f t d p = false) (w : World) (hH : Home w) :
    Calls Tryd.prog 7 #[.agg (posC z).toArray, .agg #[.int .i64 f, .int .i64 t, .int .i64 d, .bool p]] w fun e w' => e = .returned (.bool true) ∧ Below w.heap.size w w' := by
  have R := Lib.hid (RB.start w z #[.int .i64 f, .int .i64 t, .int .i64 d, .bool p])
  have MT := Lib.hid (fun W (hH : Home W) => makes_true W hH)
  have CL := Lib.hid (fun W => clean_any z hz' h8 W)
  have hzc := newZ_len z hz'
  have h8c := newZ_8 z h8
  have hcc := newZ_clean z hz'
  have CK := Lib.hid (fun W => refCheck_any (newZ z) hzc h8c W)
  have HINF := Lib.hid (show (Tryd.prog.info? 28).map (·.size) = some (posC z).length by rw [posC_len, hz']; exact infoPos)
  have HINFC := Lib.hid (show (Tryd.prog.info? 28).map (·.size) = some (posC (newZ z)).length by rw [posC_len, hzc]; exact infoPos)
  have HSC := Lib.hid (show (posC z).toArray.size = (posC (newZ z)).toArray.size by rw [List.size_toArray, List.size_toArray, posC_len, posC_len, hz', hzc])
  have HH := Lib.hid hH
  rw [hc] at CK
  have hpos : PosOk (newZ z) 126 := ⟨hzc, h8c, hcc, fun j a b => ⟨(chk_hands (newZ z) h8c hc j a b).1, Int.le_trans (chk_hands (newZ z) h8c hc j a b).2 (by decide)⟩⟩
  have AF := Lib.hid (fun W => after_no (newZ z) f t d p hzc h8c hcc hcan W)
  have HSF := Lib.hid (show Tryd.zeroCells28.size = (posC (newZ z)).toArray.size from zeroPos_size.trans (by rw [List.size_toArray, posC_len, hzc]))
  clear hH hz' h8
  clear hc hcan hpos hzc h8c hcc
  generalize newZ z = zc at *
  go_enter Tryd.func7, Tryd.ntmps7
  go_upto_region 1 with fail
  generalize (w.alloc (.cells (posC z).toArray 28)).alloc (.cells #[.int .i64 f, .int .i64 t, .int .i64 d, .bool p] 64) = w0 at *
  go_upto_region 4 with (first
    | (go_at_call 28; refine (MT.out _ (HH.out.grow R.out.2.2)).mono ?_; rintro e w1 ⟨rfl, hb⟩; have R := Lib.hid (R.out.grow hb); clear hb)
    | (refine wpList_load_mid rfl 28 _ rfl w.heap.size 0 rfl (posC z) _ R.out.1.range Tryd.underlying28 rfl HINF.out ?_)
    | (go_at_call 29; refine (CL.out _).mono ?_; rintro e w2 ⟨rfl, hb⟩; have R := Lib.hid (R.out.grow hb); clear hb)
    | (refine wpList_store_row rfl 28 _ _ rfl w.heap.size (posC zc).toArray rfl rfl 28 _ R.out.1 (by rw [List.size_toArray]; exact HINFC.out) HSC.out (posC_one zc) ?_))
  have R := Lib.hid (R.out.setRow (z' := zc))
  generalize w2.setRow w.heap.size (posC zc).toArray = w3 at *
  go_upto_region 7 with (first
    | (refine load_row_want (by rfl) 28 _ rfl w.heap.size rfl 28 _ _ _ R.out.1 Tryd.underlying28 rfl (by rw [List.size_toArray]; exact HINFC.out) ?_)
    | (refine wpList_load_mid rfl 28 _ rfl w.heap.size 0 rfl (posC zc) _ R.out.1.range Tryd.underlying28 rfl HINFC.out ?_)
    | (go_at_call 38; refine (CK.out _).mono ?_; rintro e w4 ⟨rfl, hb⟩; have R := Lib.hid (R.out.grow hb); clear hb; obtain ⟨m0, m1, m2, m3⟩ := mv_cells' R.out.2.1)
    | (go_at_call 39; refine (AF.out _).mono ?_; rintro e wa ⟨rfl, hb⟩; have R := Lib.hid (R.out.grow hb); clear hb m0 m1 m2 m3; obtain ⟨m0, m1, m2, m3⟩ := mv_cells' R.out.2.1)
    | (refine wpList_store_row rfl 28 _ _ rfl wa.heap.size (posC zc).toArray rfl rfl 28 Tryd.zeroCells28 (heap_alloc_new wa _) (by rw [List.size_toArray]; exact HINFC.out) HSF.out (posC_one zc) ?_)
    | fail)
  have FB := Lib.hid (fresh_below wa (.cells Tryd.zeroCells28 28) (posC zc).toArray)
  have R := Lib.hid (R.out.grow FB.out)
  generalize (wa.alloc (.cells Tryd.zeroCells28 28)).setRow wa.heap.size (posC zc).toArray = wb at *
  go_wp2_with fail
  go_ret
  exact ⟨rfl, R.out.2.2⟩

set_option maxRecDepth 100000 in
set_option maxHeartbeats 8000000 in
theorem walk_drop (z : List Int) (tq dn s : Nat) (hz' : z.length = 98) (h8 : I8s z) (hc : checkF (newZ z) = 0) (hcan : canF (newZ z) 0 tq dn false = true) (hs2 : s < 2) (hs : at8 (newZ z) 97 = s) (htq : tq < 81) (d1 : 1 ≤ dn) (d7 : dn ≤ 7) (w : World) (hH : Home w) :
    Calls Tryd.prog 7 #[.agg (posC z).toArray, .agg #[.int .i64 0, .int .i64 tq, .int .i64 dn, .bool false]] w fun e w' => e = .returned (.bool true) ∧ Below w.heap.size w w' := by
  have R := Lib.hid (RB.start w z #[.int .i64 0, .int .i64 tq, .int .i64 dn, .bool false])
  have MT := Lib.hid (fun W (hH : Home W) => makes_true W hH)
  have CL := Lib.hid (fun W => clean_any z hz' h8 W)
  have hzc := newZ_len z hz'
  have h8c := newZ_8 z h8
  have hcc := newZ_clean z hz'
  have CK := Lib.hid (fun W => refCheck_any (newZ z) hzc h8c W)
  have HINF := Lib.hid (show (Tryd.prog.info? 28).map (·.size) = some (posC z).length by rw [posC_len, hz']; exact infoPos)
  have HINFC := Lib.hid (show (Tryd.prog.info? 28).map (·.size) = some (posC (newZ z)).length by rw [posC_len, hzc]; exact infoPos)
  have HSC := Lib.hid (show (posC z).toArray.size = (posC (newZ z)).toArray.size by rw [List.size_toArray, List.size_toArray, posC_len, posC_len, hz', hzc])
  have HH := Lib.hid hH
  rw [hc] at CK
  have hpos : PosOk (newZ z) 126 := ⟨hzc, h8c, hcc, fun j a b => ⟨(chk_hands (newZ z) h8c hc j a b).1, Int.le_trans (chk_hands (newZ z) h8c hc j a b).2 (by decide)⟩⟩
  have AF := Lib.hid (fun W => after_yes (newZ z) (0) (tq) (dn) false hzc h8c hcc hpos.hand hcan W)
  have hzf := afterZ_len (newZ z) (0) (tq) (dn) false hzc
  have HZF := Lib.hid hzf
  have HINFF := Lib.hid (show (Tryd.prog.info? 28).map (·.size) = some (posC (afterZ (newZ z) (0) (tq) (dn) false)).length by rw [posC_len, hzf]; exact infoPos)
  have HSF := Lib.hid (show Tryd.zeroCells28.size = (posC (afterZ (newZ z) (0) (tq) (dn) false)).toArray.size from zeroPos_size.trans (by rw [List.size_toArray, posC_len, hzf]))
  obtain ⟨hdiv, hd1, hd2⟩ := to_side (newZ z) (0) (tq) (dn) false hpos hcan s tq hs2 hs rfl
  have hhl := hz_len (newZ z) hzc
  have HL := Lib.hid hhl
  have HIH := Lib.hid (show (Tryd.prog.info? 26).map (·.size) = some (posC (hz (newZ z))).length by rw [posC_len, hhl]; exact infoH16)
  have HSH := Lib.hid (show (#[.int .i8 0, .int .i8 0, .int .i8 0, .int .i8 0, .int .i8 0, .int .i8 0, .int .i8 0, .int .i8 0, .int .i8 0, .int .i8 0, .int .i8 0, .int .i8 0, .int .i8 0, .int .i8 0, .int .i8 0, .int .i8 0] : Array Value).size = (posC (hz (newZ z))).toArray.size from zeroHands_size.trans (by rw [List.size_toArray, posC_len, hhl]))
  have HRNG := Lib.hid (fun W b (h : PosAt W b (newZ z)) => hands_range h hzc)
  have HRNF := Lib.hid (fun W b (h : PosAt W b (afterZ (newZ z) (0) (tq) (dn) false)) => hands_range h hzf)
  have HZC := Lib.hid hzc
  have HSD := Lib.hid hs
  have HFF := Lib.hid (hz_drop (newZ z) s tq dn hzc hs2 hs htq ⟨d1, d7⟩)
  have hcell : at8 (hz (newZ z)) (s * 8 + dn) = at8 (newZ z) (81 + s * 8 + dn) := by rw [hz_at _ _ (by omega), show 81 + (s * 8 + dn) = 81 + s * 8 + dn by omega]
  have hn8 := h8c.at (81 + s * 8 + dn)
  have HLF := Lib.hid (show ((hz (newZ z)).set (s * 8 + dn) (at8 (newZ z) (81 + s * 8 + dn) + -1)).length = 16 by rw [List.length_set, hhl])
  have bd : ((dn : Int) != 0) = true := by simp; omega
  have hnn := hpos.hand (81 + s * 8 + dn) (by omega) (by omega)
  clear hH hz' h8
  clear hc hcan hpos hzc h8c hcc hzf hhl hs
  generalize afterZ (newZ z) 0 tq dn false = zf at *
  generalize at8 (newZ z) (81 + s * 8 + dn) = n at *
  generalize hz (newZ z) = h0 at *
  generalize newZ z = zc at *
  go_enter Tryd.func7, Tryd.ntmps7
  go_upto_region 1 with fail
  generalize (w.alloc (.cells (posC z).toArray 28)).alloc (.cells #[.int .i64 0, .int .i64 tq, .int .i64 dn, .bool false] 64) = w0 at *
  go_upto_region 4 with (first
    | (go_at_call 28; refine (MT.out _ (HH.out.grow R.out.2.2)).mono ?_; rintro e w1 ⟨rfl, hb⟩; have R := Lib.hid (R.out.grow hb); clear hb)
    | (refine wpList_load_mid rfl 28 _ rfl w.heap.size 0 rfl (posC z) _ R.out.1.range Tryd.underlying28 rfl HINF.out ?_)
    | (go_at_call 29; refine (CL.out _).mono ?_; rintro e w2 ⟨rfl, hb⟩; have R := Lib.hid (R.out.grow hb); clear hb)
    | (refine wpList_store_row rfl 28 _ _ rfl w.heap.size (posC zc).toArray rfl rfl 28 _ R.out.1 (by rw [List.size_toArray]; exact HINFC.out) HSC.out (posC_one zc) ?_))
  have R := Lib.hid (R.out.setRow (z' := zc))
  generalize w2.setRow w.heap.size (posC zc).toArray = w3 at *
  go_upto_region 7 with (first
    | (refine load_row_want (by rfl) 28 _ rfl w.heap.size rfl 28 _ _ _ R.out.1 Tryd.underlying28 rfl (by rw [List.size_toArray]; exact HINFC.out) ?_)
    | (refine wpList_load_mid rfl 28 _ rfl w.heap.size 0 rfl (posC zc) _ R.out.1.range Tryd.underlying28 rfl HINFC.out ?_)
    | (go_at_call 38; refine (CK.out _).mono ?_; rintro e w4 ⟨rfl, hb⟩; have R := Lib.hid (R.out.grow hb); clear hb; obtain ⟨m0, m1, m2, m3⟩ := mv_cells' R.out.2.1)
    | (go_at_call 39; refine (AF.out _).mono ?_; rintro e wa ⟨rfl, hb⟩; have R := Lib.hid (R.out.grow hb); clear hb m0 m1 m2 m3; obtain ⟨m0, m1, m2, m3⟩ := mv_cells' R.out.2.1)
    | (refine wpList_store_row rfl 28 _ _ rfl wa.heap.size (posC zf).toArray rfl rfl 28 Tryd.zeroCells28 (heap_alloc_new wa _) (by rw [List.size_toArray]; exact HINFF.out) HSF.out (posC_one zf) ?_)
    | fail)
  have P7 := Lib.hid (fresh_pos wa zf)
  have FB := Lib.hid (fresh_below wa (.cells Tryd.zeroCells28 28) (posC zf).toArray)
  have R := Lib.hid (R.out.grow FB.out)
  have Z7 := Lib.hid (lt_of_row' P7.out)
  have Y7 := Lib.hid (Nat.lt_of_lt_of_le (lt_of_row' R.out.2.1) (Nat.le_refl _))
  generalize ha7 : wa.heap.size = a7 at *
  generalize (wa.alloc (.cells Tryd.zeroCells28 28)).setRow a7 (posC zf).toArray = wb at *
  clear ha7 m0 m1 m2 m3 FB
  have c97 := R.out.1.cell 97 (by rw [HZC.out]; omega)
  rw [HSD.out] at c97
  obtain ⟨m0, m1, m2, m3⟩ := mv_cells' R.out.2.1
  go_upto_region 11 with (first
    | (refine wpList_load_mid rfl 26 _ rfl w.heap.size 81 rfl (posC h0) _ (HRNG.out _ _ R.out.1) Tryd.underlying26 rfl HIH.out ?_)
    | (refine wpList_store_row rfl 26 _ _ rfl wb.heap.size (posC h0).toArray rfl rfl 26 #[.int .i8 0, .int .i8 0, .int .i8 0, .int .i8 0, .int .i8 0, .int .i8 0, .int .i8 0, .int .i8 0, .int .i8 0, .int .i8 0, .int .i8 0, .int .i8 0, .int .i8 0, .int .i8 0, .int .i8 0, .int .i8 0] (heap_alloc_new wb _) (by rw [List.size_toArray]; exact HIH.out) HSH.out (posC_one h0) ?_)
    | fail)
  have K7 := Lib.hid (show HandAt ((wb.alloc (.cells #[.int .i8 0, .int .i8 0, .int .i8 0, .int .i8 0, .int .i8 0, .int .i8 0, .int .i8 0, .int .i8 0, .int .i8 0, .int .i8 0, .int .i8 0, .int .i8 0, .int .i8 0, .int .i8 0, .int .i8 0, .int .i8 0] 26)).setRow wb.heap.size (posC h0).toArray) wb.heap.size h0 from setRow_heap _ _ _ _ _ _ (heap_alloc_new wb _))
  have FB := Lib.hid (below_row (ball (bref wb) (.cells #[.int .i8 0, .int .i8 0, .int .i8 0, .int .i8 0, .int .i8 0, .int .i8 0, .int .i8 0, .int .i8 0, .int .i8 0, .int .i8 0, .int .i8 0, .int .i8 0, .int .i8 0, .int .i8 0, .int .i8 0, .int .i8 0] 26)) (Nat.le_refl _) (posC h0).toArray)
  have R := Lib.hid (R.out.grow FB.out)
  have P7 := Lib.hid (P7.out.grow FB.out)
  have ZZ := Lib.hid (show w.heap.size + 1 < wb.heap.size ∧ a7 < wb.heap.size from ⟨Y7.out, Z7.out⟩)
  generalize ha8 : wb.heap.size = a8 at *
  generalize (wb.alloc (.cells #[.int .i8 0, .int .i8 0, .int .i8 0, .int .i8 0, .int .i8 0, .int .i8 0, .int .i8 0, .int .i8 0, .int .i8 0, .int .i8 0, .int .i8 0, .int .i8 0, .int .i8 0, .int .i8 0, .int .i8 0, .int .i8 0] 26)).setRow a8 (posC h0).toArray = wd at *
  clear ha8 m0 m1 m2 m3 FB c97
  obtain ⟨m0, m1, m2, m3⟩ := mv_cells' R.out.2.1
  have ch := K7.out.cell (s * 8 + dn) (by rw [HL.out]; omega)
  have chf := K7.out.frozen (s * 8 + dn)
  rw [hcell] at ch
  have hn1 : n - 1 = n + -1 := by omega
  go_wp2_with fail
  go_region
  have YY := Lib.hid (show w.heap.size ≠ a8 ∧ w.heap.size + 1 ≠ a8 ∧ a7 ≠ a8 by (have := ZZ.out; omega))
  have K8 := Lib.hid (K7.out.set (s * 8 + dn) (n + -1)).drew
  have P8 := Lib.hid (P7.out.other YY.out.2.2 (s * 8 + dn) (.int .i8 (n + -1))).drew
  have M8 := Lib.hid (show (wd.setCell ⟨a8, s * 8 + dn, none⟩ (.int .i8 (n + -1))).drew.heap[w.heap.size + 1]? = some (.cells #[.int .i64 0, .int .i64 tq, .int .i64 dn, .bool false] 64) from (heap_setCell_other wd _ (w.heap.size + 1) _ YY.out.2.1).trans R.out.2.1)
  have B8 := Lib.hid ((R.out.2.2.setCell (p := ⟨a8, s * 8 + dn, none⟩) (by (have := ZZ.out; simp only; omega)) (.int .i8 (n + -1))).drew)
  clear ch chf m0 m1 m2 m3
  generalize (wd.setCell ⟨a8, s * 8 + dn, none⟩ (.int .i8 (n + -1))).drew = we at *
  obtain ⟨m0, m1, m2, m3⟩ := mv_cells' M8.out
  have cto := P8.out.cell tq (by rw [HZF.out]; omega)
  have HRF := Lib.hid (HRNF.out _ _ P8.out)
  rw [HFF.out] at HRF
  have HIG := Lib.hid (show (Tryd.prog.info? 26).map (·.size) = some (posC (h0.set (s * 8 + dn) (n + -1))).length by rw [posC_len, HLF.out]; exact infoH16)
  have EQ := hands_self (h0.set (s * 8 + dn) (n + -1)) HLF.out
  generalize (h0.set (s * 8 + dn) (n + -1)) = hf at *
  generalize hyt : at8 zf tq = yt at *
  clear hyt
  go_wp2_with (first
    | (refine wpList_load_mid rfl 26 _ rfl a7 81 rfl (posC hf) _ HRF.out Tryd.underlying26 rfl HIG.out ?_)
    | (refine load_row_want (by rfl) 26 _ rfl a8 rfl 26 _ _ _ K8.out Tryd.underlying26 rfl (by rw [List.size_toArray]; exact HIG.out) ?_)
    | fail)
  go_ret
  exact ⟨by simp_all, B8.out⟩

set_option maxRecDepth 100000 in
set_option maxHeartbeats 8000000 in
theorem walk_free (z : List Int) (fq tq s : Nat) (p : Bool) (hz' : z.length = 98) (h8 : I8s z) (hc : checkF (newZ z) = 0) (hcan : canF (newZ z) fq tq 0 p = true) (hs2 : s < 2) (hs : at8 (newZ z) 97 = s) (hfq : fq < 81) (htq : tq < 81) (hft : fq ≠ tq) (hx : at8 (newZ z) tq = 0) (w : World) (hH : Home w) :
    Calls Tryd.prog 7 #[.agg (posC z).toArray, .agg #[.int .i64 fq, .int .i64 tq, .int .i64 0, .bool p]] w fun e w' => e = .returned (.bool true) ∧ Below w.heap.size w w' := by
  have R := Lib.hid (RB.start w z #[.int .i64 fq, .int .i64 tq, .int .i64 0, .bool p])
  have MT := Lib.hid (fun W (hH : Home W) => makes_true W hH)
  have CL := Lib.hid (fun W => clean_any z hz' h8 W)
  have hzc := newZ_len z hz'
  have h8c := newZ_8 z h8
  have hcc := newZ_clean z hz'
  have CK := Lib.hid (fun W => refCheck_any (newZ z) hzc h8c W)
  have HINF := Lib.hid (show (Tryd.prog.info? 28).map (·.size) = some (posC z).length by rw [posC_len, hz']; exact infoPos)
  have HINFC := Lib.hid (show (Tryd.prog.info? 28).map (·.size) = some (posC (newZ z)).length by rw [posC_len, hzc]; exact infoPos)
  have HSC := Lib.hid (show (posC z).toArray.size = (posC (newZ z)).toArray.size by rw [List.size_toArray, List.size_toArray, posC_len, posC_len, hz', hzc])
  have HH := Lib.hid hH
  rw [hc] at CK
  have hpos : PosOk (newZ z) 126 := ⟨hzc, h8c, hcc, fun j a b => ⟨(chk_hands (newZ z) h8c hc j a b).1, Int.le_trans (chk_hands (newZ z) h8c hc j a b).2 (by decide)⟩⟩
  have AF := Lib.hid (fun W => after_yes (newZ z) (fq) (tq) (0) p hzc h8c hcc hpos.hand hcan W)
  have hzf := afterZ_len (newZ z) (fq) (tq) (0) p hzc
  have HZF := Lib.hid hzf
  have HINFF := Lib.hid (show (Tryd.prog.info? 28).map (·.size) = some (posC (afterZ (newZ z) (fq) (tq) (0) p)).length by rw [posC_len, hzf]; exact infoPos)
  have HSF := Lib.hid (show Tryd.zeroCells28.size = (posC (afterZ (newZ z) (fq) (tq) (0) p)).toArray.size from zeroPos_size.trans (by rw [List.size_toArray, posC_len, hzf]))
  obtain ⟨hdiv, hd1, hd2⟩ := to_side (newZ z) (fq) (tq) (0) p hpos hcan s tq hs2 hs rfl
  have hhl := hz_len (newZ z) hzc
  have HL := Lib.hid hhl
  have HIH := Lib.hid (show (Tryd.prog.info? 26).map (·.size) = some (posC (hz (newZ z))).length by rw [posC_len, hhl]; exact infoH16)
  have HSH := Lib.hid (show (#[.int .i8 0, .int .i8 0, .int .i8 0, .int .i8 0, .int .i8 0, .int .i8 0, .int .i8 0, .int .i8 0, .int .i8 0, .int .i8 0, .int .i8 0, .int .i8 0, .int .i8 0, .int .i8 0, .int .i8 0, .int .i8 0] : Array Value).size = (posC (hz (newZ z))).toArray.size from zeroHands_size.trans (by rw [List.size_toArray, posC_len, hhl]))
  have HRNG := Lib.hid (fun W b (h : PosAt W b (newZ z)) => hands_range h hzc)
  have HRNF := Lib.hid (fun W b (h : PosAt W b (afterZ (newZ z) (fq) (tq) (0) p)) => hands_range h hzf)
  have HZC := Lib.hid hzc
  have HSD := Lib.hid hs
  have hHFF := hz_walk (newZ z) s fq tq 0 p hzc hs2 hs hfq htq hft (by rw [hx]; decide) (by decide)
  rw [if_pos rfl] at hHFF
  have HFF := Lib.hid hHFF
  clear hHFF
  have HLF := HL
  have HXX := Lib.hid hx
  clear hx
  clear hH hz' h8
  clear hc hcan hpos hzc h8c hcc hzf hhl hs
  generalize afterZ (newZ z) fq tq 0 p = zf at *
  generalize hz (newZ z) = h0 at *
  generalize newZ z = zc at *
  go_enter Tryd.func7, Tryd.ntmps7
  go_upto_region 1 with fail
  generalize (w.alloc (.cells (posC z).toArray 28)).alloc (.cells #[.int .i64 fq, .int .i64 tq, .int .i64 0, .bool p] 64) = w0 at *
  go_upto_region 4 with (first
    | (go_at_call 28; refine (MT.out _ (HH.out.grow R.out.2.2)).mono ?_; rintro e w1 ⟨rfl, hb⟩; have R := Lib.hid (R.out.grow hb); clear hb)
    | (refine wpList_load_mid rfl 28 _ rfl w.heap.size 0 rfl (posC z) _ R.out.1.range Tryd.underlying28 rfl HINF.out ?_)
    | (go_at_call 29; refine (CL.out _).mono ?_; rintro e w2 ⟨rfl, hb⟩; have R := Lib.hid (R.out.grow hb); clear hb)
    | (refine wpList_store_row rfl 28 _ _ rfl w.heap.size (posC zc).toArray rfl rfl 28 _ R.out.1 (by rw [List.size_toArray]; exact HINFC.out) HSC.out (posC_one zc) ?_))
  have R := Lib.hid (R.out.setRow (z' := zc))
  generalize w2.setRow w.heap.size (posC zc).toArray = w3 at *
  go_upto_region 7 with (first
    | (refine load_row_want (by rfl) 28 _ rfl w.heap.size rfl 28 _ _ _ R.out.1 Tryd.underlying28 rfl (by rw [List.size_toArray]; exact HINFC.out) ?_)
    | (refine wpList_load_mid rfl 28 _ rfl w.heap.size 0 rfl (posC zc) _ R.out.1.range Tryd.underlying28 rfl HINFC.out ?_)
    | (go_at_call 38; refine (CK.out _).mono ?_; rintro e w4 ⟨rfl, hb⟩; have R := Lib.hid (R.out.grow hb); clear hb; obtain ⟨m0, m1, m2, m3⟩ := mv_cells' R.out.2.1)
    | (go_at_call 39; refine (AF.out _).mono ?_; rintro e wa ⟨rfl, hb⟩; have R := Lib.hid (R.out.grow hb); clear hb m0 m1 m2 m3; obtain ⟨m0, m1, m2, m3⟩ := mv_cells' R.out.2.1)
    | (refine wpList_store_row rfl 28 _ _ rfl wa.heap.size (posC zf).toArray rfl rfl 28 Tryd.zeroCells28 (heap_alloc_new wa _) (by rw [List.size_toArray]; exact HINFF.out) HSF.out (posC_one zf) ?_)
    | fail)
  have P7 := Lib.hid (fresh_pos wa zf)
  have FB := Lib.hid (fresh_below wa (.cells Tryd.zeroCells28 28) (posC zf).toArray)
  have R := Lib.hid (R.out.grow FB.out)
  have Z7 := Lib.hid (lt_of_row' P7.out)
  have Y7 := Lib.hid (Nat.lt_of_lt_of_le (lt_of_row' R.out.2.1) (Nat.le_refl _))
  generalize ha7 : wa.heap.size = a7 at *
  generalize (wa.alloc (.cells Tryd.zeroCells28 28)).setRow a7 (posC zf).toArray = wb at *
  clear ha7 m0 m1 m2 m3 FB
  have c97 := R.out.1.cell 97 (by rw [HZC.out]; omega)
  rw [HSD.out] at c97
  obtain ⟨m0, m1, m2, m3⟩ := mv_cells' R.out.2.1
  go_upto_region 11 with (first
    | (refine wpList_load_mid rfl 26 _ rfl w.heap.size 81 rfl (posC h0) _ (HRNG.out _ _ R.out.1) Tryd.underlying26 rfl HIH.out ?_)
    | (refine wpList_store_row rfl 26 _ _ rfl wb.heap.size (posC h0).toArray rfl rfl 26 #[.int .i8 0, .int .i8 0, .int .i8 0, .int .i8 0, .int .i8 0, .int .i8 0, .int .i8 0, .int .i8 0, .int .i8 0, .int .i8 0, .int .i8 0, .int .i8 0, .int .i8 0, .int .i8 0, .int .i8 0, .int .i8 0] (heap_alloc_new wb _) (by rw [List.size_toArray]; exact HIH.out) HSH.out (posC_one h0) ?_)
    | fail)
  have K7 := Lib.hid (show HandAt ((wb.alloc (.cells #[.int .i8 0, .int .i8 0, .int .i8 0, .int .i8 0, .int .i8 0, .int .i8 0, .int .i8 0, .int .i8 0, .int .i8 0, .int .i8 0, .int .i8 0, .int .i8 0, .int .i8 0, .int .i8 0, .int .i8 0, .int .i8 0] 26)).setRow wb.heap.size (posC h0).toArray) wb.heap.size h0 from setRow_heap _ _ _ _ _ _ (heap_alloc_new wb _))
  have FB := Lib.hid (below_row (ball (bref wb) (.cells #[.int .i8 0, .int .i8 0, .int .i8 0, .int .i8 0, .int .i8 0, .int .i8 0, .int .i8 0, .int .i8 0, .int .i8 0, .int .i8 0, .int .i8 0, .int .i8 0, .int .i8 0, .int .i8 0, .int .i8 0, .int .i8 0] 26)) (Nat.le_refl _) (posC h0).toArray)
  have R := Lib.hid (R.out.grow FB.out)
  have P7 := Lib.hid (P7.out.grow FB.out)
  have ZZ := Lib.hid (show w.heap.size + 1 < wb.heap.size ∧ a7 < wb.heap.size from ⟨Y7.out, Z7.out⟩)
  generalize ha8 : wb.heap.size = a8 at *
  generalize (wb.alloc (.cells #[.int .i8 0, .int .i8 0, .int .i8 0, .int .i8 0, .int .i8 0, .int .i8 0, .int .i8 0, .int .i8 0, .int .i8 0, .int .i8 0, .int .i8 0, .int .i8 0, .int .i8 0, .int .i8 0, .int .i8 0, .int .i8 0] 26)).setRow a8 (posC h0).toArray = wd at *
  clear ha8 m0 m1 m2 m3 FB c97
  obtain ⟨m0, m1, m2, m3⟩ := mv_cells' R.out.2.1
  have cx := R.out.1.cell tq (by rw [HZC.out]; omega)
  rw [HXX.out] at cx
  have K8 := K7
  have P8 := P7
  have B8 := Lib.hid R.out.2.2
  generalize wd = we at *
  have cto := P8.out.cell tq (by rw [HZF.out]; omega)
  have HRF := Lib.hid (HRNF.out _ _ P8.out)
  rw [HFF.out] at HRF
  have HIG := Lib.hid (show (Tryd.prog.info? 26).map (·.size) = some (posC h0).length by rw [posC_len, HLF.out]; exact infoH16)
  have EQ := hands_self h0 HLF.out
  generalize h0 = hf at *
  generalize hyt : at8 zf tq = yt at *
  clear hyt
  go_wp2_with (first
    | (refine wpList_load_mid rfl 26 _ rfl a7 81 rfl (posC hf) _ HRF.out Tryd.underlying26 rfl HIG.out ?_)
    | (refine load_row_want (by rfl) 26 _ rfl a8 rfl 26 _ _ _ K8.out Tryd.underlying26 rfl (by rw [List.size_toArray]; exact HIG.out) ?_)
    | fail)
  go_ret
  exact ⟨by simp_all, B8.out⟩

set_option maxRecDepth 100000 in
set_option maxHeartbeats 8000000 in
theorem walk_small (z : List Int) (fq tq s k : Nat) (p : Bool) (x : Int) (hz' : z.length = 98) (h8 : I8s z) (hc : checkF (newZ z) = 0) (hcan : canF (newZ z) fq tq 0 p = true) (hs2 : s < 2) (hs : at8 (newZ z) 97 = s) (hfq : fq < 81) (htq : tq < 81) (hft : fq ≠ tq) (hx : at8 (newZ z) tq = x) (hx0 : 1 ≤ x) (hk : rawF (kindF (at8 (newZ z) tq)) = k) (hk1 : 1 ≤ k) (hk7 : k ≤ 7) (hm : Int.tmod x 16 = k) (w : World) (hH : Home w) :
    Calls Tryd.prog 7 #[.agg (posC z).toArray, .agg #[.int .i64 fq, .int .i64 tq, .int .i64 0, .bool p]] w fun e w' => e = .returned (.bool true) ∧ Below w.heap.size w w' := by
  have R := Lib.hid (RB.start w z #[.int .i64 fq, .int .i64 tq, .int .i64 0, .bool p])
  have MT := Lib.hid (fun W (hH : Home W) => makes_true W hH)
  have CL := Lib.hid (fun W => clean_any z hz' h8 W)
  have hzc := newZ_len z hz'
  have h8c := newZ_8 z h8
  have hcc := newZ_clean z hz'
  have CK := Lib.hid (fun W => refCheck_any (newZ z) hzc h8c W)
  have HINF := Lib.hid (show (Tryd.prog.info? 28).map (·.size) = some (posC z).length by rw [posC_len, hz']; exact infoPos)
  have HINFC := Lib.hid (show (Tryd.prog.info? 28).map (·.size) = some (posC (newZ z)).length by rw [posC_len, hzc]; exact infoPos)
  have HSC := Lib.hid (show (posC z).toArray.size = (posC (newZ z)).toArray.size by rw [List.size_toArray, List.size_toArray, posC_len, posC_len, hz', hzc])
  have HH := Lib.hid hH
  rw [hc] at CK
  have hpos : PosOk (newZ z) 126 := ⟨hzc, h8c, hcc, fun j a b => ⟨(chk_hands (newZ z) h8c hc j a b).1, Int.le_trans (chk_hands (newZ z) h8c hc j a b).2 (by decide)⟩⟩
  have AF := Lib.hid (fun W => after_yes (newZ z) (fq) (tq) (0) p hzc h8c hcc hpos.hand hcan W)
  have hzf := afterZ_len (newZ z) (fq) (tq) (0) p hzc
  have HZF := Lib.hid hzf
  have HINFF := Lib.hid (show (Tryd.prog.info? 28).map (·.size) = some (posC (afterZ (newZ z) (fq) (tq) (0) p)).length by rw [posC_len, hzf]; exact infoPos)
  have HSF := Lib.hid (show Tryd.zeroCells28.size = (posC (afterZ (newZ z) (fq) (tq) (0) p)).toArray.size from zeroPos_size.trans (by rw [List.size_toArray, posC_len, hzf]))
  obtain ⟨hdiv, hd1, hd2⟩ := to_side (newZ z) (fq) (tq) (0) p hpos hcan s tq hs2 hs rfl
  have hhl := hz_len (newZ z) hzc
  have HL := Lib.hid hhl
  have HIH := Lib.hid (show (Tryd.prog.info? 26).map (·.size) = some (posC (hz (newZ z))).length by rw [posC_len, hhl]; exact infoH16)
  have HSH := Lib.hid (show (#[.int .i8 0, .int .i8 0, .int .i8 0, .int .i8 0, .int .i8 0, .int .i8 0, .int .i8 0, .int .i8 0, .int .i8 0, .int .i8 0, .int .i8 0, .int .i8 0, .int .i8 0, .int .i8 0, .int .i8 0, .int .i8 0] : Array Value).size = (posC (hz (newZ z))).toArray.size from zeroHands_size.trans (by rw [List.size_toArray, posC_len, hhl]))
  have HRNG := Lib.hid (fun W b (h : PosAt W b (newZ z)) => hands_range h hzc)
  have HRNF := Lib.hid (fun W b (h : PosAt W b (afterZ (newZ z) (fq) (tq) (0) p)) => hands_range h hzf)
  have HZC := Lib.hid hzc
  have HSD := Lib.hid hs
  have hHFF := hz_walk (newZ z) s fq tq k p hzc hs2 hs hfq htq hft hk hk7
  rw [if_neg (by omega)] at hHFF
  have HFF := Lib.hid hHFF
  clear hHFF
  have hcell : at8 (hz (newZ z)) (s * 8 + k) = at8 (newZ z) (81 + s * 8 + k) := by rw [hz_at _ _ (by omega), show 81 + (s * 8 + k) = 81 + s * 8 + k by omega]
  have hn8 := h8c.at (81 + s * 8 + k)
  have HLF := Lib.hid (show ((hz (newZ z)).set (s * 8 + k) (at8 (newZ z) (81 + s * 8 + k) + 1)).length = 16 by rw [List.length_set, hhl])
  have hnn := hpos.hand (81 + s * 8 + k) (by omega) (by omega)
  have HXX := Lib.hid hx
  have hxb := h8c.at tq
  rw [hx] at hxb
  have bx : (x != 0) = true := by simp; omega
  clear hx hk
  clear hH hz' h8
  clear hc hcan hpos hzc h8c hcc hzf hhl hs
  generalize afterZ (newZ z) fq tq 0 p = zf at *
  generalize at8 (newZ z) (81 + s * 8 + k) = n at *
  generalize hz (newZ z) = h0 at *
  generalize newZ z = zc at *
  go_enter Tryd.func7, Tryd.ntmps7
  go_upto_region 1 with fail
  generalize (w.alloc (.cells (posC z).toArray 28)).alloc (.cells #[.int .i64 fq, .int .i64 tq, .int .i64 0, .bool p] 64) = w0 at *
  go_upto_region 4 with (first
    | (go_at_call 28; refine (MT.out _ (HH.out.grow R.out.2.2)).mono ?_; rintro e w1 ⟨rfl, hb⟩; have R := Lib.hid (R.out.grow hb); clear hb)
    | (refine wpList_load_mid rfl 28 _ rfl w.heap.size 0 rfl (posC z) _ R.out.1.range Tryd.underlying28 rfl HINF.out ?_)
    | (go_at_call 29; refine (CL.out _).mono ?_; rintro e w2 ⟨rfl, hb⟩; have R := Lib.hid (R.out.grow hb); clear hb)
    | (refine wpList_store_row rfl 28 _ _ rfl w.heap.size (posC zc).toArray rfl rfl 28 _ R.out.1 (by rw [List.size_toArray]; exact HINFC.out) HSC.out (posC_one zc) ?_))
  have R := Lib.hid (R.out.setRow (z' := zc))
  generalize w2.setRow w.heap.size (posC zc).toArray = w3 at *
  go_upto_region 7 with (first
    | (refine load_row_want (by rfl) 28 _ rfl w.heap.size rfl 28 _ _ _ R.out.1 Tryd.underlying28 rfl (by rw [List.size_toArray]; exact HINFC.out) ?_)
    | (refine wpList_load_mid rfl 28 _ rfl w.heap.size 0 rfl (posC zc) _ R.out.1.range Tryd.underlying28 rfl HINFC.out ?_)
    | (go_at_call 38; refine (CK.out _).mono ?_; rintro e w4 ⟨rfl, hb⟩; have R := Lib.hid (R.out.grow hb); clear hb; obtain ⟨m0, m1, m2, m3⟩ := mv_cells' R.out.2.1)
    | (go_at_call 39; refine (AF.out _).mono ?_; rintro e wa ⟨rfl, hb⟩; have R := Lib.hid (R.out.grow hb); clear hb m0 m1 m2 m3; obtain ⟨m0, m1, m2, m3⟩ := mv_cells' R.out.2.1)
    | (refine wpList_store_row rfl 28 _ _ rfl wa.heap.size (posC zf).toArray rfl rfl 28 Tryd.zeroCells28 (heap_alloc_new wa _) (by rw [List.size_toArray]; exact HINFF.out) HSF.out (posC_one zf) ?_)
    | fail)
  have P7 := Lib.hid (fresh_pos wa zf)
  have FB := Lib.hid (fresh_below wa (.cells Tryd.zeroCells28 28) (posC zf).toArray)
  have R := Lib.hid (R.out.grow FB.out)
  have Z7 := Lib.hid (lt_of_row' P7.out)
  have Y7 := Lib.hid (Nat.lt_of_lt_of_le (lt_of_row' R.out.2.1) (Nat.le_refl _))
  generalize ha7 : wa.heap.size = a7 at *
  generalize (wa.alloc (.cells Tryd.zeroCells28 28)).setRow a7 (posC zf).toArray = wb at *
  clear ha7 m0 m1 m2 m3 FB
  have c97 := R.out.1.cell 97 (by rw [HZC.out]; omega)
  rw [HSD.out] at c97
  obtain ⟨m0, m1, m2, m3⟩ := mv_cells' R.out.2.1
  go_upto_region 11 with (first
    | (refine wpList_load_mid rfl 26 _ rfl w.heap.size 81 rfl (posC h0) _ (HRNG.out _ _ R.out.1) Tryd.underlying26 rfl HIH.out ?_)
    | (refine wpList_store_row rfl 26 _ _ rfl wb.heap.size (posC h0).toArray rfl rfl 26 #[.int .i8 0, .int .i8 0, .int .i8 0, .int .i8 0, .int .i8 0, .int .i8 0, .int .i8 0, .int .i8 0, .int .i8 0, .int .i8 0, .int .i8 0, .int .i8 0, .int .i8 0, .int .i8 0, .int .i8 0, .int .i8 0] (heap_alloc_new wb _) (by rw [List.size_toArray]; exact HIH.out) HSH.out (posC_one h0) ?_)
    | fail)
  have K7 := Lib.hid (show HandAt ((wb.alloc (.cells #[.int .i8 0, .int .i8 0, .int .i8 0, .int .i8 0, .int .i8 0, .int .i8 0, .int .i8 0, .int .i8 0, .int .i8 0, .int .i8 0, .int .i8 0, .int .i8 0, .int .i8 0, .int .i8 0, .int .i8 0, .int .i8 0] 26)).setRow wb.heap.size (posC h0).toArray) wb.heap.size h0 from setRow_heap _ _ _ _ _ _ (heap_alloc_new wb _))
  have FB := Lib.hid (below_row (ball (bref wb) (.cells #[.int .i8 0, .int .i8 0, .int .i8 0, .int .i8 0, .int .i8 0, .int .i8 0, .int .i8 0, .int .i8 0, .int .i8 0, .int .i8 0, .int .i8 0, .int .i8 0, .int .i8 0, .int .i8 0, .int .i8 0, .int .i8 0] 26)) (Nat.le_refl _) (posC h0).toArray)
  have R := Lib.hid (R.out.grow FB.out)
  have P7 := Lib.hid (P7.out.grow FB.out)
  have ZZ := Lib.hid (show w.heap.size + 1 < wb.heap.size ∧ a7 < wb.heap.size from ⟨Y7.out, Z7.out⟩)
  generalize ha8 : wb.heap.size = a8 at *
  generalize (wb.alloc (.cells #[.int .i8 0, .int .i8 0, .int .i8 0, .int .i8 0, .int .i8 0, .int .i8 0, .int .i8 0, .int .i8 0, .int .i8 0, .int .i8 0, .int .i8 0, .int .i8 0, .int .i8 0, .int .i8 0, .int .i8 0, .int .i8 0] 26)).setRow a8 (posC h0).toArray = wd at *
  clear ha8 m0 m1 m2 m3 FB c97
  obtain ⟨m0, m1, m2, m3⟩ := mv_cells' R.out.2.1
  have cx := R.out.1.cell tq (by rw [HZC.out]; omega)
  rw [HXX.out] at cx
  have ch := K7.out.cell (s * 8 + k) (by rw [HL.out]; omega)
  have chf := K7.out.frozen (s * 8 + k)
  rw [hcell] at ch
  have hgt : ¬ (8 < (k : Int)) := by omega
  go_wp2_with fail
  go_region
  have YY := Lib.hid (show w.heap.size ≠ a8 ∧ w.heap.size + 1 ≠ a8 ∧ a7 ≠ a8 by (have := ZZ.out; omega))
  have K8 := Lib.hid (K7.out.set (s * 8 + k) (n + 1)).drew
  have P8 := Lib.hid (P7.out.other YY.out.2.2 (s * 8 + k) (.int .i8 (n + 1))).drew
  have M8 := Lib.hid (show (wd.setCell ⟨a8, s * 8 + k, none⟩ (.int .i8 (n + 1))).drew.heap[w.heap.size + 1]? = some (.cells #[.int .i64 fq, .int .i64 tq, .int .i64 0, .bool p] 64) from (heap_setCell_other wd _ (w.heap.size + 1) _ YY.out.2.1).trans R.out.2.1)
  have B8 := Lib.hid ((R.out.2.2.setCell (p := ⟨a8, s * 8 + k, none⟩) (by (have := ZZ.out; simp only; omega)) (.int .i8 (n + 1))).drew)
  clear ch chf m0 m1 m2 m3
  generalize (wd.setCell ⟨a8, s * 8 + k, none⟩ (.int .i8 (n + 1))).drew = we at *
  obtain ⟨m0, m1, m2, m3⟩ := mv_cells' M8.out
  have cto := P8.out.cell tq (by rw [HZF.out]; omega)
  have HRF := Lib.hid (HRNF.out _ _ P8.out)
  rw [HFF.out] at HRF
  have HIG := Lib.hid (show (Tryd.prog.info? 26).map (·.size) = some (posC (h0.set (s * 8 + k) (n + 1))).length by rw [posC_len, HLF.out]; exact infoH16)
  have EQ := hands_self (h0.set (s * 8 + k) (n + 1)) HLF.out
  generalize (h0.set (s * 8 + k) (n + 1)) = hf at *
  generalize hyt : at8 zf tq = yt at *
  clear hyt
  go_wp2_with (first
    | (refine wpList_load_mid rfl 26 _ rfl a7 81 rfl (posC hf) _ HRF.out Tryd.underlying26 rfl HIG.out ?_)
    | (refine load_row_want (by rfl) 26 _ rfl a8 rfl 26 _ _ _ K8.out Tryd.underlying26 rfl (by rw [List.size_toArray]; exact HIG.out) ?_)
    | fail)
  go_ret
  exact ⟨by simp_all, B8.out⟩

set_option maxRecDepth 100000 in
set_option maxHeartbeats 8000000 in
theorem walk_great (z : List Int) (fq tq s k : Nat) (p : Bool) (x : Int) (hz' : z.length = 98) (h8 : I8s z) (hc : checkF (newZ z) = 0) (hcan : canF (newZ z) fq tq 0 p = true) (hs2 : s < 2) (hs : at8 (newZ z) 97 = s) (hfq : fq < 81) (htq : tq < 81) (hft : fq ≠ tq) (hx : at8 (newZ z) tq = x) (hx0 : 1 ≤ x) (hk : rawF (kindF (at8 (newZ z) tq)) = k) (hk1 : 1 ≤ k) (hk7 : k ≤ 7) (hm : Int.tmod x 16 = (k : Int) + 8) (w : World) (hH : Home w) :
    Calls Tryd.prog 7 #[.agg (posC z).toArray, .agg #[.int .i64 fq, .int .i64 tq, .int .i64 0, .bool p]] w fun e w' => e = .returned (.bool true) ∧ Below w.heap.size w w' := by
  have R := Lib.hid (RB.start w z #[.int .i64 fq, .int .i64 tq, .int .i64 0, .bool p])
  have MT := Lib.hid (fun W (hH : Home W) => makes_true W hH)
  have CL := Lib.hid (fun W => clean_any z hz' h8 W)
  have hzc := newZ_len z hz'
  have h8c := newZ_8 z h8
  have hcc := newZ_clean z hz'
  have CK := Lib.hid (fun W => refCheck_any (newZ z) hzc h8c W)
  have HINF := Lib.hid (show (Tryd.prog.info? 28).map (·.size) = some (posC z).length by rw [posC_len, hz']; exact infoPos)
  have HINFC := Lib.hid (show (Tryd.prog.info? 28).map (·.size) = some (posC (newZ z)).length by rw [posC_len, hzc]; exact infoPos)
  have HSC := Lib.hid (show (posC z).toArray.size = (posC (newZ z)).toArray.size by rw [List.size_toArray, List.size_toArray, posC_len, posC_len, hz', hzc])
  have HH := Lib.hid hH
  rw [hc] at CK
  have hpos : PosOk (newZ z) 126 := ⟨hzc, h8c, hcc, fun j a b => ⟨(chk_hands (newZ z) h8c hc j a b).1, Int.le_trans (chk_hands (newZ z) h8c hc j a b).2 (by decide)⟩⟩
  have AF := Lib.hid (fun W => after_yes (newZ z) (fq) (tq) (0) p hzc h8c hcc hpos.hand hcan W)
  have hzf := afterZ_len (newZ z) (fq) (tq) (0) p hzc
  have HZF := Lib.hid hzf
  have HINFF := Lib.hid (show (Tryd.prog.info? 28).map (·.size) = some (posC (afterZ (newZ z) (fq) (tq) (0) p)).length by rw [posC_len, hzf]; exact infoPos)
  have HSF := Lib.hid (show Tryd.zeroCells28.size = (posC (afterZ (newZ z) (fq) (tq) (0) p)).toArray.size from zeroPos_size.trans (by rw [List.size_toArray, posC_len, hzf]))
  obtain ⟨hdiv, hd1, hd2⟩ := to_side (newZ z) (fq) (tq) (0) p hpos hcan s tq hs2 hs rfl
  have hhl := hz_len (newZ z) hzc
  have HL := Lib.hid hhl
  have HIH := Lib.hid (show (Tryd.prog.info? 26).map (·.size) = some (posC (hz (newZ z))).length by rw [posC_len, hhl]; exact infoH16)
  have HSH := Lib.hid (show (#[.int .i8 0, .int .i8 0, .int .i8 0, .int .i8 0, .int .i8 0, .int .i8 0, .int .i8 0, .int .i8 0, .int .i8 0, .int .i8 0, .int .i8 0, .int .i8 0, .int .i8 0, .int .i8 0, .int .i8 0, .int .i8 0] : Array Value).size = (posC (hz (newZ z))).toArray.size from zeroHands_size.trans (by rw [List.size_toArray, posC_len, hhl]))
  have HRNG := Lib.hid (fun W b (h : PosAt W b (newZ z)) => hands_range h hzc)
  have HRNF := Lib.hid (fun W b (h : PosAt W b (afterZ (newZ z) (fq) (tq) (0) p)) => hands_range h hzf)
  have HZC := Lib.hid hzc
  have HSD := Lib.hid hs
  have hHFF := hz_walk (newZ z) s fq tq k p hzc hs2 hs hfq htq hft hk hk7
  rw [if_neg (by omega)] at hHFF
  have HFF := Lib.hid hHFF
  clear hHFF
  have hcell : at8 (hz (newZ z)) (s * 8 + k) = at8 (newZ z) (81 + s * 8 + k) := by rw [hz_at _ _ (by omega), show 81 + (s * 8 + k) = 81 + s * 8 + k by omega]
  have hn8 := h8c.at (81 + s * 8 + k)
  have HLF := Lib.hid (show ((hz (newZ z)).set (s * 8 + k) (at8 (newZ z) (81 + s * 8 + k) + 1)).length = 16 by rw [List.length_set, hhl])
  have hnn := hpos.hand (81 + s * 8 + k) (by omega) (by omega)
  have HXX := Lib.hid hx
  have hxb := h8c.at tq
  rw [hx] at hxb
  have bx : (x != 0) = true := by simp; omega
  clear hx hk
  clear hH hz' h8
  clear hc hcan hpos hzc h8c hcc hzf hhl hs
  generalize afterZ (newZ z) fq tq 0 p = zf at *
  generalize at8 (newZ z) (81 + s * 8 + k) = n at *
  generalize hz (newZ z) = h0 at *
  generalize newZ z = zc at *
  go_enter Tryd.func7, Tryd.ntmps7
  go_upto_region 1 with fail
  generalize (w.alloc (.cells (posC z).toArray 28)).alloc (.cells #[.int .i64 fq, .int .i64 tq, .int .i64 0, .bool p] 64) = w0 at *
  go_upto_region 4 with (first
    | (go_at_call 28; refine (MT.out _ (HH.out.grow R.out.2.2)).mono ?_; rintro e w1 ⟨rfl, hb⟩; have R := Lib.hid (R.out.grow hb); clear hb)
    | (refine wpList_load_mid rfl 28 _ rfl w.heap.size 0 rfl (posC z) _ R.out.1.range Tryd.underlying28 rfl HINF.out ?_)
    | (go_at_call 29; refine (CL.out _).mono ?_; rintro e w2 ⟨rfl, hb⟩; have R := Lib.hid (R.out.grow hb); clear hb)
    | (refine wpList_store_row rfl 28 _ _ rfl w.heap.size (posC zc).toArray rfl rfl 28 _ R.out.1 (by rw [List.size_toArray]; exact HINFC.out) HSC.out (posC_one zc) ?_))
  have R := Lib.hid (R.out.setRow (z' := zc))
  generalize w2.setRow w.heap.size (posC zc).toArray = w3 at *
  go_upto_region 7 with (first
    | (refine load_row_want (by rfl) 28 _ rfl w.heap.size rfl 28 _ _ _ R.out.1 Tryd.underlying28 rfl (by rw [List.size_toArray]; exact HINFC.out) ?_)
    | (refine wpList_load_mid rfl 28 _ rfl w.heap.size 0 rfl (posC zc) _ R.out.1.range Tryd.underlying28 rfl HINFC.out ?_)
    | (go_at_call 38; refine (CK.out _).mono ?_; rintro e w4 ⟨rfl, hb⟩; have R := Lib.hid (R.out.grow hb); clear hb; obtain ⟨m0, m1, m2, m3⟩ := mv_cells' R.out.2.1)
    | (go_at_call 39; refine (AF.out _).mono ?_; rintro e wa ⟨rfl, hb⟩; have R := Lib.hid (R.out.grow hb); clear hb m0 m1 m2 m3; obtain ⟨m0, m1, m2, m3⟩ := mv_cells' R.out.2.1)
    | (refine wpList_store_row rfl 28 _ _ rfl wa.heap.size (posC zf).toArray rfl rfl 28 Tryd.zeroCells28 (heap_alloc_new wa _) (by rw [List.size_toArray]; exact HINFF.out) HSF.out (posC_one zf) ?_)
    | fail)
  have P7 := Lib.hid (fresh_pos wa zf)
  have FB := Lib.hid (fresh_below wa (.cells Tryd.zeroCells28 28) (posC zf).toArray)
  have R := Lib.hid (R.out.grow FB.out)
  have Z7 := Lib.hid (lt_of_row' P7.out)
  have Y7 := Lib.hid (Nat.lt_of_lt_of_le (lt_of_row' R.out.2.1) (Nat.le_refl _))
  generalize ha7 : wa.heap.size = a7 at *
  generalize (wa.alloc (.cells Tryd.zeroCells28 28)).setRow a7 (posC zf).toArray = wb at *
  clear ha7 m0 m1 m2 m3 FB
  have c97 := R.out.1.cell 97 (by rw [HZC.out]; omega)
  rw [HSD.out] at c97
  obtain ⟨m0, m1, m2, m3⟩ := mv_cells' R.out.2.1
  go_upto_region 11 with (first
    | (refine wpList_load_mid rfl 26 _ rfl w.heap.size 81 rfl (posC h0) _ (HRNG.out _ _ R.out.1) Tryd.underlying26 rfl HIH.out ?_)
    | (refine wpList_store_row rfl 26 _ _ rfl wb.heap.size (posC h0).toArray rfl rfl 26 #[.int .i8 0, .int .i8 0, .int .i8 0, .int .i8 0, .int .i8 0, .int .i8 0, .int .i8 0, .int .i8 0, .int .i8 0, .int .i8 0, .int .i8 0, .int .i8 0, .int .i8 0, .int .i8 0, .int .i8 0, .int .i8 0] (heap_alloc_new wb _) (by rw [List.size_toArray]; exact HIH.out) HSH.out (posC_one h0) ?_)
    | fail)
  have K7 := Lib.hid (show HandAt ((wb.alloc (.cells #[.int .i8 0, .int .i8 0, .int .i8 0, .int .i8 0, .int .i8 0, .int .i8 0, .int .i8 0, .int .i8 0, .int .i8 0, .int .i8 0, .int .i8 0, .int .i8 0, .int .i8 0, .int .i8 0, .int .i8 0, .int .i8 0] 26)).setRow wb.heap.size (posC h0).toArray) wb.heap.size h0 from setRow_heap _ _ _ _ _ _ (heap_alloc_new wb _))
  have FB := Lib.hid (below_row (ball (bref wb) (.cells #[.int .i8 0, .int .i8 0, .int .i8 0, .int .i8 0, .int .i8 0, .int .i8 0, .int .i8 0, .int .i8 0, .int .i8 0, .int .i8 0, .int .i8 0, .int .i8 0, .int .i8 0, .int .i8 0, .int .i8 0, .int .i8 0] 26)) (Nat.le_refl _) (posC h0).toArray)
  have R := Lib.hid (R.out.grow FB.out)
  have P7 := Lib.hid (P7.out.grow FB.out)
  have ZZ := Lib.hid (show w.heap.size + 1 < wb.heap.size ∧ a7 < wb.heap.size from ⟨Y7.out, Z7.out⟩)
  generalize ha8 : wb.heap.size = a8 at *
  generalize (wb.alloc (.cells #[.int .i8 0, .int .i8 0, .int .i8 0, .int .i8 0, .int .i8 0, .int .i8 0, .int .i8 0, .int .i8 0, .int .i8 0, .int .i8 0, .int .i8 0, .int .i8 0, .int .i8 0, .int .i8 0, .int .i8 0, .int .i8 0] 26)).setRow a8 (posC h0).toArray = wd at *
  clear ha8 m0 m1 m2 m3 FB c97
  obtain ⟨m0, m1, m2, m3⟩ := mv_cells' R.out.2.1
  have cx := R.out.1.cell tq (by rw [HZC.out]; omega)
  rw [HXX.out] at cx
  have ch := K7.out.cell (s * 8 + k) (by rw [HL.out]; omega)
  have chf := K7.out.frozen (s * 8 + k)
  rw [hcell] at ch
  have hgt : 8 < (k : Int) + 8 := by omega
  have hsub : wrap64 ((k : Int) + 8 - 8) = k := by unfold wrap64; omega
  go_wp2_with fail
  go_region
  have YY := Lib.hid (show w.heap.size ≠ a8 ∧ w.heap.size + 1 ≠ a8 ∧ a7 ≠ a8 by (have := ZZ.out; omega))
  have K8 := Lib.hid (K7.out.set (s * 8 + k) (n + 1)).drew
  have P8 := Lib.hid (P7.out.other YY.out.2.2 (s * 8 + k) (.int .i8 (n + 1))).drew
  have M8 := Lib.hid (show (wd.setCell ⟨a8, s * 8 + k, none⟩ (.int .i8 (n + 1))).drew.heap[w.heap.size + 1]? = some (.cells #[.int .i64 fq, .int .i64 tq, .int .i64 0, .bool p] 64) from (heap_setCell_other wd _ (w.heap.size + 1) _ YY.out.2.1).trans R.out.2.1)
  have B8 := Lib.hid ((R.out.2.2.setCell (p := ⟨a8, s * 8 + k, none⟩) (by (have := ZZ.out; simp only; omega)) (.int .i8 (n + 1))).drew)
  clear ch chf m0 m1 m2 m3
  generalize (wd.setCell ⟨a8, s * 8 + k, none⟩ (.int .i8 (n + 1))).drew = we at *
  obtain ⟨m0, m1, m2, m3⟩ := mv_cells' M8.out
  have cto := P8.out.cell tq (by rw [HZF.out]; omega)
  have HRF := Lib.hid (HRNF.out _ _ P8.out)
  rw [HFF.out] at HRF
  have HIG := Lib.hid (show (Tryd.prog.info? 26).map (·.size) = some (posC (h0.set (s * 8 + k) (n + 1))).length by rw [posC_len, HLF.out]; exact infoH16)
  have EQ := hands_self (h0.set (s * 8 + k) (n + 1)) HLF.out
  generalize (h0.set (s * 8 + k) (n + 1)) = hf at *
  generalize hyt : at8 zf tq = yt at *
  clear hyt
  go_wp2_with (first
    | (refine wpList_load_mid rfl 26 _ rfl a7 81 rfl (posC hf) _ HRF.out Tryd.underlying26 rfl HIG.out ?_)
    | (refine load_row_want (by rfl) 26 _ rfl a8 rfl 26 _ _ _ K8.out Tryd.underlying26 rfl (by rw [List.size_toArray]; exact HIG.out) ?_)
    | fail)
  go_ret
  exact ⟨by simp_all, B8.out⟩

/-- THE WALK OF THE LAW. -/
theorem walk (z : List Int) (f t d : Int) (p : Bool) (hz' : z.length = 98) (h8 : I8s z) (wf : (Lit.int .i64 f).wf = true) (wt : (Lit.int .i64 t).wf = true) (wd : (Lit.int .i64 d).wf = true) (w : World) (hH : Home w) :
    Calls Tryd.prog 7 #[.agg (posC z).toArray, .agg #[.int .i64 f, .int .i64 t, .int .i64 d, .bool p]] w fun e w' => e = .returned (.bool true) ∧ Below w.heap.size w w' := by
  by_cases hc : checkF (newZ z) = 0
  · cases hcan : canF (newZ z) f t d p
    · exact walk_not z f t d p hz' h8 hc hcan w hH
    · have h8c := newZ_8 z h8
      have hpos : PosOk (newZ z) 126 := ⟨newZ_len z hz', h8c, newZ_clean z hz', fun j a b => ⟨(chk_hands (newZ z) h8c hc j a b).1, Int.le_trans (chk_hands (newZ z) h8c hc j a b).2 (by decide)⟩⟩
      obtain ⟨s, tq, hs2, hs, htq, rfl, ⟨dn, d1, d7, rfl, rfl, rfl, hp, h0⟩ | ⟨fq, k, hfq, rfl, rfl, hft, hk, hk7, g1, g2, g4⟩⟩ := can_cases hpos hcan
      · exact walk_drop z tq dn s hz' h8 hc hcan hs2 hs htq d1 d7 w hH
      · have hcl := hpos.clean tq htq
        have hks := kind_side (at8 (newZ z) tq)
        have hrr := rawF_cases (kindF (at8 (newZ z) tq))
        by_cases hk0 : k = 0
        · have hkz : kindF (at8 (newZ z) tq) = 0 := by
            by_cases h : rawF (cutF (at8 (newZ z) tq)) = 0
            · exact if_pos h
            · rw [show kindF (at8 (newZ z) tq) = cutF (at8 (newZ z) tq) from if_neg h] at hk
              omega
          exact walk_free z fq tq s p hz' h8 hc hcan hs2 hs hfq htq hft (hcl hkz) w hH
        · have h1 : 1 ≤ at8 (newZ z) tq := by omega
          have hm : Int.tmod (at8 (newZ z) tq) 16 = kindF (at8 (newZ z) tq) := by
            rw [Int.tmod_eq_emod_of_nonneg (by omega)]
            omega
          by_cases hg : kindF (at8 (newZ z) tq) ≤ 8
          · exact walk_small z fq tq s k p _ hz' h8 hc hcan hs2 hs hfq htq hft rfl h1 hk (by omega) hk7 (by omega) w hH
          · exact walk_great z fq tq s k p _ hz' h8 hc hcan hs2 hs hfq htq hft rfl h1 hk (by omega) hk7 (by omega) w hH
  · exact walk_no z f t d p hz' h8 hc w hH
end Go.Proofs.YtbopbekehccdmaaDoor.deedHands
