/-
  The walk of the law DeedMakes: for every position and every move it returns true.
-/
import Derived.Test.YtfemicpfkgecbaaDoorDmRefs
import Derived.Test.YtfemicpfkgecbaaDoorMakes
import Derived.OpenShut
namespace Go.Proofs.YtfemicpfkgecbaaDoor.deedMakes
open Go.RowKit
set_option linter.unusedVariables false
set_option linter.unusedSimpArgs false

/-- The position and the move that were handed over. -/
def RB (w : World) (z : List Int) (M : Array Value) (W : World) : Prop :=
  PosAt W w.heap.size z ∧ W.heap[w.heap.size + 1]? = some (.cells M 54) ∧ Below w.heap.size w W
theorem RB.start (w : World) (z : List Int) (M : Array Value) : RB w z M ((w.alloc (.cells (posC z).toArray 28)).alloc (.cells M 54)) := by
  refine ⟨?_, ?_, ball (ball (bref w) _) _⟩
  · show ((w.heap.push _).push _)[w.heap.size]? = _
    simp [Array.getElem?_push]
  · show ((w.heap.push _).push _)[w.heap.size + 1]? = _
    rw [Array.getElem?_push, if_pos (by simp)]
theorem RB.grow {w W W' : World} {z : List Int} {M : Array Value} (h : RB w z M W) (hb : Below W.heap.size W W') : RB w z M W' :=
  ⟨h.1.grow hb, (hb.block _ (lt_of_row' h.2.1)).trans h.2.1, bthen h.2.2 hb⟩
theorem RB.but3 {w W W' : World} {z : List Int} {M : Array Value} {g b : Nat} (h : RB w z M W) (hb : But3 g b none W W') (hg : w.heap.size + 1 < g) (hbb : w.heap.size + 1 < b) : RB w z M W' :=
  ⟨hb.row h.1 (by omega) (by omega) (by simp), hb.row h.2.1 (by omega) (by omega) (by simp), h.2.2.trans (hb.below (by omega) (by omega) (by simp) h.2.2.size)⟩
theorem RB.setRow {w W : World} {z z' : List Int} {M : Array Value} (h : RB w z M W) : RB w z' M (W.setRow w.heap.size (posC z').toArray) :=
  ⟨setRow_heap _ _ _ _ _ _ h.1, (setRow_other _ _ _ _ (by omega)).trans h.2.1, below_row h.2.2 (Nat.le_refl _) _⟩
theorem load_row_want {P : Program} {ops : Array Oper} {rest : List Oper} {o : Oper} {a : Act} {w : World} {Q : Exit → Act → World → Prop} (hw : Region.wanted o (yielded ops a.tmps) = true) (ty : TypeId) (x : Operand) (ho : o.op = .load ty x)
    (g : Nat) (hx : a.eval x = .pointer (some ⟨g, 0, none⟩)) (t : TypeId) (cs : Array Value) (fr : Nat × Nat) (d : TypeDesc) (hg : w.heap[g]? = some (.cells cs t fr))
    (hu : P.underlying ty = some d) (hd : (match d with | .struct _ | .array _ _ => true | _ => false) = true) (hi : (P.info? ty).map (·.size) = some cs.size)
    (h : wpList P ops Q rest (a.put o.dst (.agg cs)) w) : wpList P ops Q (o :: rest) a w :=
  wpList_step fun K hK => by
    rw [if_pos hw]
    exact wp_load_row ty x ho g hx t cs fr d hg hu hd hi (hK _ _ h)
theorem fresh_below (W : World) (o : Obj) (cs : Array Value) : Below W.heap.size W ((W.alloc o).setRow W.heap.size cs) := below_row (ball (bref W) o) (Nat.le_refl _) _
theorem fresh_pos (W : World) (z : List Int) : PosAt ((W.alloc (.cells Tryd.zeroCells28 28)).setRow W.heap.size (posC z).toArray) W.heap.size z := setRow_heap _ _ _ _ _ _ (heap_alloc_new W _)

set_option maxRecDepth 100000 in
set_option maxHeartbeats 4000000 in
theorem walk_small (z : List Int) (f t d : Int) (p : Bool) (hz : z.length = 98) (h8 : I8s z) (hs : ¬ HandsIn (newZ z) 0 18 16) (w : World) (hH : Home w) :
    Calls Tryd.prog 4 #[.agg (posC z).toArray, .agg #[.int .i64 f, .int .i64 t, .int .i64 d, .bool p]] w fun e w' => e = .returned (.bool true) ∧ Below w.heap.size w w' := by
  have R := Lib.hid (RB.start w z #[.int .i64 f, .int .i64 t, .int .i64 d, .bool p])
  have MT := Lib.hid (fun W (hH : Home W) => makes_true W hH)
  have CL := Lib.hid (fun W => clean_any z hz h8 W)
  have hzc := newZ_len z hz
  have h8c := newZ_8 z h8
  have hcc := newZ_clean z hz
  have SM := Lib.hid (fun W => small_any (newZ z) hzc h8c W)
  have FU := Lib.hid (fun W => full_any (newZ z) hzc h8c W)
  rw [decide_eq_false hs] at SM
  have HINF := Lib.hid (show (Tryd.prog.info? 28).map (·.size) = some (posC z).length by rw [posC_len, hz]; exact infoPos)
  have HINFC := Lib.hid (show (Tryd.prog.info? 28).map (·.size) = some (posC (newZ z)).length by rw [posC_len, hzc]; exact infoPos)
  have HSC := Lib.hid (show (posC z).toArray.size = (posC (newZ z)).toArray.size by rw [List.size_toArray, List.size_toArray, posC_len, posC_len, hz, hzc])
  have HH := Lib.hid hH
  clear hH hz h8
  clear hs hzc h8c hcc
  generalize newZ z = zc at *
  go_enter Tryd.func4, Tryd.ntmps4
  go_upto_region 1 with fail
  generalize (w.alloc (.cells (posC z).toArray 28)).alloc (.cells #[.int .i64 f, .int .i64 t, .int .i64 d, .bool p] 54) = w0 at *
  go_upto_region 4 with (first
    | (go_at_call 23; refine (MT.out _ (HH.out.grow R.out.2.2)).mono ?_; rintro e w1 ⟨rfl, hb⟩; have R := Lib.hid (R.out.grow hb); clear hb)
    | (refine wpList_load_mid rfl 28 _ rfl w.heap.size 0 rfl (posC z) _ R.out.1.range Tryd.underlying28 rfl HINF.out ?_)
    | (go_at_call 24; refine (CL.out _).mono ?_; rintro e w2 ⟨rfl, hb⟩; have R := Lib.hid (R.out.grow hb); clear hb)
    | (refine wpList_store_row rfl 28 _ _ rfl w.heap.size (posC zc).toArray rfl rfl 28 _ R.out.1 (by rw [List.size_toArray]; exact HINFC.out) HSC.out (posC_one zc) ?_))
  have R := Lib.hid (R.out.setRow (z' := zc))
  generalize w2.setRow w.heap.size (posC zc).toArray = w3 at *
  go_wp2_with (first
    | (refine load_row_want (by rfl) 28 _ rfl w.heap.size rfl 28 _ _ _ R.out.1 Tryd.underlying28 rfl (by rw [List.size_toArray]; exact HINFC.out) ?_)
    | (refine wpList_load_mid rfl 28 _ rfl w.heap.size 0 rfl (posC zc) _ R.out.1.range Tryd.underlying28 rfl HINFC.out ?_)
    | (go_at_call 25; refine (SM.out _).mono ?_; rintro e w4 ⟨rfl, hb⟩; have R := Lib.hid (R.out.grow hb); clear hb)
    | (go_at_call 26; refine (FU.out _).mono ?_; rintro e w5 ⟨rfl, hb⟩; have R := Lib.hid (R.out.grow hb); clear hb)
    | fail)
  go_ret
  exact ⟨rfl, R.out.2.2⟩
set_option maxRecDepth 100000 in
set_option maxHeartbeats 4000000 in
theorem walk_full (z : List Int) (f t d : Int) (p : Bool) (hz : z.length = 98) (h8 : I8s z) (hs : HandsIn (newZ z) 0 18 16) (hf : ¬ HandsIn (newZ z) (-128) 17 16) (w : World) (hH : Home w) :
    Calls Tryd.prog 4 #[.agg (posC z).toArray, .agg #[.int .i64 f, .int .i64 t, .int .i64 d, .bool p]] w fun e w' => e = .returned (.bool true) ∧ Below w.heap.size w w' := by
  have R := Lib.hid (RB.start w z #[.int .i64 f, .int .i64 t, .int .i64 d, .bool p])
  have MT := Lib.hid (fun W (hH : Home W) => makes_true W hH)
  have CL := Lib.hid (fun W => clean_any z hz h8 W)
  have hzc := newZ_len z hz
  have h8c := newZ_8 z h8
  have hcc := newZ_clean z hz
  have SM := Lib.hid (fun W => small_any (newZ z) hzc h8c W)
  have FU := Lib.hid (fun W => full_any (newZ z) hzc h8c W)
  rw [decide_eq_true hs] at SM
  rw [decide_eq_false hf, Bool.not_false] at FU
  have HINF := Lib.hid (show (Tryd.prog.info? 28).map (·.size) = some (posC z).length by rw [posC_len, hz]; exact infoPos)
  have HINFC := Lib.hid (show (Tryd.prog.info? 28).map (·.size) = some (posC (newZ z)).length by rw [posC_len, hzc]; exact infoPos)
  have HSC := Lib.hid (show (posC z).toArray.size = (posC (newZ z)).toArray.size by rw [List.size_toArray, List.size_toArray, posC_len, posC_len, hz, hzc])
  have HH := Lib.hid hH
  clear hH hz h8
  clear hs hf hzc h8c hcc
  generalize newZ z = zc at *
  go_enter Tryd.func4, Tryd.ntmps4
  go_upto_region 1 with fail
  generalize (w.alloc (.cells (posC z).toArray 28)).alloc (.cells #[.int .i64 f, .int .i64 t, .int .i64 d, .bool p] 54) = w0 at *
  go_upto_region 4 with (first
    | (go_at_call 23; refine (MT.out _ (HH.out.grow R.out.2.2)).mono ?_; rintro e w1 ⟨rfl, hb⟩; have R := Lib.hid (R.out.grow hb); clear hb)
    | (refine wpList_load_mid rfl 28 _ rfl w.heap.size 0 rfl (posC z) _ R.out.1.range Tryd.underlying28 rfl HINF.out ?_)
    | (go_at_call 24; refine (CL.out _).mono ?_; rintro e w2 ⟨rfl, hb⟩; have R := Lib.hid (R.out.grow hb); clear hb)
    | (refine wpList_store_row rfl 28 _ _ rfl w.heap.size (posC zc).toArray rfl rfl 28 _ R.out.1 (by rw [List.size_toArray]; exact HINFC.out) HSC.out (posC_one zc) ?_))
  have R := Lib.hid (R.out.setRow (z' := zc))
  generalize w2.setRow w.heap.size (posC zc).toArray = w3 at *
  go_wp2_with (first
    | (refine load_row_want (by rfl) 28 _ rfl w.heap.size rfl 28 _ _ _ R.out.1 Tryd.underlying28 rfl (by rw [List.size_toArray]; exact HINFC.out) ?_)
    | (refine wpList_load_mid rfl 28 _ rfl w.heap.size 0 rfl (posC zc) _ R.out.1.range Tryd.underlying28 rfl HINFC.out ?_)
    | (go_at_call 25; refine (SM.out _).mono ?_; rintro e w4 ⟨rfl, hb⟩; have R := Lib.hid (R.out.grow hb); clear hb)
    | (go_at_call 26; refine (FU.out _).mono ?_; rintro e w5 ⟨rfl, hb⟩; have R := Lib.hid (R.out.grow hb); clear hb)
    | fail)
  go_ret
  exact ⟨rfl, R.out.2.2⟩
set_option maxRecDepth 100000 in
set_option maxHeartbeats 8000000 in
theorem walk_false (z : List Int) (f t d : Int) (p : Bool) (hz : z.length = 98) (h8 : I8s z) (hs : HandsIn (newZ z) 0 18 16) (hf : HandsIn (newZ z) (-128) 17 16) (hcan : canF (newZ z) f t d p = false) (w : World) (hH : Home w) :
    Calls Tryd.prog 4 #[.agg (posC z).toArray, .agg #[.int .i64 f, .int .i64 t, .int .i64 d, .bool p]] w fun e w' => e = .returned (.bool true) ∧ Below w.heap.size w w' := by
  have R := Lib.hid (RB.start w z #[.int .i64 f, .int .i64 t, .int .i64 d, .bool p])
  have MT := Lib.hid (fun W (hH : Home W) => makes_true W hH)
  have CL := Lib.hid (fun W => clean_any z hz h8 W)
  have hzc := newZ_len z hz
  have h8c := newZ_8 z h8
  have hcc := newZ_clean z hz
  have SM := Lib.hid (fun W => small_any (newZ z) hzc h8c W)
  have FU := Lib.hid (fun W => full_any (newZ z) hzc h8c W)
  rw [decide_eq_true hs] at SM
  rw [decide_eq_true hf, Bool.not_true] at FU
  have HINF := Lib.hid (show (Tryd.prog.info? 28).map (·.size) = some (posC z).length by rw [posC_len, hz]; exact infoPos)
  have HINFC := Lib.hid (show (Tryd.prog.info? 28).map (·.size) = some (posC (newZ z)).length by rw [posC_len, hzc]; exact infoPos)
  have HSC := Lib.hid (show (posC z).toArray.size = (posC (newZ z)).toArray.size by rw [List.size_toArray, List.size_toArray, posC_len, posC_len, hz, hzc])
  have HH := Lib.hid hH
  have hh : ∀ j, 81 ≤ j → j < 97 → 0 ≤ at8 (newZ z) j ∧ at8 (newZ z) j ≤ 126 := fun j a b => by
    have h1 := hs (j - 81) (by omega)
    have h2 := hf (j - 81) (by omega)
    rw [show 81 + (j - 81) = j by omega] at h1 h2
    omega
  have NE := Lib.hid (fun W => newGame_any (newZ z) hzc h8c W)
  rw [newZ_self (newZ z) hzc hcc] at NE
  have RC := Lib.hid (fun W => refCan_any (newZ z) f t d p hzc h8c W)
  rw [hcan] at RC
  have CA := Lib.hid (fun (g b : Nat) (v : Value) (W : World) (h : Gk W g b (newZ z) v) => can_any g b (newZ z) (ofK (newZ z)) v f t d p hzc h8c W h)
  rw [hcan] at CA
  have EQC := pos_eq (newZ z) hzc
  have MK := Lib.hid (fun (g b : Nat) (v : Value) (W : World) (h : Gk W g b (newZ z) v) => make_no g b (newZ z) v f t d p hzc h8c W h hcan)
  have AF := Lib.hid (fun W => after_no (newZ z) f t d p hzc h8c hcc hcan W)
  have HZF := Lib.hid hzc
  have HSF := Lib.hid (show Tryd.zeroCells28.size = (posC (newZ z)).toArray.size from zeroPos_size.trans (by rw [List.size_toArray, posC_len, hzc]))
  have LE := Lib.hid (fun (g b n : Nat) (v : Value) (a : Option Addr) (cap : Nat) (hv : v = .slice a n cap) (W : World) (h : Gk W g b (newZ z) v) => len_any g b (newZ z) v n a cap hv W h)
  clear hH hz h8
  clear hs hf hh hcan hzc h8c hcc
  generalize newZ z = zc at *
  go_enter Tryd.func4, Tryd.ntmps4
  go_upto_region 1 with fail
  generalize (w.alloc (.cells (posC z).toArray 28)).alloc (.cells #[.int .i64 f, .int .i64 t, .int .i64 d, .bool p] 54) = w0 at *
  go_upto_region 4 with (first
    | (go_at_call 23; refine (MT.out _ (HH.out.grow R.out.2.2)).mono ?_; rintro e w1 ⟨rfl, hb⟩; have R := Lib.hid (R.out.grow hb); clear hb)
    | (refine wpList_load_mid rfl 28 _ rfl w.heap.size 0 rfl (posC z) _ R.out.1.range Tryd.underlying28 rfl HINF.out ?_)
    | (go_at_call 24; refine (CL.out _).mono ?_; rintro e w2 ⟨rfl, hb⟩; have R := Lib.hid (R.out.grow hb); clear hb)
    | (refine wpList_store_row rfl 28 _ _ rfl w.heap.size (posC zc).toArray rfl rfl 28 _ R.out.1 (by rw [List.size_toArray]; exact HINFC.out) HSC.out (posC_one zc) ?_))
  have R := Lib.hid (R.out.setRow (z' := zc))
  generalize w2.setRow w.heap.size (posC zc).toArray = w3 at *
  have Z0 := Lib.hid (lt_of_row' R.out.2.1)
  go_upto_region 11 with (first
    | (refine load_row_want (by rfl) 28 _ rfl w.heap.size rfl 28 _ _ _ R.out.1 Tryd.underlying28 rfl (by rw [List.size_toArray]; exact HINFC.out) ?_)
    | (refine wpList_load_mid rfl 28 _ rfl w.heap.size 0 rfl (posC zc) _ R.out.1.range Tryd.underlying28 rfl HINFC.out ?_)
    | (go_at_call 25; refine (SM.out _).mono ?_; rintro e w4 ⟨rfl, hb⟩; have R := Lib.hid (R.out.grow hb); clear hb)
    | (go_at_call 26; refine (FU.out _).mono ?_; rintro e w5 ⟨rfl, hb⟩; have R := Lib.hid (R.out.grow hb); clear hb)
    | (go_at_call 27; refine (NE.out _).mono ?_; rintro e w6 ⟨g, b, rfl, hg, hb, hG, hbw⟩; have GE := Lib.hid (And.intro (Nat.lt_of_lt_of_le (lt_of_row' R.out.2.1) hg) (Nat.lt_of_lt_of_le (lt_of_row' R.out.2.1) hb)); have HG := Lib.hid hG; have R := Lib.hid (R.out.grow hbw); clear hg hb hG hbw; obtain ⟨m0, m1, m2, m3⟩ := mv_cells' R.out.2.1)
    | (go_at_call 28; refine (RC.out _).mono ?_; rintro e w7 ⟨rfl, hb⟩; have HG := Lib.hid (HG.out.grow hb); have R := Lib.hid (R.out.grow hb); clear hb m0 m1 m2 m3; obtain ⟨m0, m1, m2, m3⟩ := mv_cells' R.out.2.1)
    | (go_at_call 29; refine (CA.out g b _ _ HG.out).mono ?_; rintro e w8 ⟨rfl, hb⟩; have HG := Lib.hid (HG.out.grow hb); have R := Lib.hid (R.out.grow hb); clear hb m0 m1 m2 m3; obtain ⟨m0, m1, m2, m3⟩ := mv_cells' R.out.2.1)
    | (go_at_call 30; refine (MK.out g b _ _ HG.out).mono ?_; rintro e w9 ⟨rfl, hb⟩; have HG := Lib.hid (HG.out.grow hb); have R := Lib.hid (R.out.grow hb); clear hb m0 m1 m2 m3; obtain ⟨m0, m1, m2, m3⟩ := mv_cells' R.out.2.1)
    | (go_at_call 31; refine (AF.out _).mono ?_; rintro e wa ⟨rfl, hb⟩; have HG := Lib.hid (HG.out.grow hb); have R := Lib.hid (R.out.grow hb); clear hb m0 m1 m2 m3; obtain ⟨m0, m1, m2, m3⟩ := mv_cells' R.out.2.1)
    | (refine wpList_store_row rfl 28 _ _ rfl wa.heap.size (posC zc).toArray rfl rfl 28 Tryd.zeroCells28 (heap_alloc_new wa _) (by rw [List.size_toArray]; exact HINFC.out) HSF.out (posC_one zc) ?_))
  have P7 := Lib.hid (fresh_pos wa zc)
  have FB := Lib.hid (fresh_below wa (.cells Tryd.zeroCells28 28) (posC zc).toArray)
  have HG := Lib.hid (HG.out.grow FB.out)
  have R := Lib.hid (R.out.grow FB.out)
  generalize ha7 : wa.heap.size = a7 at *
  generalize (wa.alloc (.cells Tryd.zeroCells28 28)).setRow a7 (posC zc).toArray = wb at *
  clear ha7 m0 m1 m2 m3 FB
  obtain ⟨m0, m1, m2, m3⟩ := mv_cells' R.out.2.1
  obtain ⟨g0, g1, g2⟩ := HG.out.1.cells
  go_wp2_with fail
  refine wp_region_any (by kernel_rfl) ?_
  change wpAny _ _ _ _ _ _ _ (World.drew _)
  refine wpAny_take (i := 0) (v := ?_) rfl (by kernel_rfl) (by kernel_rfl) (by kernel_rfl) (fun _ _ _ h => h) (Or.inl ⟨by rfl, ?_⟩) ?_
  rotate_left 1
  · (intro w; go_simp; with_reducible rfl)
  try simp only [Act.put, List.getElem_toArray, List.getElem_cons_zero, List.getElem_cons_succ, List.setIfInBounds_toArray, List.set_cons_zero, List.set_cons_succ, List.toList_toArray]
  refine wpAny_take (i := 1) (v := ?_) rfl (by kernel_rfl) (by kernel_rfl) (by kernel_rfl) (fun _ _ _ h => h) (Or.inl ⟨by rfl, ?_⟩) ?_
  rotate_left 1
  · (intro w; go_simp; with_reducible rfl)
  try simp only [Act.put, List.getElem_toArray, List.getElem_cons_zero, List.getElem_cons_succ, List.setIfInBounds_toArray, List.set_cons_zero, List.set_cons_succ, List.toList_toArray]
  refine wpAny_take (i := 2) (v := ?_) rfl (by kernel_rfl) (by kernel_rfl) (by kernel_rfl) (fun _ _ _ h => h) (Or.inl ⟨by rfl, ?_⟩) ?_
  rotate_left 1
  · (intro w; go_simp; with_reducible rfl)
  try simp only [Act.put, List.getElem_toArray, List.getElem_cons_zero, List.getElem_cons_succ, List.setIfInBounds_toArray, List.set_cons_zero, List.set_cons_succ, List.toList_toArray]
  refine wpAny_take (i := 3) (v := ?_) rfl (by kernel_rfl) (by kernel_rfl) (by kernel_rfl) (fun _ _ _ h => h) (Or.inl ⟨by rfl, ?_⟩) ?_
  rotate_left 1
  · (intro w; go_simp; with_reducible rfl)
  try simp only [Act.put, List.getElem_toArray, List.getElem_cons_zero, List.getElem_cons_succ, List.setIfInBounds_toArray, List.set_cons_zero, List.set_cons_succ, List.toList_toArray]
  refine wpAny_take (i := 4) (v := ?_) rfl (by kernel_rfl) (by kernel_rfl) (by kernel_rfl) (fun _ _ _ h => h) (Or.inl ⟨by rfl, ?_⟩) ?_
  rotate_left 1
  · (intro w; go_simp; with_reducible rfl)
  try simp only [Act.put, List.getElem_toArray, List.getElem_cons_zero, List.getElem_cons_succ, List.setIfInBounds_toArray, List.set_cons_zero, List.set_cons_succ, List.toList_toArray]
  refine wpAny_take (i := 5) (v := ?_) rfl (by kernel_rfl) (by kernel_rfl) (by kernel_rfl) (fun _ _ _ h => h) (Or.inl ⟨by rfl, ?_⟩) ?_
  rotate_left 1
  · (intro w; go_simp; with_reducible rfl)
  try simp only [Act.put, List.getElem_toArray, List.getElem_cons_zero, List.getElem_cons_succ, List.setIfInBounds_toArray, List.set_cons_zero, List.set_cons_succ, List.toList_toArray]
  refine wpAny_ready (rs := [6, 10]) (by kernel_rfl) (by simp) ?_
  refine AllReady.cons rfl (fun K hK => ?_) (AllReady.cons rfl (fun K hK => ?_) (AllReady.nil))
  focus
    go_simp
    refine hK _ _ ?_
    clear hK K
    try simp only [Act.put, List.getElem_toArray, List.getElem_cons_zero, List.getElem_cons_succ, List.setIfInBounds_toArray, List.set_cons_zero, List.set_cons_succ, List.toList_toArray]
    refine wpAny_take (i := 7) (v := ?_) rfl (by kernel_rfl) (by kernel_rfl) (by kernel_rfl) (fun _ _ _ h => h) (Or.inl ⟨by rfl, ?_⟩) ?_
    rotate_left 1
    · (intro w; go_simp; with_reducible rfl)
    try simp only [Act.put, List.getElem_toArray, List.getElem_cons_zero, List.getElem_cons_succ, List.setIfInBounds_toArray, List.set_cons_zero, List.set_cons_succ, List.toList_toArray]
    refine wpAny_take (i := 8) (v := ?_) rfl (by kernel_rfl) (by kernel_rfl) (by kernel_rfl) (fun _ _ _ h => h) (Or.inl ⟨by rfl, ?_⟩) ?_
    rotate_left 1
    · (intro w; go_simp; with_reducible rfl)
    try simp only [Act.put, List.getElem_toArray, List.getElem_cons_zero, List.getElem_cons_succ, List.setIfInBounds_toArray, List.set_cons_zero, List.set_cons_succ, List.toList_toArray]
    refine wpAny_ready (rs := [9, 10]) (by kernel_rfl) (by simp) ?_
    refine AllReady.cons rfl (fun K hK => ?_) (AllReady.cons rfl (fun K hK => ?_) (AllReady.nil))
    focus
      rw [if_pos (by rfl)]
      refine wp_load_mid _ _ rfl _ _ rfl (posC zc) _ (posRangeB (S := setAt zc) HG.out.drew.2.1 HZF.out) Tryd.underlying28 rfl (HINFC.out) ?_
      refine hK _ _ ?_
      clear hK K
      try simp only [Act.put, List.getElem_toArray, List.getElem_cons_zero, List.getElem_cons_succ, List.setIfInBounds_toArray, List.set_cons_zero, List.set_cons_succ, List.toList_toArray]
      refine wpAny_ready (rs := [10]) (by kernel_rfl) (by simp) ?_
      refine AllReady.cons rfl (fun K hK => ?_) (AllReady.nil)
      rw [if_pos (by rfl)]
      refine wp_load_mid _ _ rfl _ _ rfl (posC zc) _ (R.out.1.drew.range) Tryd.underlying28 rfl (HINFC.out) ?_
      refine hK _ _ ?_
      clear hK K
      try simp only [Act.put, List.getElem_toArray, List.getElem_cons_zero, List.getElem_cons_succ, List.setIfInBounds_toArray, List.set_cons_zero, List.set_cons_succ, List.toList_toArray]
      refine wpAny_take (i := 11) (v := ?_) rfl (by kernel_rfl) (by kernel_rfl) (by kernel_rfl) (fun _ _ _ h => h) (Or.inl ⟨by rfl, ?_⟩) ?_
      rotate_left 1
      · (intro w; go_simp; with_reducible rfl)
      try simp only [Act.put, List.getElem_toArray, List.getElem_cons_zero, List.getElem_cons_succ, List.setIfInBounds_toArray, List.set_cons_zero, List.set_cons_succ, List.toList_toArray]
      refine wpAny_take (i := 12) (v := ?_) rfl (by kernel_rfl) (by kernel_rfl) (by kernel_rfl) (fun _ _ _ h => h) (Or.inl ⟨by rfl, ?_⟩) ?_
      rotate_left 1
      · (intro w; go_simp; with_reducible rfl)
      try simp only [Act.put, List.getElem_toArray, List.getElem_cons_zero, List.getElem_cons_succ, List.setIfInBounds_toArray, List.set_cons_zero, List.set_cons_succ, List.toList_toArray]
      refine wpAny_take (i := 13) (v := ?_) rfl (by kernel_rfl) (by kernel_rfl) (by kernel_rfl) (fun _ _ _ h => h) (Or.inl ⟨by rfl, ?_⟩) ?_
      rotate_left 1
      · (intro w; go_simp; with_reducible rfl)
      try simp only [Act.put, List.getElem_toArray, List.getElem_cons_zero, List.getElem_cons_succ, List.setIfInBounds_toArray, List.set_cons_zero, List.set_cons_succ, List.toList_toArray]
      refine wpAny_take (i := 14) (v := ?_) rfl (by kernel_rfl) (by kernel_rfl) (by kernel_rfl) (fun _ _ _ h => h) (Or.inl ⟨by rfl, ?_⟩) ?_
      rotate_left 1
      · (intro w; go_simp; with_reducible rfl)
      try simp only [Act.put, List.getElem_toArray, List.getElem_cons_zero, List.getElem_cons_succ, List.setIfInBounds_toArray, List.set_cons_zero, List.set_cons_succ, List.toList_toArray]
      refine wpAny_ready (rs := [15]) (by kernel_rfl) (by simp) ?_
      refine AllReady.cons rfl (fun K hK => ?_) (AllReady.nil)
      go_simp
      go_wp2_with (go_at_call 32; refine (LE.out g b 0 (.slice none 0 0) none 0 rfl _ HG.out.drew).mono ?_; rintro e wl ⟨rfl, rfl⟩)
      refine wpAny_take (i := 16) (v := ?_) rfl (by kernel_rfl) (by kernel_rfl) (by kernel_rfl) (fun _ _ _ h => h) (Or.inl ⟨by rfl, ?_⟩) ?_
      rotate_left 1
      · (intro w; go_simp; with_reducible rfl)
      try simp only [Act.put, List.getElem_toArray, List.getElem_cons_zero, List.getElem_cons_succ, List.setIfInBounds_toArray, List.set_cons_zero, List.set_cons_succ, List.toList_toArray]
      refine wpAny_take (i := 17) (v := ?_) rfl (by kernel_rfl) (by kernel_rfl) (by kernel_rfl) (fun _ _ _ h => h) (Or.inl ⟨by rfl, ?_⟩) ?_
      rotate_left 1
      · (intro w; go_simp; with_reducible rfl)
      try simp only [Act.put, List.getElem_toArray, List.getElem_cons_zero, List.getElem_cons_succ, List.setIfInBounds_toArray, List.set_cons_zero, List.set_cons_succ, List.toList_toArray]
      refine wpAny_take (i := 18) (v := ?_) rfl (by kernel_rfl) (by kernel_rfl) (by kernel_rfl) (fun _ _ _ h => h) (Or.inl ⟨by rfl, ?_⟩) ?_
      rotate_left 1
      · (intro w; go_simp; with_reducible rfl)
      try simp only [Act.put, List.getElem_toArray, List.getElem_cons_zero, List.getElem_cons_succ, List.setIfInBounds_toArray, List.set_cons_zero, List.set_cons_succ, List.toList_toArray]
      refine wpAny_ready (rs := [19, 20]) (by kernel_rfl) (by simp) ?_
      refine AllReady.cons rfl (fun K hK => ?_) (AllReady.cons rfl (fun K hK => ?_) (AllReady.nil))
      focus
        rw [if_pos (by rfl)]
        refine wp_load_mid _ _ rfl _ _ rfl (posC zc) _ (P7.out.drew.range) Tryd.underlying28 rfl (HINFC.out) ?_
        refine hK _ _ ?_
        clear hK K
        try simp only [Act.put, List.getElem_toArray, List.getElem_cons_zero, List.getElem_cons_succ, List.setIfInBounds_toArray, List.set_cons_zero, List.set_cons_succ, List.toList_toArray]
        refine wpAny_ready (rs := [20]) (by kernel_rfl) (by simp) ?_
        refine AllReady.cons rfl (fun K hK => ?_) (AllReady.nil)
        rw [if_pos (by rfl)]
        refine wp_load_mid _ _ rfl _ _ rfl (posC zc) _ (R.out.1.drew.range) Tryd.underlying28 rfl (HINFC.out) ?_
        refine hK _ _ ?_
        clear hK K
        try simp only [Act.put, List.getElem_toArray, List.getElem_cons_zero, List.getElem_cons_succ, List.setIfInBounds_toArray, List.set_cons_zero, List.set_cons_succ, List.toList_toArray]
        refine wpAny_take (i := 21) (v := ?_) rfl (by kernel_rfl) (by kernel_rfl) (by kernel_rfl) (fun _ _ _ h => h) (Or.inl ⟨by rfl, ?_⟩) ?_
        rotate_left 1
        · (intro w; go_simp; with_reducible rfl)
        try simp only [Act.put, List.getElem_toArray, List.getElem_cons_zero, List.getElem_cons_succ, List.setIfInBounds_toArray, List.set_cons_zero, List.set_cons_succ, List.toList_toArray]
        refine wpAny_take (i := 22) (v := ?_) rfl (by kernel_rfl) (by kernel_rfl) (by kernel_rfl) (fun _ _ _ h => h) (Or.inl ⟨by rfl, ?_⟩) ?_
        rotate_left 1
        · (intro w; go_simp; with_reducible rfl)
        try simp only [Act.put, List.getElem_toArray, List.getElem_cons_zero, List.getElem_cons_succ, List.setIfInBounds_toArray, List.set_cons_zero, List.set_cons_succ, List.toList_toArray]
        refine wpAny_take (i := 23) (v := ?_) rfl (by kernel_rfl) (by kernel_rfl) (by kernel_rfl) (fun _ _ _ h => h) (Or.inl ⟨by rfl, ?_⟩) ?_
        rotate_left 1
        · (intro w; go_simp; with_reducible rfl)
        try simp only [Act.put, List.getElem_toArray, List.getElem_cons_zero, List.getElem_cons_succ, List.setIfInBounds_toArray, List.set_cons_zero, List.set_cons_succ, List.toList_toArray]
        refine wpAny_done (by kernel_rfl) ?_ _
        go_wp2
        go_ret
        exact ⟨rfl, R.out.2.2.drew⟩
      focus
        rw [if_pos (by rfl)]
        refine wp_load_mid _ _ rfl _ _ rfl (posC zc) _ (R.out.1.drew.range) Tryd.underlying28 rfl (HINFC.out) ?_
        refine hK _ _ ?_
        clear hK K
        try simp only [Act.put, List.getElem_toArray, List.getElem_cons_zero, List.getElem_cons_succ, List.setIfInBounds_toArray, List.set_cons_zero, List.set_cons_succ, List.toList_toArray]
        refine wpAny_ready (rs := [19]) (by kernel_rfl) (by simp) ?_
        refine AllReady.cons rfl (fun K hK => ?_) (AllReady.nil)
        rw [if_pos (by rfl)]
        refine wp_load_mid _ _ rfl _ _ rfl (posC zc) _ (P7.out.drew.range) Tryd.underlying28 rfl (HINFC.out) ?_
        refine hK _ _ ?_
        clear hK K
        try simp only [Act.put, List.getElem_toArray, List.getElem_cons_zero, List.getElem_cons_succ, List.setIfInBounds_toArray, List.set_cons_zero, List.set_cons_succ, List.toList_toArray]
        refine wpAny_take (i := 21) (v := ?_) rfl (by kernel_rfl) (by kernel_rfl) (by kernel_rfl) (fun _ _ _ h => h) (Or.inl ⟨by rfl, ?_⟩) ?_
        rotate_left 1
        · (intro w; go_simp; with_reducible rfl)
        try simp only [Act.put, List.getElem_toArray, List.getElem_cons_zero, List.getElem_cons_succ, List.setIfInBounds_toArray, List.set_cons_zero, List.set_cons_succ, List.toList_toArray]
        refine wpAny_take (i := 22) (v := ?_) rfl (by kernel_rfl) (by kernel_rfl) (by kernel_rfl) (fun _ _ _ h => h) (Or.inl ⟨by rfl, ?_⟩) ?_
        rotate_left 1
        · (intro w; go_simp; with_reducible rfl)
        try simp only [Act.put, List.getElem_toArray, List.getElem_cons_zero, List.getElem_cons_succ, List.setIfInBounds_toArray, List.set_cons_zero, List.set_cons_succ, List.toList_toArray]
        refine wpAny_take (i := 23) (v := ?_) rfl (by kernel_rfl) (by kernel_rfl) (by kernel_rfl) (fun _ _ _ h => h) (Or.inl ⟨by rfl, ?_⟩) ?_
        rotate_left 1
        · (intro w; go_simp; with_reducible rfl)
        try simp only [Act.put, List.getElem_toArray, List.getElem_cons_zero, List.getElem_cons_succ, List.setIfInBounds_toArray, List.set_cons_zero, List.set_cons_succ, List.toList_toArray]
        refine wpAny_done (by kernel_rfl) ?_ _
        go_wp2
        go_ret
        exact ⟨rfl, R.out.2.2.drew⟩
    focus
      rw [if_pos (by rfl)]
      refine wp_load_mid _ _ rfl _ _ rfl (posC zc) _ (R.out.1.drew.range) Tryd.underlying28 rfl (HINFC.out) ?_
      refine hK _ _ ?_
      clear hK K
      try simp only [Act.put, List.getElem_toArray, List.getElem_cons_zero, List.getElem_cons_succ, List.setIfInBounds_toArray, List.set_cons_zero, List.set_cons_succ, List.toList_toArray]
      refine wpAny_ready (rs := [9]) (by kernel_rfl) (by simp) ?_
      refine AllReady.cons rfl (fun K hK => ?_) (AllReady.nil)
      rw [if_pos (by rfl)]
      refine wp_load_mid _ _ rfl _ _ rfl (posC zc) _ (posRangeB (S := setAt zc) HG.out.drew.2.1 HZF.out) Tryd.underlying28 rfl (HINFC.out) ?_
      refine hK _ _ ?_
      clear hK K
      try simp only [Act.put, List.getElem_toArray, List.getElem_cons_zero, List.getElem_cons_succ, List.setIfInBounds_toArray, List.set_cons_zero, List.set_cons_succ, List.toList_toArray]
      refine wpAny_take (i := 11) (v := ?_) rfl (by kernel_rfl) (by kernel_rfl) (by kernel_rfl) (fun _ _ _ h => h) (Or.inl ⟨by rfl, ?_⟩) ?_
      rotate_left 1
      · (intro w; go_simp; with_reducible rfl)
      try simp only [Act.put, List.getElem_toArray, List.getElem_cons_zero, List.getElem_cons_succ, List.setIfInBounds_toArray, List.set_cons_zero, List.set_cons_succ, List.toList_toArray]
      refine wpAny_take (i := 12) (v := ?_) rfl (by kernel_rfl) (by kernel_rfl) (by kernel_rfl) (fun _ _ _ h => h) (Or.inl ⟨by rfl, ?_⟩) ?_
      rotate_left 1
      · (intro w; go_simp; with_reducible rfl)
      try simp only [Act.put, List.getElem_toArray, List.getElem_cons_zero, List.getElem_cons_succ, List.setIfInBounds_toArray, List.set_cons_zero, List.set_cons_succ, List.toList_toArray]
      refine wpAny_take (i := 13) (v := ?_) rfl (by kernel_rfl) (by kernel_rfl) (by kernel_rfl) (fun _ _ _ h => h) (Or.inl ⟨by rfl, ?_⟩) ?_
      rotate_left 1
      · (intro w; go_simp; with_reducible rfl)
      try simp only [Act.put, List.getElem_toArray, List.getElem_cons_zero, List.getElem_cons_succ, List.setIfInBounds_toArray, List.set_cons_zero, List.set_cons_succ, List.toList_toArray]
      refine wpAny_take (i := 14) (v := ?_) rfl (by kernel_rfl) (by kernel_rfl) (by kernel_rfl) (fun _ _ _ h => h) (Or.inl ⟨by rfl, ?_⟩) ?_
      rotate_left 1
      · (intro w; go_simp; with_reducible rfl)
      try simp only [Act.put, List.getElem_toArray, List.getElem_cons_zero, List.getElem_cons_succ, List.setIfInBounds_toArray, List.set_cons_zero, List.set_cons_succ, List.toList_toArray]
      refine wpAny_ready (rs := [15]) (by kernel_rfl) (by simp) ?_
      refine AllReady.cons rfl (fun K hK => ?_) (AllReady.nil)
      go_simp
      go_wp2_with (go_at_call 32; refine (LE.out g b 0 (.slice none 0 0) none 0 rfl _ HG.out.drew).mono ?_; rintro e wl ⟨rfl, rfl⟩)
      refine wpAny_take (i := 16) (v := ?_) rfl (by kernel_rfl) (by kernel_rfl) (by kernel_rfl) (fun _ _ _ h => h) (Or.inl ⟨by rfl, ?_⟩) ?_
      rotate_left 1
      · (intro w; go_simp; with_reducible rfl)
      try simp only [Act.put, List.getElem_toArray, List.getElem_cons_zero, List.getElem_cons_succ, List.setIfInBounds_toArray, List.set_cons_zero, List.set_cons_succ, List.toList_toArray]
      refine wpAny_take (i := 17) (v := ?_) rfl (by kernel_rfl) (by kernel_rfl) (by kernel_rfl) (fun _ _ _ h => h) (Or.inl ⟨by rfl, ?_⟩) ?_
      rotate_left 1
      · (intro w; go_simp; with_reducible rfl)
      try simp only [Act.put, List.getElem_toArray, List.getElem_cons_zero, List.getElem_cons_succ, List.setIfInBounds_toArray, List.set_cons_zero, List.set_cons_succ, List.toList_toArray]
      refine wpAny_take (i := 18) (v := ?_) rfl (by kernel_rfl) (by kernel_rfl) (by kernel_rfl) (fun _ _ _ h => h) (Or.inl ⟨by rfl, ?_⟩) ?_
      rotate_left 1
      · (intro w; go_simp; with_reducible rfl)
      try simp only [Act.put, List.getElem_toArray, List.getElem_cons_zero, List.getElem_cons_succ, List.setIfInBounds_toArray, List.set_cons_zero, List.set_cons_succ, List.toList_toArray]
      refine wpAny_ready (rs := [19, 20]) (by kernel_rfl) (by simp) ?_
      refine AllReady.cons rfl (fun K hK => ?_) (AllReady.cons rfl (fun K hK => ?_) (AllReady.nil))
      focus
        rw [if_pos (by rfl)]
        refine wp_load_mid _ _ rfl _ _ rfl (posC zc) _ (P7.out.drew.range) Tryd.underlying28 rfl (HINFC.out) ?_
        refine hK _ _ ?_
        clear hK K
        try simp only [Act.put, List.getElem_toArray, List.getElem_cons_zero, List.getElem_cons_succ, List.setIfInBounds_toArray, List.set_cons_zero, List.set_cons_succ, List.toList_toArray]
        refine wpAny_ready (rs := [20]) (by kernel_rfl) (by simp) ?_
        refine AllReady.cons rfl (fun K hK => ?_) (AllReady.nil)
        rw [if_pos (by rfl)]
        refine wp_load_mid _ _ rfl _ _ rfl (posC zc) _ (R.out.1.drew.range) Tryd.underlying28 rfl (HINFC.out) ?_
        refine hK _ _ ?_
        clear hK K
        try simp only [Act.put, List.getElem_toArray, List.getElem_cons_zero, List.getElem_cons_succ, List.setIfInBounds_toArray, List.set_cons_zero, List.set_cons_succ, List.toList_toArray]
        refine wpAny_take (i := 21) (v := ?_) rfl (by kernel_rfl) (by kernel_rfl) (by kernel_rfl) (fun _ _ _ h => h) (Or.inl ⟨by rfl, ?_⟩) ?_
        rotate_left 1
        · (intro w; go_simp; with_reducible rfl)
        try simp only [Act.put, List.getElem_toArray, List.getElem_cons_zero, List.getElem_cons_succ, List.setIfInBounds_toArray, List.set_cons_zero, List.set_cons_succ, List.toList_toArray]
        refine wpAny_take (i := 22) (v := ?_) rfl (by kernel_rfl) (by kernel_rfl) (by kernel_rfl) (fun _ _ _ h => h) (Or.inl ⟨by rfl, ?_⟩) ?_
        rotate_left 1
        · (intro w; go_simp; with_reducible rfl)
        try simp only [Act.put, List.getElem_toArray, List.getElem_cons_zero, List.getElem_cons_succ, List.setIfInBounds_toArray, List.set_cons_zero, List.set_cons_succ, List.toList_toArray]
        refine wpAny_take (i := 23) (v := ?_) rfl (by kernel_rfl) (by kernel_rfl) (by kernel_rfl) (fun _ _ _ h => h) (Or.inl ⟨by rfl, ?_⟩) ?_
        rotate_left 1
        · (intro w; go_simp; with_reducible rfl)
        try simp only [Act.put, List.getElem_toArray, List.getElem_cons_zero, List.getElem_cons_succ, List.setIfInBounds_toArray, List.set_cons_zero, List.set_cons_succ, List.toList_toArray]
        refine wpAny_done (by kernel_rfl) ?_ _
        go_wp2
        go_ret
        exact ⟨rfl, R.out.2.2.drew⟩
      focus
        rw [if_pos (by rfl)]
        refine wp_load_mid _ _ rfl _ _ rfl (posC zc) _ (R.out.1.drew.range) Tryd.underlying28 rfl (HINFC.out) ?_
        refine hK _ _ ?_
        clear hK K
        try simp only [Act.put, List.getElem_toArray, List.getElem_cons_zero, List.getElem_cons_succ, List.setIfInBounds_toArray, List.set_cons_zero, List.set_cons_succ, List.toList_toArray]
        refine wpAny_ready (rs := [19]) (by kernel_rfl) (by simp) ?_
        refine AllReady.cons rfl (fun K hK => ?_) (AllReady.nil)
        rw [if_pos (by rfl)]
        refine wp_load_mid _ _ rfl _ _ rfl (posC zc) _ (P7.out.drew.range) Tryd.underlying28 rfl (HINFC.out) ?_
        refine hK _ _ ?_
        clear hK K
        try simp only [Act.put, List.getElem_toArray, List.getElem_cons_zero, List.getElem_cons_succ, List.setIfInBounds_toArray, List.set_cons_zero, List.set_cons_succ, List.toList_toArray]
        refine wpAny_take (i := 21) (v := ?_) rfl (by kernel_rfl) (by kernel_rfl) (by kernel_rfl) (fun _ _ _ h => h) (Or.inl ⟨by rfl, ?_⟩) ?_
        rotate_left 1
        · (intro w; go_simp; with_reducible rfl)
        try simp only [Act.put, List.getElem_toArray, List.getElem_cons_zero, List.getElem_cons_succ, List.setIfInBounds_toArray, List.set_cons_zero, List.set_cons_succ, List.toList_toArray]
        refine wpAny_take (i := 22) (v := ?_) rfl (by kernel_rfl) (by kernel_rfl) (by kernel_rfl) (fun _ _ _ h => h) (Or.inl ⟨by rfl, ?_⟩) ?_
        rotate_left 1
        · (intro w; go_simp; with_reducible rfl)
        try simp only [Act.put, List.getElem_toArray, List.getElem_cons_zero, List.getElem_cons_succ, List.setIfInBounds_toArray, List.set_cons_zero, List.set_cons_succ, List.toList_toArray]
        refine wpAny_take (i := 23) (v := ?_) rfl (by kernel_rfl) (by kernel_rfl) (by kernel_rfl) (fun _ _ _ h => h) (Or.inl ⟨by rfl, ?_⟩) ?_
        rotate_left 1
        · (intro w; go_simp; with_reducible rfl)
        try simp only [Act.put, List.getElem_toArray, List.getElem_cons_zero, List.getElem_cons_succ, List.setIfInBounds_toArray, List.set_cons_zero, List.set_cons_succ, List.toList_toArray]
        refine wpAny_done (by kernel_rfl) ?_ _
        go_wp2
        go_ret
        exact ⟨rfl, R.out.2.2.drew⟩
  focus
    rw [if_pos (by rfl)]
    refine wp_load_mid _ _ rfl _ _ rfl (posC zc) _ (R.out.1.drew.range) Tryd.underlying28 rfl (HINFC.out) ?_
    refine hK _ _ ?_
    clear hK K
    try simp only [Act.put, List.getElem_toArray, List.getElem_cons_zero, List.getElem_cons_succ, List.setIfInBounds_toArray, List.set_cons_zero, List.set_cons_succ, List.toList_toArray]
    refine wpAny_ready (rs := [6]) (by kernel_rfl) (by simp) ?_
    refine AllReady.cons rfl (fun K hK => ?_) (AllReady.nil)
    go_simp
    refine hK _ _ ?_
    clear hK K
    try simp only [Act.put, List.getElem_toArray, List.getElem_cons_zero, List.getElem_cons_succ, List.setIfInBounds_toArray, List.set_cons_zero, List.set_cons_succ, List.toList_toArray]
    refine wpAny_take (i := 7) (v := ?_) rfl (by kernel_rfl) (by kernel_rfl) (by kernel_rfl) (fun _ _ _ h => h) (Or.inl ⟨by rfl, ?_⟩) ?_
    rotate_left 1
    · (intro w; go_simp; with_reducible rfl)
    try simp only [Act.put, List.getElem_toArray, List.getElem_cons_zero, List.getElem_cons_succ, List.setIfInBounds_toArray, List.set_cons_zero, List.set_cons_succ, List.toList_toArray]
    refine wpAny_take (i := 8) (v := ?_) rfl (by kernel_rfl) (by kernel_rfl) (by kernel_rfl) (fun _ _ _ h => h) (Or.inl ⟨by rfl, ?_⟩) ?_
    rotate_left 1
    · (intro w; go_simp; with_reducible rfl)
    try simp only [Act.put, List.getElem_toArray, List.getElem_cons_zero, List.getElem_cons_succ, List.setIfInBounds_toArray, List.set_cons_zero, List.set_cons_succ, List.toList_toArray]
    refine wpAny_ready (rs := [9]) (by kernel_rfl) (by simp) ?_
    refine AllReady.cons rfl (fun K hK => ?_) (AllReady.nil)
    rw [if_pos (by rfl)]
    refine wp_load_mid _ _ rfl _ _ rfl (posC zc) _ (posRangeB (S := setAt zc) HG.out.drew.2.1 HZF.out) Tryd.underlying28 rfl (HINFC.out) ?_
    refine hK _ _ ?_
    clear hK K
    try simp only [Act.put, List.getElem_toArray, List.getElem_cons_zero, List.getElem_cons_succ, List.setIfInBounds_toArray, List.set_cons_zero, List.set_cons_succ, List.toList_toArray]
    refine wpAny_take (i := 11) (v := ?_) rfl (by kernel_rfl) (by kernel_rfl) (by kernel_rfl) (fun _ _ _ h => h) (Or.inl ⟨by rfl, ?_⟩) ?_
    rotate_left 1
    · (intro w; go_simp; with_reducible rfl)
    try simp only [Act.put, List.getElem_toArray, List.getElem_cons_zero, List.getElem_cons_succ, List.setIfInBounds_toArray, List.set_cons_zero, List.set_cons_succ, List.toList_toArray]
    refine wpAny_take (i := 12) (v := ?_) rfl (by kernel_rfl) (by kernel_rfl) (by kernel_rfl) (fun _ _ _ h => h) (Or.inl ⟨by rfl, ?_⟩) ?_
    rotate_left 1
    · (intro w; go_simp; with_reducible rfl)
    try simp only [Act.put, List.getElem_toArray, List.getElem_cons_zero, List.getElem_cons_succ, List.setIfInBounds_toArray, List.set_cons_zero, List.set_cons_succ, List.toList_toArray]
    refine wpAny_take (i := 13) (v := ?_) rfl (by kernel_rfl) (by kernel_rfl) (by kernel_rfl) (fun _ _ _ h => h) (Or.inl ⟨by rfl, ?_⟩) ?_
    rotate_left 1
    · (intro w; go_simp; with_reducible rfl)
    try simp only [Act.put, List.getElem_toArray, List.getElem_cons_zero, List.getElem_cons_succ, List.setIfInBounds_toArray, List.set_cons_zero, List.set_cons_succ, List.toList_toArray]
    refine wpAny_take (i := 14) (v := ?_) rfl (by kernel_rfl) (by kernel_rfl) (by kernel_rfl) (fun _ _ _ h => h) (Or.inl ⟨by rfl, ?_⟩) ?_
    rotate_left 1
    · (intro w; go_simp; with_reducible rfl)
    try simp only [Act.put, List.getElem_toArray, List.getElem_cons_zero, List.getElem_cons_succ, List.setIfInBounds_toArray, List.set_cons_zero, List.set_cons_succ, List.toList_toArray]
    refine wpAny_ready (rs := [15]) (by kernel_rfl) (by simp) ?_
    refine AllReady.cons rfl (fun K hK => ?_) (AllReady.nil)
    go_simp
    go_wp2_with (go_at_call 32; refine (LE.out g b 0 (.slice none 0 0) none 0 rfl _ HG.out.drew).mono ?_; rintro e wl ⟨rfl, rfl⟩)
    refine wpAny_take (i := 16) (v := ?_) rfl (by kernel_rfl) (by kernel_rfl) (by kernel_rfl) (fun _ _ _ h => h) (Or.inl ⟨by rfl, ?_⟩) ?_
    rotate_left 1
    · (intro w; go_simp; with_reducible rfl)
    try simp only [Act.put, List.getElem_toArray, List.getElem_cons_zero, List.getElem_cons_succ, List.setIfInBounds_toArray, List.set_cons_zero, List.set_cons_succ, List.toList_toArray]
    refine wpAny_take (i := 17) (v := ?_) rfl (by kernel_rfl) (by kernel_rfl) (by kernel_rfl) (fun _ _ _ h => h) (Or.inl ⟨by rfl, ?_⟩) ?_
    rotate_left 1
    · (intro w; go_simp; with_reducible rfl)
    try simp only [Act.put, List.getElem_toArray, List.getElem_cons_zero, List.getElem_cons_succ, List.setIfInBounds_toArray, List.set_cons_zero, List.set_cons_succ, List.toList_toArray]
    refine wpAny_take (i := 18) (v := ?_) rfl (by kernel_rfl) (by kernel_rfl) (by kernel_rfl) (fun _ _ _ h => h) (Or.inl ⟨by rfl, ?_⟩) ?_
    rotate_left 1
    · (intro w; go_simp; with_reducible rfl)
    try simp only [Act.put, List.getElem_toArray, List.getElem_cons_zero, List.getElem_cons_succ, List.setIfInBounds_toArray, List.set_cons_zero, List.set_cons_succ, List.toList_toArray]
    refine wpAny_ready (rs := [19, 20]) (by kernel_rfl) (by simp) ?_
    refine AllReady.cons rfl (fun K hK => ?_) (AllReady.cons rfl (fun K hK => ?_) (AllReady.nil))
    focus
      rw [if_pos (by rfl)]
      refine wp_load_mid _ _ rfl _ _ rfl (posC zc) _ (P7.out.drew.range) Tryd.underlying28 rfl (HINFC.out) ?_
      refine hK _ _ ?_
      clear hK K
      try simp only [Act.put, List.getElem_toArray, List.getElem_cons_zero, List.getElem_cons_succ, List.setIfInBounds_toArray, List.set_cons_zero, List.set_cons_succ, List.toList_toArray]
      refine wpAny_ready (rs := [20]) (by kernel_rfl) (by simp) ?_
      refine AllReady.cons rfl (fun K hK => ?_) (AllReady.nil)
      rw [if_pos (by rfl)]
      refine wp_load_mid _ _ rfl _ _ rfl (posC zc) _ (R.out.1.drew.range) Tryd.underlying28 rfl (HINFC.out) ?_
      refine hK _ _ ?_
      clear hK K
      try simp only [Act.put, List.getElem_toArray, List.getElem_cons_zero, List.getElem_cons_succ, List.setIfInBounds_toArray, List.set_cons_zero, List.set_cons_succ, List.toList_toArray]
      refine wpAny_take (i := 21) (v := ?_) rfl (by kernel_rfl) (by kernel_rfl) (by kernel_rfl) (fun _ _ _ h => h) (Or.inl ⟨by rfl, ?_⟩) ?_
      rotate_left 1
      · (intro w; go_simp; with_reducible rfl)
      try simp only [Act.put, List.getElem_toArray, List.getElem_cons_zero, List.getElem_cons_succ, List.setIfInBounds_toArray, List.set_cons_zero, List.set_cons_succ, List.toList_toArray]
      refine wpAny_take (i := 22) (v := ?_) rfl (by kernel_rfl) (by kernel_rfl) (by kernel_rfl) (fun _ _ _ h => h) (Or.inl ⟨by rfl, ?_⟩) ?_
      rotate_left 1
      · (intro w; go_simp; with_reducible rfl)
      try simp only [Act.put, List.getElem_toArray, List.getElem_cons_zero, List.getElem_cons_succ, List.setIfInBounds_toArray, List.set_cons_zero, List.set_cons_succ, List.toList_toArray]
      refine wpAny_take (i := 23) (v := ?_) rfl (by kernel_rfl) (by kernel_rfl) (by kernel_rfl) (fun _ _ _ h => h) (Or.inl ⟨by rfl, ?_⟩) ?_
      rotate_left 1
      · (intro w; go_simp; with_reducible rfl)
      try simp only [Act.put, List.getElem_toArray, List.getElem_cons_zero, List.getElem_cons_succ, List.setIfInBounds_toArray, List.set_cons_zero, List.set_cons_succ, List.toList_toArray]
      refine wpAny_done (by kernel_rfl) ?_ _
      go_wp2
      go_ret
      exact ⟨rfl, R.out.2.2.drew⟩
    focus
      rw [if_pos (by rfl)]
      refine wp_load_mid _ _ rfl _ _ rfl (posC zc) _ (R.out.1.drew.range) Tryd.underlying28 rfl (HINFC.out) ?_
      refine hK _ _ ?_
      clear hK K
      try simp only [Act.put, List.getElem_toArray, List.getElem_cons_zero, List.getElem_cons_succ, List.setIfInBounds_toArray, List.set_cons_zero, List.set_cons_succ, List.toList_toArray]
      refine wpAny_ready (rs := [19]) (by kernel_rfl) (by simp) ?_
      refine AllReady.cons rfl (fun K hK => ?_) (AllReady.nil)
      rw [if_pos (by rfl)]
      refine wp_load_mid _ _ rfl _ _ rfl (posC zc) _ (P7.out.drew.range) Tryd.underlying28 rfl (HINFC.out) ?_
      refine hK _ _ ?_
      clear hK K
      try simp only [Act.put, List.getElem_toArray, List.getElem_cons_zero, List.getElem_cons_succ, List.setIfInBounds_toArray, List.set_cons_zero, List.set_cons_succ, List.toList_toArray]
      refine wpAny_take (i := 21) (v := ?_) rfl (by kernel_rfl) (by kernel_rfl) (by kernel_rfl) (fun _ _ _ h => h) (Or.inl ⟨by rfl, ?_⟩) ?_
      rotate_left 1
      · (intro w; go_simp; with_reducible rfl)
      try simp only [Act.put, List.getElem_toArray, List.getElem_cons_zero, List.getElem_cons_succ, List.setIfInBounds_toArray, List.set_cons_zero, List.set_cons_succ, List.toList_toArray]
      refine wpAny_take (i := 22) (v := ?_) rfl (by kernel_rfl) (by kernel_rfl) (by kernel_rfl) (fun _ _ _ h => h) (Or.inl ⟨by rfl, ?_⟩) ?_
      rotate_left 1
      · (intro w; go_simp; with_reducible rfl)
      try simp only [Act.put, List.getElem_toArray, List.getElem_cons_zero, List.getElem_cons_succ, List.setIfInBounds_toArray, List.set_cons_zero, List.set_cons_succ, List.toList_toArray]
      refine wpAny_take (i := 23) (v := ?_) rfl (by kernel_rfl) (by kernel_rfl) (by kernel_rfl) (fun _ _ _ h => h) (Or.inl ⟨by rfl, ?_⟩) ?_
      rotate_left 1
      · (intro w; go_simp; with_reducible rfl)
      try simp only [Act.put, List.getElem_toArray, List.getElem_cons_zero, List.getElem_cons_succ, List.setIfInBounds_toArray, List.set_cons_zero, List.set_cons_succ, List.toList_toArray]
      refine wpAny_done (by kernel_rfl) ?_ _
      go_wp2
      go_ret
      exact ⟨rfl, R.out.2.2.drew⟩
set_option maxRecDepth 100000 in
set_option maxHeartbeats 8000000 in
theorem walk_true (z : List Int) (f t d : Int) (p : Bool) (hz : z.length = 98) (h8 : I8s z) (hs : HandsIn (newZ z) 0 18 16) (hf : HandsIn (newZ z) (-128) 17 16) (hcan : canF (newZ z) f t d p = true) (w : World) (hH : Home w) :
    Calls Tryd.prog 4 #[.agg (posC z).toArray, .agg #[.int .i64 f, .int .i64 t, .int .i64 d, .bool p]] w fun e w' => e = .returned (.bool true) ∧ Below w.heap.size w w' := by
  have R := Lib.hid (RB.start w z #[.int .i64 f, .int .i64 t, .int .i64 d, .bool p])
  have MT := Lib.hid (fun W (hH : Home W) => makes_true W hH)
  have CL := Lib.hid (fun W => clean_any z hz h8 W)
  have hzc := newZ_len z hz
  have h8c := newZ_8 z h8
  have hcc := newZ_clean z hz
  have SM := Lib.hid (fun W => small_any (newZ z) hzc h8c W)
  have FU := Lib.hid (fun W => full_any (newZ z) hzc h8c W)
  rw [decide_eq_true hs] at SM
  rw [decide_eq_true hf, Bool.not_true] at FU
  have HINF := Lib.hid (show (Tryd.prog.info? 28).map (·.size) = some (posC z).length by rw [posC_len, hz]; exact infoPos)
  have HINFC := Lib.hid (show (Tryd.prog.info? 28).map (·.size) = some (posC (newZ z)).length by rw [posC_len, hzc]; exact infoPos)
  have HSC := Lib.hid (show (posC z).toArray.size = (posC (newZ z)).toArray.size by rw [List.size_toArray, List.size_toArray, posC_len, posC_len, hz, hzc])
  have HH := Lib.hid hH
  have hh : ∀ j, 81 ≤ j → j < 97 → 0 ≤ at8 (newZ z) j ∧ at8 (newZ z) j ≤ 126 := fun j a b => by
    have h1 := hs (j - 81) (by omega)
    have h2 := hf (j - 81) (by omega)
    rw [show 81 + (j - 81) = j by omega] at h1 h2
    omega
  have NE := Lib.hid (fun W => newGame_any (newZ z) hzc h8c W)
  rw [newZ_self (newZ z) hzc hcc] at NE
  have RC := Lib.hid (fun W => refCan_any (newZ z) f t d p hzc h8c W)
  rw [hcan] at RC
  have CA := Lib.hid (fun (g b : Nat) (v : Value) (W : World) (h : Gk W g b (newZ z) v) => can_any g b (newZ z) (ofK (newZ z)) v f t d p hzc h8c W h)
  rw [hcan] at CA
  have EQC := pos_eq (newZ z) hzc
  have MK := Lib.hid (fun (B g b : Nat) (v : Value) (W : World) (hB : B ≤ W.heap.size) (h : Gk W g b (newZ z) v) (hp : Past W B g b v []) => make_yes B g b (newZ z) v [] f t d p hzc h8c hcc hh (by simp) W hB h hp hcan)
  have AF := Lib.hid (fun W => after_yes (newZ z) f t d p hzc h8c hcc hh hcan W)
  have RF := Lib.hid (fun W => refAfter_any (newZ z) f t d p hzc h8c hh hcan W)
  have hzf : (afterZ (newZ z) f t d p).length = 98 := by unfold afterZ; rw [List.length_set, midZ_len, hzc]
  have EQF := pos_eq (afterZ (newZ z) f t d p) hzf
  have HZF := Lib.hid hzf
  have HINFF := Lib.hid (show (Tryd.prog.info? 28).map (·.size) = some (posC (afterZ (newZ z) f t d p)).length by rw [posC_len, hzf]; exact infoPos)
  have HSF := Lib.hid (show Tryd.zeroCells28.size = (posC (afterZ (newZ z) f t d p)).toArray.size from zeroPos_size.trans (by rw [List.size_toArray, posC_len, hzf]))
  have LE := Lib.hid (fun (g b n : Nat) (v : Value) (a : Option Addr) (cap : Nat) (hv : v = .slice a n cap) (W : World) (h : Gk W g b (afterZ (newZ z) f t d p) v) => len_any g b (afterZ (newZ z) f t d p) v n a cap hv W h)
  generalize afterZ (newZ z) f t d p = zf at *
  generalize mdOf (newZ z) f t d p = md at *
  clear hzf
  clear hH hz h8
  clear hs hf hh hcan hzc h8c hcc
  generalize newZ z = zc at *
  go_enter Tryd.func4, Tryd.ntmps4
  go_upto_region 1 with fail
  generalize (w.alloc (.cells (posC z).toArray 28)).alloc (.cells #[.int .i64 f, .int .i64 t, .int .i64 d, .bool p] 54) = w0 at *
  go_upto_region 4 with (first
    | (go_at_call 23; refine (MT.out _ (HH.out.grow R.out.2.2)).mono ?_; rintro e w1 ⟨rfl, hb⟩; have R := Lib.hid (R.out.grow hb); clear hb)
    | (refine wpList_load_mid rfl 28 _ rfl w.heap.size 0 rfl (posC z) _ R.out.1.range Tryd.underlying28 rfl HINF.out ?_)
    | (go_at_call 24; refine (CL.out _).mono ?_; rintro e w2 ⟨rfl, hb⟩; have R := Lib.hid (R.out.grow hb); clear hb)
    | (refine wpList_store_row rfl 28 _ _ rfl w.heap.size (posC zc).toArray rfl rfl 28 _ R.out.1 (by rw [List.size_toArray]; exact HINFC.out) HSC.out (posC_one zc) ?_))
  have R := Lib.hid (R.out.setRow (z' := zc))
  generalize w2.setRow w.heap.size (posC zc).toArray = w3 at *
  have Z0 := Lib.hid (lt_of_row' R.out.2.1)
  go_upto_region 11 with (first
    | (refine load_row_want (by rfl) 28 _ rfl w.heap.size rfl 28 _ _ _ R.out.1 Tryd.underlying28 rfl (by rw [List.size_toArray]; exact HINFC.out) ?_)
    | (refine wpList_load_mid rfl 28 _ rfl w.heap.size 0 rfl (posC zc) _ R.out.1.range Tryd.underlying28 rfl HINFC.out ?_)
    | (go_at_call 25; refine (SM.out _).mono ?_; rintro e w4 ⟨rfl, hb⟩; have R := Lib.hid (R.out.grow hb); clear hb)
    | (go_at_call 26; refine (FU.out _).mono ?_; rintro e w5 ⟨rfl, hb⟩; have R := Lib.hid (R.out.grow hb); clear hb)
    | (go_at_call 27; refine (NE.out _).mono ?_; rintro e w6 ⟨g, b, rfl, hg, hb, hG, hbw⟩; have GE := Lib.hid (And.intro (Nat.lt_of_lt_of_le (lt_of_row' R.out.2.1) hg) (Nat.lt_of_lt_of_le (lt_of_row' R.out.2.1) hb)); have HG := Lib.hid hG; have R := Lib.hid (R.out.grow hbw); clear hg hb hG hbw; obtain ⟨m0, m1, m2, m3⟩ := mv_cells' R.out.2.1)
    | (go_at_call 28; refine (RC.out _).mono ?_; rintro e w7 ⟨rfl, hb⟩; have HG := Lib.hid (HG.out.grow hb); have R := Lib.hid (R.out.grow hb); clear hb m0 m1 m2 m3; obtain ⟨m0, m1, m2, m3⟩ := mv_cells' R.out.2.1)
    | (go_at_call 29; refine (CA.out g b _ _ HG.out).mono ?_; rintro e w8 ⟨rfl, hb⟩; have HG := Lib.hid (HG.out.grow hb); have R := Lib.hid (R.out.grow hb); clear hb m0 m1 m2 m3; obtain ⟨m0, m1, m2, m3⟩ := mv_cells' R.out.2.1)
    | (go_at_call 30; refine (MK.out w.heap.size g b _ _ R.out.2.2.size HG.out (past_new _ _ _ _)).mono ?_; rintro e w9 ⟨rfl, v1, hG, hP, hB⟩; have HG := Lib.hid hG; have HP := Lib.hid hP; have R := Lib.hid (R.out.but3 hB GE.out.1 GE.out.2); clear hG hP hB m0 m1 m2 m3; obtain ⟨m0, m1, m2, m3⟩ := mv_cells' R.out.2.1)
    | (go_at_call 31; refine (AF.out _).mono ?_; rintro e wa ⟨rfl, hb⟩; have HG := Lib.hid (HG.out.grow hb); have R := Lib.hid (R.out.grow hb); have HP := Lib.hid (HP.out.grow hb); clear hb m0 m1 m2 m3; obtain ⟨m0, m1, m2, m3⟩ := mv_cells' R.out.2.1)
    | (refine wpList_store_row rfl 28 _ _ rfl wa.heap.size (posC zf).toArray rfl rfl 28 Tryd.zeroCells28 (heap_alloc_new wa _) (by rw [List.size_toArray]; exact HINFF.out) HSF.out (posC_one zf) ?_))
  have P7 := Lib.hid (fresh_pos wa zf)
  have FB := Lib.hid (fresh_below wa (.cells Tryd.zeroCells28 28) (posC zf).toArray)
  have HG := Lib.hid (HG.out.grow FB.out)
  have R := Lib.hid (R.out.grow FB.out)
  have HP := Lib.hid (HP.out.grow FB.out)
  generalize ha7 : wa.heap.size = a7 at *
  generalize (wa.alloc (.cells Tryd.zeroCells28 28)).setRow a7 (posC zf).toArray = wb at *
  clear ha7 m0 m1 m2 m3 FB
  obtain ⟨m0, m1, m2, m3⟩ := mv_cells' R.out.2.1
  go_upto_region 14 with (first
    | (refine load_row_want (by rfl) 28 _ rfl w.heap.size rfl 28 _ _ _ R.out.1 Tryd.underlying28 rfl (by rw [List.size_toArray]; exact HINFC.out) ?_)
    | (refine wpList_load_mid rfl 28 _ rfl w.heap.size 0 rfl (posC zc) _ R.out.1.range Tryd.underlying28 rfl HINFC.out ?_)
    | (go_at_call 33; refine (RF.out _).mono ?_; rintro e wc ⟨rfl, hb⟩; have HG := Lib.hid (HG.out.grow hb); have R := Lib.hid (R.out.grow hb); have HP := Lib.hid (HP.out.grow hb); have P7 := Lib.hid (P7.out.grow hb); clear hb m0 m1 m2 m3)
    | (refine wpList_store_row rfl 28 _ _ rfl wc.heap.size (posC zf).toArray rfl rfl 28 Tryd.zeroCells28 (heap_alloc_new wc _) (by rw [List.size_toArray]; exact HINFF.out) HSF.out (posC_one zf) ?_))
  have P9 := Lib.hid (fresh_pos wc zf)
  have FB := Lib.hid (fresh_below wc (.cells Tryd.zeroCells28 28) (posC zf).toArray)
  have HG := Lib.hid (HG.out.grow FB.out)
  have R := Lib.hid (R.out.grow FB.out)
  have HP := Lib.hid (HP.out.grow FB.out)
  have P7 := Lib.hid (P7.out.grow FB.out)
  generalize ha9 : wc.heap.size = a9 at *
  generalize (wc.alloc (.cells Tryd.zeroCells28 28)).setRow a9 (posC zf).toArray = wd at *
  clear ha9 FB
  obtain ⟨g0, g1, g2⟩ := HG.out.1.cells
  obtain ⟨a1, cap1, hv1⟩ := past_size HP.out
  have HV := Lib.hid hv1
  clear hv1
  go_wp2_with fail
  refine wp_region_any (by kernel_rfl) ?_
  change wpAny _ _ _ _ _ _ _ (World.drew _)
  refine wpAny_take (i := 0) (v := ?_) rfl (by kernel_rfl) (by kernel_rfl) (by kernel_rfl) (fun _ _ _ h => h) (Or.inl ⟨by rfl, ?_⟩) ?_
  rotate_left 1
  · (intro w; go_simp; with_reducible rfl)
  try simp only [Act.put, List.getElem_toArray, List.getElem_cons_zero, List.getElem_cons_succ, List.setIfInBounds_toArray, List.set_cons_zero, List.set_cons_succ, List.toList_toArray]
  refine wpAny_take (i := 1) (v := ?_) rfl (by kernel_rfl) (by kernel_rfl) (by kernel_rfl) (fun _ _ _ h => h) (Or.inl ⟨by rfl, ?_⟩) ?_
  rotate_left 1
  · (intro w; go_simp; with_reducible rfl)
  try simp only [Act.put, List.getElem_toArray, List.getElem_cons_zero, List.getElem_cons_succ, List.setIfInBounds_toArray, List.set_cons_zero, List.set_cons_succ, List.toList_toArray]
  refine wpAny_take (i := 2) (v := ?_) rfl (by kernel_rfl) (by kernel_rfl) (by kernel_rfl) (fun _ _ _ h => h) (Or.inl ⟨by rfl, ?_⟩) ?_
  rotate_left 1
  · (intro w; go_simp; with_reducible rfl)
  try simp only [Act.put, List.getElem_toArray, List.getElem_cons_zero, List.getElem_cons_succ, List.setIfInBounds_toArray, List.set_cons_zero, List.set_cons_succ, List.toList_toArray]
  refine wpAny_take (i := 3) (v := ?_) rfl (by kernel_rfl) (by kernel_rfl) (by kernel_rfl) (fun _ _ _ h => h) (Or.inl ⟨by rfl, ?_⟩) ?_
  rotate_left 1
  · (intro w; go_simp; with_reducible rfl)
  try simp only [Act.put, List.getElem_toArray, List.getElem_cons_zero, List.getElem_cons_succ, List.setIfInBounds_toArray, List.set_cons_zero, List.set_cons_succ, List.toList_toArray]
  refine wpAny_take (i := 4) (v := ?_) rfl (by kernel_rfl) (by kernel_rfl) (by kernel_rfl) (fun _ _ _ h => h) (Or.inl ⟨by rfl, ?_⟩) ?_
  rotate_left 1
  · (intro w; go_simp; with_reducible rfl)
  try simp only [Act.put, List.getElem_toArray, List.getElem_cons_zero, List.getElem_cons_succ, List.setIfInBounds_toArray, List.set_cons_zero, List.set_cons_succ, List.toList_toArray]
  refine wpAny_ready (rs := [5, 9]) (by kernel_rfl) (by simp) ?_
  refine AllReady.cons rfl (fun K hK => ?_) (AllReady.cons rfl (fun K hK => ?_) (AllReady.nil))
  focus
    go_simp
    refine hK _ _ ?_
    clear hK K
    try simp only [Act.put, List.getElem_toArray, List.getElem_cons_zero, List.getElem_cons_succ, List.setIfInBounds_toArray, List.set_cons_zero, List.set_cons_succ, List.toList_toArray]
    refine wpAny_take (i := 6) (v := ?_) rfl (by kernel_rfl) (by kernel_rfl) (by kernel_rfl) (fun _ _ _ h => h) (Or.inl ⟨by rfl, ?_⟩) ?_
    rotate_left 1
    · (intro w; go_simp; with_reducible rfl)
    try simp only [Act.put, List.getElem_toArray, List.getElem_cons_zero, List.getElem_cons_succ, List.setIfInBounds_toArray, List.set_cons_zero, List.set_cons_succ, List.toList_toArray]
    refine wpAny_take (i := 7) (v := ?_) rfl (by kernel_rfl) (by kernel_rfl) (by kernel_rfl) (fun _ _ _ h => h) (Or.inl ⟨by rfl, ?_⟩) ?_
    rotate_left 1
    · (intro w; go_simp; with_reducible rfl)
    try simp only [Act.put, List.getElem_toArray, List.getElem_cons_zero, List.getElem_cons_succ, List.setIfInBounds_toArray, List.set_cons_zero, List.set_cons_succ, List.toList_toArray]
    refine wpAny_ready (rs := [8, 9]) (by kernel_rfl) (by simp) ?_
    refine AllReady.cons rfl (fun K hK => ?_) (AllReady.cons rfl (fun K hK => ?_) (AllReady.nil))
    focus
      rw [if_pos (by rfl)]
      refine wp_load_mid _ _ rfl _ _ rfl (posC zf) _ (posRangeB (S := setAt zf) HG.out.drew.2.1 HZF.out) Tryd.underlying28 rfl (HINFF.out) ?_
      refine hK _ _ ?_
      clear hK K
      try simp only [Act.put, List.getElem_toArray, List.getElem_cons_zero, List.getElem_cons_succ, List.setIfInBounds_toArray, List.set_cons_zero, List.set_cons_succ, List.toList_toArray]
      refine wpAny_ready (rs := [9]) (by kernel_rfl) (by simp) ?_
      refine AllReady.cons rfl (fun K hK => ?_) (AllReady.nil)
      rw [if_pos (by rfl)]
      refine wp_load_mid _ _ rfl _ _ rfl (posC zf) _ (P9.out.drew.range) Tryd.underlying28 rfl (HINFF.out) ?_
      refine hK _ _ ?_
      clear hK K
      try simp only [Act.put, List.getElem_toArray, List.getElem_cons_zero, List.getElem_cons_succ, List.setIfInBounds_toArray, List.set_cons_zero, List.set_cons_succ, List.toList_toArray]
      refine wpAny_take (i := 10) (v := ?_) rfl (by kernel_rfl) (by kernel_rfl) (by kernel_rfl) (fun _ _ _ h => h) (Or.inl ⟨by rfl, ?_⟩) ?_
      rotate_left 1
      · (intro w; go_simp; with_reducible rfl)
      try simp only [Act.put, List.getElem_toArray, List.getElem_cons_zero, List.getElem_cons_succ, List.setIfInBounds_toArray, List.set_cons_zero, List.set_cons_succ, List.toList_toArray]
      refine wpAny_take (i := 11) (v := ?_) rfl (by kernel_rfl) (by kernel_rfl) (by kernel_rfl) (fun _ _ _ h => h) (Or.inl ⟨by rfl, ?_⟩) ?_
      rotate_left 1
      · (intro w; go_simp; with_reducible rfl)
      try simp only [Act.put, List.getElem_toArray, List.getElem_cons_zero, List.getElem_cons_succ, List.setIfInBounds_toArray, List.set_cons_zero, List.set_cons_succ, List.toList_toArray]
      refine wpAny_take (i := 12) (v := ?_) rfl (by kernel_rfl) (by kernel_rfl) (by kernel_rfl) (fun _ _ _ h => h) (Or.inl ⟨by rfl, ?_⟩) ?_
      rotate_left 1
      · (intro w; go_simp; with_reducible rfl)
      try simp only [Act.put, List.getElem_toArray, List.getElem_cons_zero, List.getElem_cons_succ, List.setIfInBounds_toArray, List.set_cons_zero, List.set_cons_succ, List.toList_toArray]
      refine wpAny_ready (rs := [13, 14]) (by kernel_rfl) (by simp) ?_
      refine AllReady.cons rfl (fun K hK => ?_) (AllReady.cons rfl (fun K hK => ?_) (AllReady.nil))
      focus
        rw [if_pos (by rfl)]
        refine wp_load_mid _ _ rfl _ _ rfl (posC zf) _ (P7.out.drew.range) Tryd.underlying28 rfl (HINFF.out) ?_
        refine hK _ _ ?_
        clear hK K
        try simp only [Act.put, List.getElem_toArray, List.getElem_cons_zero, List.getElem_cons_succ, List.setIfInBounds_toArray, List.set_cons_zero, List.set_cons_succ, List.toList_toArray]
        refine wpAny_ready (rs := [14]) (by kernel_rfl) (by simp) ?_
        refine AllReady.cons rfl (fun K hK => ?_) (AllReady.nil)
        rw [if_pos (by rfl)]
        refine wp_load_mid _ _ rfl _ _ rfl (posC zf) _ (P9.out.drew.range) Tryd.underlying28 rfl (HINFF.out) ?_
        refine hK _ _ ?_
        clear hK K
        try simp only [Act.put, List.getElem_toArray, List.getElem_cons_zero, List.getElem_cons_succ, List.setIfInBounds_toArray, List.set_cons_zero, List.set_cons_succ, List.toList_toArray]
        refine wpAny_take (i := 15) (v := ?_) rfl (by kernel_rfl) (by kernel_rfl) (by kernel_rfl) (fun _ _ _ h => h) (Or.inl ⟨by rfl, ?_⟩) ?_
        rotate_left 1
        · (intro w; go_simp; with_reducible rfl)
        try simp only [Act.put, List.getElem_toArray, List.getElem_cons_zero, List.getElem_cons_succ, List.setIfInBounds_toArray, List.set_cons_zero, List.set_cons_succ, List.toList_toArray]
        refine wpAny_take (i := 16) (v := ?_) rfl (by kernel_rfl) (by kernel_rfl) (by kernel_rfl) (fun _ _ _ h => h) (Or.inl ⟨by rfl, ?_⟩) ?_
        rotate_left 1
        · (intro w; go_simp; with_reducible rfl)
        try simp only [Act.put, List.getElem_toArray, List.getElem_cons_zero, List.getElem_cons_succ, List.setIfInBounds_toArray, List.set_cons_zero, List.set_cons_succ, List.toList_toArray]
        refine wpAny_take (i := 17) (v := ?_) rfl (by kernel_rfl) (by kernel_rfl) (by kernel_rfl) (fun _ _ _ h => h) (Or.inl ⟨by rfl, ?_⟩) ?_
        rotate_left 1
        · (intro w; go_simp; with_reducible rfl)
        try simp only [Act.put, List.getElem_toArray, List.getElem_cons_zero, List.getElem_cons_succ, List.setIfInBounds_toArray, List.set_cons_zero, List.set_cons_succ, List.toList_toArray]
        refine wpAny_take (i := 18) (v := ?_) rfl (by kernel_rfl) (by kernel_rfl) (by kernel_rfl) (fun _ _ _ h => h) (Or.inl ⟨by rfl, ?_⟩) ?_
        rotate_left 1
        · (intro w; go_simp; with_reducible rfl)
        try simp only [Act.put, List.getElem_toArray, List.getElem_cons_zero, List.getElem_cons_succ, List.setIfInBounds_toArray, List.set_cons_zero, List.set_cons_succ, List.toList_toArray]
        refine wpAny_ready (rs := [19]) (by kernel_rfl) (by simp) ?_
        refine AllReady.cons rfl (fun K hK => ?_) (AllReady.nil)
        go_simp
        go_wp2_with (go_at_call 32; refine (LE.out g b 1 v1 a1 cap1 HV.out _ HG.out.drew).mono ?_; rintro e wl ⟨rfl, rfl⟩)
        refine wpAny_take (i := 20) (v := ?_) rfl (by kernel_rfl) (by kernel_rfl) (by kernel_rfl) (fun _ _ _ h => h) (Or.inl ⟨by rfl, ?_⟩) ?_
        rotate_left 1
        · (intro w; go_simp; with_reducible rfl)
        try simp only [Act.put, List.getElem_toArray, List.getElem_cons_zero, List.getElem_cons_succ, List.setIfInBounds_toArray, List.set_cons_zero, List.set_cons_succ, List.toList_toArray]
        refine wpAny_take (i := 21) (v := ?_) rfl (by kernel_rfl) (by kernel_rfl) (by kernel_rfl) (fun _ _ _ h => h) (Or.inl ⟨by rfl, ?_⟩) ?_
        rotate_left 1
        · (intro w; go_simp; with_reducible rfl)
        try simp only [Act.put, List.getElem_toArray, List.getElem_cons_zero, List.getElem_cons_succ, List.setIfInBounds_toArray, List.set_cons_zero, List.set_cons_succ, List.toList_toArray]
        refine wpAny_take (i := 22) (v := ?_) rfl (by kernel_rfl) (by kernel_rfl) (by kernel_rfl) (fun _ _ _ h => h) (Or.inl ⟨by rfl, ?_⟩) ?_
        rotate_left 1
        · (intro w; go_simp; with_reducible rfl)
        try simp only [Act.put, List.getElem_toArray, List.getElem_cons_zero, List.getElem_cons_succ, List.setIfInBounds_toArray, List.set_cons_zero, List.set_cons_succ, List.toList_toArray]
        refine wpAny_done (by kernel_rfl) ?_ _
        go_wp2
        go_ret
        exact ⟨rfl, R.out.2.2.drew⟩
      focus
        rw [if_pos (by rfl)]
        refine wp_load_mid _ _ rfl _ _ rfl (posC zf) _ (P9.out.drew.range) Tryd.underlying28 rfl (HINFF.out) ?_
        refine hK _ _ ?_
        clear hK K
        try simp only [Act.put, List.getElem_toArray, List.getElem_cons_zero, List.getElem_cons_succ, List.setIfInBounds_toArray, List.set_cons_zero, List.set_cons_succ, List.toList_toArray]
        refine wpAny_ready (rs := [13]) (by kernel_rfl) (by simp) ?_
        refine AllReady.cons rfl (fun K hK => ?_) (AllReady.nil)
        rw [if_pos (by rfl)]
        refine wp_load_mid _ _ rfl _ _ rfl (posC zf) _ (P7.out.drew.range) Tryd.underlying28 rfl (HINFF.out) ?_
        refine hK _ _ ?_
        clear hK K
        try simp only [Act.put, List.getElem_toArray, List.getElem_cons_zero, List.getElem_cons_succ, List.setIfInBounds_toArray, List.set_cons_zero, List.set_cons_succ, List.toList_toArray]
        refine wpAny_take (i := 15) (v := ?_) rfl (by kernel_rfl) (by kernel_rfl) (by kernel_rfl) (fun _ _ _ h => h) (Or.inl ⟨by rfl, ?_⟩) ?_
        rotate_left 1
        · (intro w; go_simp; with_reducible rfl)
        try simp only [Act.put, List.getElem_toArray, List.getElem_cons_zero, List.getElem_cons_succ, List.setIfInBounds_toArray, List.set_cons_zero, List.set_cons_succ, List.toList_toArray]
        refine wpAny_take (i := 16) (v := ?_) rfl (by kernel_rfl) (by kernel_rfl) (by kernel_rfl) (fun _ _ _ h => h) (Or.inl ⟨by rfl, ?_⟩) ?_
        rotate_left 1
        · (intro w; go_simp; with_reducible rfl)
        try simp only [Act.put, List.getElem_toArray, List.getElem_cons_zero, List.getElem_cons_succ, List.setIfInBounds_toArray, List.set_cons_zero, List.set_cons_succ, List.toList_toArray]
        refine wpAny_take (i := 17) (v := ?_) rfl (by kernel_rfl) (by kernel_rfl) (by kernel_rfl) (fun _ _ _ h => h) (Or.inl ⟨by rfl, ?_⟩) ?_
        rotate_left 1
        · (intro w; go_simp; with_reducible rfl)
        try simp only [Act.put, List.getElem_toArray, List.getElem_cons_zero, List.getElem_cons_succ, List.setIfInBounds_toArray, List.set_cons_zero, List.set_cons_succ, List.toList_toArray]
        refine wpAny_take (i := 18) (v := ?_) rfl (by kernel_rfl) (by kernel_rfl) (by kernel_rfl) (fun _ _ _ h => h) (Or.inl ⟨by rfl, ?_⟩) ?_
        rotate_left 1
        · (intro w; go_simp; with_reducible rfl)
        try simp only [Act.put, List.getElem_toArray, List.getElem_cons_zero, List.getElem_cons_succ, List.setIfInBounds_toArray, List.set_cons_zero, List.set_cons_succ, List.toList_toArray]
        refine wpAny_ready (rs := [19]) (by kernel_rfl) (by simp) ?_
        refine AllReady.cons rfl (fun K hK => ?_) (AllReady.nil)
        go_simp
        go_wp2_with (go_at_call 32; refine (LE.out g b 1 v1 a1 cap1 HV.out _ HG.out.drew).mono ?_; rintro e wl ⟨rfl, rfl⟩)
        refine wpAny_take (i := 20) (v := ?_) rfl (by kernel_rfl) (by kernel_rfl) (by kernel_rfl) (fun _ _ _ h => h) (Or.inl ⟨by rfl, ?_⟩) ?_
        rotate_left 1
        · (intro w; go_simp; with_reducible rfl)
        try simp only [Act.put, List.getElem_toArray, List.getElem_cons_zero, List.getElem_cons_succ, List.setIfInBounds_toArray, List.set_cons_zero, List.set_cons_succ, List.toList_toArray]
        refine wpAny_take (i := 21) (v := ?_) rfl (by kernel_rfl) (by kernel_rfl) (by kernel_rfl) (fun _ _ _ h => h) (Or.inl ⟨by rfl, ?_⟩) ?_
        rotate_left 1
        · (intro w; go_simp; with_reducible rfl)
        try simp only [Act.put, List.getElem_toArray, List.getElem_cons_zero, List.getElem_cons_succ, List.setIfInBounds_toArray, List.set_cons_zero, List.set_cons_succ, List.toList_toArray]
        refine wpAny_take (i := 22) (v := ?_) rfl (by kernel_rfl) (by kernel_rfl) (by kernel_rfl) (fun _ _ _ h => h) (Or.inl ⟨by rfl, ?_⟩) ?_
        rotate_left 1
        · (intro w; go_simp; with_reducible rfl)
        try simp only [Act.put, List.getElem_toArray, List.getElem_cons_zero, List.getElem_cons_succ, List.setIfInBounds_toArray, List.set_cons_zero, List.set_cons_succ, List.toList_toArray]
        refine wpAny_done (by kernel_rfl) ?_ _
        go_wp2
        go_ret
        exact ⟨rfl, R.out.2.2.drew⟩
    focus
      rw [if_pos (by rfl)]
      refine wp_load_mid _ _ rfl _ _ rfl (posC zf) _ (P9.out.drew.range) Tryd.underlying28 rfl (HINFF.out) ?_
      refine hK _ _ ?_
      clear hK K
      try simp only [Act.put, List.getElem_toArray, List.getElem_cons_zero, List.getElem_cons_succ, List.setIfInBounds_toArray, List.set_cons_zero, List.set_cons_succ, List.toList_toArray]
      refine wpAny_ready (rs := [8]) (by kernel_rfl) (by simp) ?_
      refine AllReady.cons rfl (fun K hK => ?_) (AllReady.nil)
      rw [if_pos (by rfl)]
      refine wp_load_mid _ _ rfl _ _ rfl (posC zf) _ (posRangeB (S := setAt zf) HG.out.drew.2.1 HZF.out) Tryd.underlying28 rfl (HINFF.out) ?_
      refine hK _ _ ?_
      clear hK K
      try simp only [Act.put, List.getElem_toArray, List.getElem_cons_zero, List.getElem_cons_succ, List.setIfInBounds_toArray, List.set_cons_zero, List.set_cons_succ, List.toList_toArray]
      refine wpAny_take (i := 10) (v := ?_) rfl (by kernel_rfl) (by kernel_rfl) (by kernel_rfl) (fun _ _ _ h => h) (Or.inl ⟨by rfl, ?_⟩) ?_
      rotate_left 1
      · (intro w; go_simp; with_reducible rfl)
      try simp only [Act.put, List.getElem_toArray, List.getElem_cons_zero, List.getElem_cons_succ, List.setIfInBounds_toArray, List.set_cons_zero, List.set_cons_succ, List.toList_toArray]
      refine wpAny_take (i := 11) (v := ?_) rfl (by kernel_rfl) (by kernel_rfl) (by kernel_rfl) (fun _ _ _ h => h) (Or.inl ⟨by rfl, ?_⟩) ?_
      rotate_left 1
      · (intro w; go_simp; with_reducible rfl)
      try simp only [Act.put, List.getElem_toArray, List.getElem_cons_zero, List.getElem_cons_succ, List.setIfInBounds_toArray, List.set_cons_zero, List.set_cons_succ, List.toList_toArray]
      refine wpAny_take (i := 12) (v := ?_) rfl (by kernel_rfl) (by kernel_rfl) (by kernel_rfl) (fun _ _ _ h => h) (Or.inl ⟨by rfl, ?_⟩) ?_
      rotate_left 1
      · (intro w; go_simp; with_reducible rfl)
      try simp only [Act.put, List.getElem_toArray, List.getElem_cons_zero, List.getElem_cons_succ, List.setIfInBounds_toArray, List.set_cons_zero, List.set_cons_succ, List.toList_toArray]
      refine wpAny_ready (rs := [13, 14]) (by kernel_rfl) (by simp) ?_
      refine AllReady.cons rfl (fun K hK => ?_) (AllReady.cons rfl (fun K hK => ?_) (AllReady.nil))
      focus
        rw [if_pos (by rfl)]
        refine wp_load_mid _ _ rfl _ _ rfl (posC zf) _ (P7.out.drew.range) Tryd.underlying28 rfl (HINFF.out) ?_
        refine hK _ _ ?_
        clear hK K
        try simp only [Act.put, List.getElem_toArray, List.getElem_cons_zero, List.getElem_cons_succ, List.setIfInBounds_toArray, List.set_cons_zero, List.set_cons_succ, List.toList_toArray]
        refine wpAny_ready (rs := [14]) (by kernel_rfl) (by simp) ?_
        refine AllReady.cons rfl (fun K hK => ?_) (AllReady.nil)
        rw [if_pos (by rfl)]
        refine wp_load_mid _ _ rfl _ _ rfl (posC zf) _ (P9.out.drew.range) Tryd.underlying28 rfl (HINFF.out) ?_
        refine hK _ _ ?_
        clear hK K
        try simp only [Act.put, List.getElem_toArray, List.getElem_cons_zero, List.getElem_cons_succ, List.setIfInBounds_toArray, List.set_cons_zero, List.set_cons_succ, List.toList_toArray]
        refine wpAny_take (i := 15) (v := ?_) rfl (by kernel_rfl) (by kernel_rfl) (by kernel_rfl) (fun _ _ _ h => h) (Or.inl ⟨by rfl, ?_⟩) ?_
        rotate_left 1
        · (intro w; go_simp; with_reducible rfl)
        try simp only [Act.put, List.getElem_toArray, List.getElem_cons_zero, List.getElem_cons_succ, List.setIfInBounds_toArray, List.set_cons_zero, List.set_cons_succ, List.toList_toArray]
        refine wpAny_take (i := 16) (v := ?_) rfl (by kernel_rfl) (by kernel_rfl) (by kernel_rfl) (fun _ _ _ h => h) (Or.inl ⟨by rfl, ?_⟩) ?_
        rotate_left 1
        · (intro w; go_simp; with_reducible rfl)
        try simp only [Act.put, List.getElem_toArray, List.getElem_cons_zero, List.getElem_cons_succ, List.setIfInBounds_toArray, List.set_cons_zero, List.set_cons_succ, List.toList_toArray]
        refine wpAny_take (i := 17) (v := ?_) rfl (by kernel_rfl) (by kernel_rfl) (by kernel_rfl) (fun _ _ _ h => h) (Or.inl ⟨by rfl, ?_⟩) ?_
        rotate_left 1
        · (intro w; go_simp; with_reducible rfl)
        try simp only [Act.put, List.getElem_toArray, List.getElem_cons_zero, List.getElem_cons_succ, List.setIfInBounds_toArray, List.set_cons_zero, List.set_cons_succ, List.toList_toArray]
        refine wpAny_take (i := 18) (v := ?_) rfl (by kernel_rfl) (by kernel_rfl) (by kernel_rfl) (fun _ _ _ h => h) (Or.inl ⟨by rfl, ?_⟩) ?_
        rotate_left 1
        · (intro w; go_simp; with_reducible rfl)
        try simp only [Act.put, List.getElem_toArray, List.getElem_cons_zero, List.getElem_cons_succ, List.setIfInBounds_toArray, List.set_cons_zero, List.set_cons_succ, List.toList_toArray]
        refine wpAny_ready (rs := [19]) (by kernel_rfl) (by simp) ?_
        refine AllReady.cons rfl (fun K hK => ?_) (AllReady.nil)
        go_simp
        go_wp2_with (go_at_call 32; refine (LE.out g b 1 v1 a1 cap1 HV.out _ HG.out.drew).mono ?_; rintro e wl ⟨rfl, rfl⟩)
        refine wpAny_take (i := 20) (v := ?_) rfl (by kernel_rfl) (by kernel_rfl) (by kernel_rfl) (fun _ _ _ h => h) (Or.inl ⟨by rfl, ?_⟩) ?_
        rotate_left 1
        · (intro w; go_simp; with_reducible rfl)
        try simp only [Act.put, List.getElem_toArray, List.getElem_cons_zero, List.getElem_cons_succ, List.setIfInBounds_toArray, List.set_cons_zero, List.set_cons_succ, List.toList_toArray]
        refine wpAny_take (i := 21) (v := ?_) rfl (by kernel_rfl) (by kernel_rfl) (by kernel_rfl) (fun _ _ _ h => h) (Or.inl ⟨by rfl, ?_⟩) ?_
        rotate_left 1
        · (intro w; go_simp; with_reducible rfl)
        try simp only [Act.put, List.getElem_toArray, List.getElem_cons_zero, List.getElem_cons_succ, List.setIfInBounds_toArray, List.set_cons_zero, List.set_cons_succ, List.toList_toArray]
        refine wpAny_take (i := 22) (v := ?_) rfl (by kernel_rfl) (by kernel_rfl) (by kernel_rfl) (fun _ _ _ h => h) (Or.inl ⟨by rfl, ?_⟩) ?_
        rotate_left 1
        · (intro w; go_simp; with_reducible rfl)
        try simp only [Act.put, List.getElem_toArray, List.getElem_cons_zero, List.getElem_cons_succ, List.setIfInBounds_toArray, List.set_cons_zero, List.set_cons_succ, List.toList_toArray]
        refine wpAny_done (by kernel_rfl) ?_ _
        go_wp2
        go_ret
        exact ⟨rfl, R.out.2.2.drew⟩
      focus
        rw [if_pos (by rfl)]
        refine wp_load_mid _ _ rfl _ _ rfl (posC zf) _ (P9.out.drew.range) Tryd.underlying28 rfl (HINFF.out) ?_
        refine hK _ _ ?_
        clear hK K
        try simp only [Act.put, List.getElem_toArray, List.getElem_cons_zero, List.getElem_cons_succ, List.setIfInBounds_toArray, List.set_cons_zero, List.set_cons_succ, List.toList_toArray]
        refine wpAny_ready (rs := [13]) (by kernel_rfl) (by simp) ?_
        refine AllReady.cons rfl (fun K hK => ?_) (AllReady.nil)
        rw [if_pos (by rfl)]
        refine wp_load_mid _ _ rfl _ _ rfl (posC zf) _ (P7.out.drew.range) Tryd.underlying28 rfl (HINFF.out) ?_
        refine hK _ _ ?_
        clear hK K
        try simp only [Act.put, List.getElem_toArray, List.getElem_cons_zero, List.getElem_cons_succ, List.setIfInBounds_toArray, List.set_cons_zero, List.set_cons_succ, List.toList_toArray]
        refine wpAny_take (i := 15) (v := ?_) rfl (by kernel_rfl) (by kernel_rfl) (by kernel_rfl) (fun _ _ _ h => h) (Or.inl ⟨by rfl, ?_⟩) ?_
        rotate_left 1
        · (intro w; go_simp; with_reducible rfl)
        try simp only [Act.put, List.getElem_toArray, List.getElem_cons_zero, List.getElem_cons_succ, List.setIfInBounds_toArray, List.set_cons_zero, List.set_cons_succ, List.toList_toArray]
        refine wpAny_take (i := 16) (v := ?_) rfl (by kernel_rfl) (by kernel_rfl) (by kernel_rfl) (fun _ _ _ h => h) (Or.inl ⟨by rfl, ?_⟩) ?_
        rotate_left 1
        · (intro w; go_simp; with_reducible rfl)
        try simp only [Act.put, List.getElem_toArray, List.getElem_cons_zero, List.getElem_cons_succ, List.setIfInBounds_toArray, List.set_cons_zero, List.set_cons_succ, List.toList_toArray]
        refine wpAny_take (i := 17) (v := ?_) rfl (by kernel_rfl) (by kernel_rfl) (by kernel_rfl) (fun _ _ _ h => h) (Or.inl ⟨by rfl, ?_⟩) ?_
        rotate_left 1
        · (intro w; go_simp; with_reducible rfl)
        try simp only [Act.put, List.getElem_toArray, List.getElem_cons_zero, List.getElem_cons_succ, List.setIfInBounds_toArray, List.set_cons_zero, List.set_cons_succ, List.toList_toArray]
        refine wpAny_take (i := 18) (v := ?_) rfl (by kernel_rfl) (by kernel_rfl) (by kernel_rfl) (fun _ _ _ h => h) (Or.inl ⟨by rfl, ?_⟩) ?_
        rotate_left 1
        · (intro w; go_simp; with_reducible rfl)
        try simp only [Act.put, List.getElem_toArray, List.getElem_cons_zero, List.getElem_cons_succ, List.setIfInBounds_toArray, List.set_cons_zero, List.set_cons_succ, List.toList_toArray]
        refine wpAny_ready (rs := [19]) (by kernel_rfl) (by simp) ?_
        refine AllReady.cons rfl (fun K hK => ?_) (AllReady.nil)
        go_simp
        go_wp2_with (go_at_call 32; refine (LE.out g b 1 v1 a1 cap1 HV.out _ HG.out.drew).mono ?_; rintro e wl ⟨rfl, rfl⟩)
        refine wpAny_take (i := 20) (v := ?_) rfl (by kernel_rfl) (by kernel_rfl) (by kernel_rfl) (fun _ _ _ h => h) (Or.inl ⟨by rfl, ?_⟩) ?_
        rotate_left 1
        · (intro w; go_simp; with_reducible rfl)
        try simp only [Act.put, List.getElem_toArray, List.getElem_cons_zero, List.getElem_cons_succ, List.setIfInBounds_toArray, List.set_cons_zero, List.set_cons_succ, List.toList_toArray]
        refine wpAny_take (i := 21) (v := ?_) rfl (by kernel_rfl) (by kernel_rfl) (by kernel_rfl) (fun _ _ _ h => h) (Or.inl ⟨by rfl, ?_⟩) ?_
        rotate_left 1
        · (intro w; go_simp; with_reducible rfl)
        try simp only [Act.put, List.getElem_toArray, List.getElem_cons_zero, List.getElem_cons_succ, List.setIfInBounds_toArray, List.set_cons_zero, List.set_cons_succ, List.toList_toArray]
        refine wpAny_take (i := 22) (v := ?_) rfl (by kernel_rfl) (by kernel_rfl) (by kernel_rfl) (fun _ _ _ h => h) (Or.inl ⟨by rfl, ?_⟩) ?_
        rotate_left 1
        · (intro w; go_simp; with_reducible rfl)
        try simp only [Act.put, List.getElem_toArray, List.getElem_cons_zero, List.getElem_cons_succ, List.setIfInBounds_toArray, List.set_cons_zero, List.set_cons_succ, List.toList_toArray]
        refine wpAny_done (by kernel_rfl) ?_ _
        go_wp2
        go_ret
        exact ⟨rfl, R.out.2.2.drew⟩
  focus
    rw [if_pos (by rfl)]
    refine wp_load_mid _ _ rfl _ _ rfl (posC zf) _ (P9.out.drew.range) Tryd.underlying28 rfl (HINFF.out) ?_
    refine hK _ _ ?_
    clear hK K
    try simp only [Act.put, List.getElem_toArray, List.getElem_cons_zero, List.getElem_cons_succ, List.setIfInBounds_toArray, List.set_cons_zero, List.set_cons_succ, List.toList_toArray]
    refine wpAny_ready (rs := [5]) (by kernel_rfl) (by simp) ?_
    refine AllReady.cons rfl (fun K hK => ?_) (AllReady.nil)
    go_simp
    refine hK _ _ ?_
    clear hK K
    try simp only [Act.put, List.getElem_toArray, List.getElem_cons_zero, List.getElem_cons_succ, List.setIfInBounds_toArray, List.set_cons_zero, List.set_cons_succ, List.toList_toArray]
    refine wpAny_take (i := 6) (v := ?_) rfl (by kernel_rfl) (by kernel_rfl) (by kernel_rfl) (fun _ _ _ h => h) (Or.inl ⟨by rfl, ?_⟩) ?_
    rotate_left 1
    · (intro w; go_simp; with_reducible rfl)
    try simp only [Act.put, List.getElem_toArray, List.getElem_cons_zero, List.getElem_cons_succ, List.setIfInBounds_toArray, List.set_cons_zero, List.set_cons_succ, List.toList_toArray]
    refine wpAny_take (i := 7) (v := ?_) rfl (by kernel_rfl) (by kernel_rfl) (by kernel_rfl) (fun _ _ _ h => h) (Or.inl ⟨by rfl, ?_⟩) ?_
    rotate_left 1
    · (intro w; go_simp; with_reducible rfl)
    try simp only [Act.put, List.getElem_toArray, List.getElem_cons_zero, List.getElem_cons_succ, List.setIfInBounds_toArray, List.set_cons_zero, List.set_cons_succ, List.toList_toArray]
    refine wpAny_ready (rs := [8]) (by kernel_rfl) (by simp) ?_
    refine AllReady.cons rfl (fun K hK => ?_) (AllReady.nil)
    rw [if_pos (by rfl)]
    refine wp_load_mid _ _ rfl _ _ rfl (posC zf) _ (posRangeB (S := setAt zf) HG.out.drew.2.1 HZF.out) Tryd.underlying28 rfl (HINFF.out) ?_
    refine hK _ _ ?_
    clear hK K
    try simp only [Act.put, List.getElem_toArray, List.getElem_cons_zero, List.getElem_cons_succ, List.setIfInBounds_toArray, List.set_cons_zero, List.set_cons_succ, List.toList_toArray]
    refine wpAny_take (i := 10) (v := ?_) rfl (by kernel_rfl) (by kernel_rfl) (by kernel_rfl) (fun _ _ _ h => h) (Or.inl ⟨by rfl, ?_⟩) ?_
    rotate_left 1
    · (intro w; go_simp; with_reducible rfl)
    try simp only [Act.put, List.getElem_toArray, List.getElem_cons_zero, List.getElem_cons_succ, List.setIfInBounds_toArray, List.set_cons_zero, List.set_cons_succ, List.toList_toArray]
    refine wpAny_take (i := 11) (v := ?_) rfl (by kernel_rfl) (by kernel_rfl) (by kernel_rfl) (fun _ _ _ h => h) (Or.inl ⟨by rfl, ?_⟩) ?_
    rotate_left 1
    · (intro w; go_simp; with_reducible rfl)
    try simp only [Act.put, List.getElem_toArray, List.getElem_cons_zero, List.getElem_cons_succ, List.setIfInBounds_toArray, List.set_cons_zero, List.set_cons_succ, List.toList_toArray]
    refine wpAny_take (i := 12) (v := ?_) rfl (by kernel_rfl) (by kernel_rfl) (by kernel_rfl) (fun _ _ _ h => h) (Or.inl ⟨by rfl, ?_⟩) ?_
    rotate_left 1
    · (intro w; go_simp; with_reducible rfl)
    try simp only [Act.put, List.getElem_toArray, List.getElem_cons_zero, List.getElem_cons_succ, List.setIfInBounds_toArray, List.set_cons_zero, List.set_cons_succ, List.toList_toArray]
    refine wpAny_ready (rs := [13, 14]) (by kernel_rfl) (by simp) ?_
    refine AllReady.cons rfl (fun K hK => ?_) (AllReady.cons rfl (fun K hK => ?_) (AllReady.nil))
    focus
      rw [if_pos (by rfl)]
      refine wp_load_mid _ _ rfl _ _ rfl (posC zf) _ (P7.out.drew.range) Tryd.underlying28 rfl (HINFF.out) ?_
      refine hK _ _ ?_
      clear hK K
      try simp only [Act.put, List.getElem_toArray, List.getElem_cons_zero, List.getElem_cons_succ, List.setIfInBounds_toArray, List.set_cons_zero, List.set_cons_succ, List.toList_toArray]
      refine wpAny_ready (rs := [14]) (by kernel_rfl) (by simp) ?_
      refine AllReady.cons rfl (fun K hK => ?_) (AllReady.nil)
      rw [if_pos (by rfl)]
      refine wp_load_mid _ _ rfl _ _ rfl (posC zf) _ (P9.out.drew.range) Tryd.underlying28 rfl (HINFF.out) ?_
      refine hK _ _ ?_
      clear hK K
      try simp only [Act.put, List.getElem_toArray, List.getElem_cons_zero, List.getElem_cons_succ, List.setIfInBounds_toArray, List.set_cons_zero, List.set_cons_succ, List.toList_toArray]
      refine wpAny_take (i := 15) (v := ?_) rfl (by kernel_rfl) (by kernel_rfl) (by kernel_rfl) (fun _ _ _ h => h) (Or.inl ⟨by rfl, ?_⟩) ?_
      rotate_left 1
      · (intro w; go_simp; with_reducible rfl)
      try simp only [Act.put, List.getElem_toArray, List.getElem_cons_zero, List.getElem_cons_succ, List.setIfInBounds_toArray, List.set_cons_zero, List.set_cons_succ, List.toList_toArray]
      refine wpAny_take (i := 16) (v := ?_) rfl (by kernel_rfl) (by kernel_rfl) (by kernel_rfl) (fun _ _ _ h => h) (Or.inl ⟨by rfl, ?_⟩) ?_
      rotate_left 1
      · (intro w; go_simp; with_reducible rfl)
      try simp only [Act.put, List.getElem_toArray, List.getElem_cons_zero, List.getElem_cons_succ, List.setIfInBounds_toArray, List.set_cons_zero, List.set_cons_succ, List.toList_toArray]
      refine wpAny_take (i := 17) (v := ?_) rfl (by kernel_rfl) (by kernel_rfl) (by kernel_rfl) (fun _ _ _ h => h) (Or.inl ⟨by rfl, ?_⟩) ?_
      rotate_left 1
      · (intro w; go_simp; with_reducible rfl)
      try simp only [Act.put, List.getElem_toArray, List.getElem_cons_zero, List.getElem_cons_succ, List.setIfInBounds_toArray, List.set_cons_zero, List.set_cons_succ, List.toList_toArray]
      refine wpAny_take (i := 18) (v := ?_) rfl (by kernel_rfl) (by kernel_rfl) (by kernel_rfl) (fun _ _ _ h => h) (Or.inl ⟨by rfl, ?_⟩) ?_
      rotate_left 1
      · (intro w; go_simp; with_reducible rfl)
      try simp only [Act.put, List.getElem_toArray, List.getElem_cons_zero, List.getElem_cons_succ, List.setIfInBounds_toArray, List.set_cons_zero, List.set_cons_succ, List.toList_toArray]
      refine wpAny_ready (rs := [19]) (by kernel_rfl) (by simp) ?_
      refine AllReady.cons rfl (fun K hK => ?_) (AllReady.nil)
      go_simp
      go_wp2_with (go_at_call 32; refine (LE.out g b 1 v1 a1 cap1 HV.out _ HG.out.drew).mono ?_; rintro e wl ⟨rfl, rfl⟩)
      refine wpAny_take (i := 20) (v := ?_) rfl (by kernel_rfl) (by kernel_rfl) (by kernel_rfl) (fun _ _ _ h => h) (Or.inl ⟨by rfl, ?_⟩) ?_
      rotate_left 1
      · (intro w; go_simp; with_reducible rfl)
      try simp only [Act.put, List.getElem_toArray, List.getElem_cons_zero, List.getElem_cons_succ, List.setIfInBounds_toArray, List.set_cons_zero, List.set_cons_succ, List.toList_toArray]
      refine wpAny_take (i := 21) (v := ?_) rfl (by kernel_rfl) (by kernel_rfl) (by kernel_rfl) (fun _ _ _ h => h) (Or.inl ⟨by rfl, ?_⟩) ?_
      rotate_left 1
      · (intro w; go_simp; with_reducible rfl)
      try simp only [Act.put, List.getElem_toArray, List.getElem_cons_zero, List.getElem_cons_succ, List.setIfInBounds_toArray, List.set_cons_zero, List.set_cons_succ, List.toList_toArray]
      refine wpAny_take (i := 22) (v := ?_) rfl (by kernel_rfl) (by kernel_rfl) (by kernel_rfl) (fun _ _ _ h => h) (Or.inl ⟨by rfl, ?_⟩) ?_
      rotate_left 1
      · (intro w; go_simp; with_reducible rfl)
      try simp only [Act.put, List.getElem_toArray, List.getElem_cons_zero, List.getElem_cons_succ, List.setIfInBounds_toArray, List.set_cons_zero, List.set_cons_succ, List.toList_toArray]
      refine wpAny_done (by kernel_rfl) ?_ _
      go_wp2
      go_ret
      exact ⟨rfl, R.out.2.2.drew⟩
    focus
      rw [if_pos (by rfl)]
      refine wp_load_mid _ _ rfl _ _ rfl (posC zf) _ (P9.out.drew.range) Tryd.underlying28 rfl (HINFF.out) ?_
      refine hK _ _ ?_
      clear hK K
      try simp only [Act.put, List.getElem_toArray, List.getElem_cons_zero, List.getElem_cons_succ, List.setIfInBounds_toArray, List.set_cons_zero, List.set_cons_succ, List.toList_toArray]
      refine wpAny_ready (rs := [13]) (by kernel_rfl) (by simp) ?_
      refine AllReady.cons rfl (fun K hK => ?_) (AllReady.nil)
      rw [if_pos (by rfl)]
      refine wp_load_mid _ _ rfl _ _ rfl (posC zf) _ (P7.out.drew.range) Tryd.underlying28 rfl (HINFF.out) ?_
      refine hK _ _ ?_
      clear hK K
      try simp only [Act.put, List.getElem_toArray, List.getElem_cons_zero, List.getElem_cons_succ, List.setIfInBounds_toArray, List.set_cons_zero, List.set_cons_succ, List.toList_toArray]
      refine wpAny_take (i := 15) (v := ?_) rfl (by kernel_rfl) (by kernel_rfl) (by kernel_rfl) (fun _ _ _ h => h) (Or.inl ⟨by rfl, ?_⟩) ?_
      rotate_left 1
      · (intro w; go_simp; with_reducible rfl)
      try simp only [Act.put, List.getElem_toArray, List.getElem_cons_zero, List.getElem_cons_succ, List.setIfInBounds_toArray, List.set_cons_zero, List.set_cons_succ, List.toList_toArray]
      refine wpAny_take (i := 16) (v := ?_) rfl (by kernel_rfl) (by kernel_rfl) (by kernel_rfl) (fun _ _ _ h => h) (Or.inl ⟨by rfl, ?_⟩) ?_
      rotate_left 1
      · (intro w; go_simp; with_reducible rfl)
      try simp only [Act.put, List.getElem_toArray, List.getElem_cons_zero, List.getElem_cons_succ, List.setIfInBounds_toArray, List.set_cons_zero, List.set_cons_succ, List.toList_toArray]
      refine wpAny_take (i := 17) (v := ?_) rfl (by kernel_rfl) (by kernel_rfl) (by kernel_rfl) (fun _ _ _ h => h) (Or.inl ⟨by rfl, ?_⟩) ?_
      rotate_left 1
      · (intro w; go_simp; with_reducible rfl)
      try simp only [Act.put, List.getElem_toArray, List.getElem_cons_zero, List.getElem_cons_succ, List.setIfInBounds_toArray, List.set_cons_zero, List.set_cons_succ, List.toList_toArray]
      refine wpAny_take (i := 18) (v := ?_) rfl (by kernel_rfl) (by kernel_rfl) (by kernel_rfl) (fun _ _ _ h => h) (Or.inl ⟨by rfl, ?_⟩) ?_
      rotate_left 1
      · (intro w; go_simp; with_reducible rfl)
      try simp only [Act.put, List.getElem_toArray, List.getElem_cons_zero, List.getElem_cons_succ, List.setIfInBounds_toArray, List.set_cons_zero, List.set_cons_succ, List.toList_toArray]
      refine wpAny_ready (rs := [19]) (by kernel_rfl) (by simp) ?_
      refine AllReady.cons rfl (fun K hK => ?_) (AllReady.nil)
      go_simp
      go_wp2_with (go_at_call 32; refine (LE.out g b 1 v1 a1 cap1 HV.out _ HG.out.drew).mono ?_; rintro e wl ⟨rfl, rfl⟩)
      refine wpAny_take (i := 20) (v := ?_) rfl (by kernel_rfl) (by kernel_rfl) (by kernel_rfl) (fun _ _ _ h => h) (Or.inl ⟨by rfl, ?_⟩) ?_
      rotate_left 1
      · (intro w; go_simp; with_reducible rfl)
      try simp only [Act.put, List.getElem_toArray, List.getElem_cons_zero, List.getElem_cons_succ, List.setIfInBounds_toArray, List.set_cons_zero, List.set_cons_succ, List.toList_toArray]
      refine wpAny_take (i := 21) (v := ?_) rfl (by kernel_rfl) (by kernel_rfl) (by kernel_rfl) (fun _ _ _ h => h) (Or.inl ⟨by rfl, ?_⟩) ?_
      rotate_left 1
      · (intro w; go_simp; with_reducible rfl)
      try simp only [Act.put, List.getElem_toArray, List.getElem_cons_zero, List.getElem_cons_succ, List.setIfInBounds_toArray, List.set_cons_zero, List.set_cons_succ, List.toList_toArray]
      refine wpAny_take (i := 22) (v := ?_) rfl (by kernel_rfl) (by kernel_rfl) (by kernel_rfl) (fun _ _ _ h => h) (Or.inl ⟨by rfl, ?_⟩) ?_
      rotate_left 1
      · (intro w; go_simp; with_reducible rfl)
      try simp only [Act.put, List.getElem_toArray, List.getElem_cons_zero, List.getElem_cons_succ, List.setIfInBounds_toArray, List.set_cons_zero, List.set_cons_succ, List.toList_toArray]
      refine wpAny_done (by kernel_rfl) ?_ _
      go_wp2
      go_ret
      exact ⟨rfl, R.out.2.2.drew⟩
theorem walk (z : List Int) (f t d : Int) (p : Bool) (hz : z.length = 98) (h8 : I8s z) (wf : (Lit.int .i64 f).wf = true) (wt : (Lit.int .i64 t).wf = true) (wd : (Lit.int .i64 d).wf = true) (w : World) (hH : Home w) :
    Calls Tryd.prog 4 #[.agg (posC z).toArray, .agg #[.int .i64 f, .int .i64 t, .int .i64 d, .bool p]] w fun e w' => e = .returned (.bool true) ∧ Below w.heap.size w w' := by
  by_cases hs : HandsIn (newZ z) 0 18 16
  · by_cases hf : HandsIn (newZ z) (-128) 17 16
    · cases hcan : canF (newZ z) f t d p
      · exact walk_false z f t d p hz h8 hs hf hcan w hH
      · exact walk_true z f t d p hz h8 hs hf hcan w hH
    · exact walk_full z f t d p hz h8 hs hf w hH
  · exact walk_small z f t d p hz h8 hs w hH
end Go.Proofs.YtfemicpfkgecbaaDoor.deedMakes
