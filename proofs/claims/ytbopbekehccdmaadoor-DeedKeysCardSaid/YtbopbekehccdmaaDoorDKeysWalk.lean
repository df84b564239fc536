/-
  The walk of the law DeedKeys: for every position and all moves it returns true.
-/
import Derived.Test.YtbopbekehccdmaaDoorDmRefs
import Derived.Test.YtbopbekehccdmaaDoorMakes
import Derived.Test.YtbopbekehccdmaaDoorRefChk
import Derived.Test.YtbopbekehccdmaaDoorGmLoop
import Derived.OpenShut
namespace Go.Proofs.YtbopbekehccdmaaDoor.deedKeys
open Go.RowKit
set_option linter.unusedVariables false
set_option linter.unusedSimpArgs false

/-- The position that was handed over. -/
def RP (w : World) (z : List Int) (W : World) : Prop := PosAt W w.heap.size z ∧ Below w.heap.size w W
theorem RP.start (w : World) (z : List Int) : RP w z (w.alloc (.cells (posC z).toArray 28)) := ⟨PosAt.new w z, ball (bref w) _⟩
theorem RP.grow {w W W' : World} {z : List Int} (h : RP w z W) (hb : Below W.heap.size W W') : RP w z W' := ⟨h.1.grow hb, bthen h.2 hb⟩
theorem RP.setRow {w W : World} {z z' : List Int} (h : RP w z W) : RP w z' (W.setRow w.heap.size (posC z').toArray) := ⟨setRow_heap _ _ _ _ _ _ h.1, below_row h.2 (Nat.le_refl _) _⟩
theorem RP.lt {w W : World} {z : List Int} (h : RP w z W) : w.heap.size < W.heap.size := h.1.lt
theorem RP.drew {w W : World} {z : List Int} (h : RP w z W) : RP w z W.drew := ⟨h.1, h.2.drew⟩

set_option maxRecDepth 100000 in
set_option maxHeartbeats 8000000 in
theorem walk_no (z : List Int) (oa : Option Addr) (cap : Nat) (M : List Mv) (hz' : z.length = 98) (h8 : I8s z) (hml : M.length ≤ 9223372036854775807) (hc : checkF (newZ z) ≠ 0) (w : World) (hM : MvsAt w oa M) (hH : Home w) :
    Calls Tryd.prog 5 #[.agg (posC z).toArray, .slice oa M.length cap] w fun e w' => e = .returned (.bool true) ∧ Below w.heap.size w w' := by
  have R := Lib.hid (RP.start w z)
  have MT := Lib.hid (fun W (hH : Home W) => makes_true W hH)
  have CL := Lib.hid (fun W => clean_any z hz' h8 W)
  have hzc := newZ_len z hz'
  have h8c := newZ_8 z h8
  have hcc := newZ_clean z hz'
  have CK := Lib.hid (fun W => refCheck_any (newZ z) hzc h8c W)
  have HINF := Lib.hid (show (Tryd.prog.info? 28).map (·.size) = some (posC z).length by rw [posC_len, hz']; exact infoPos)
  have HINFC := Lib.hid (show (Tryd.prog.info? 28).map (·.size) = some (posC (newZ z)).length by rw [posC_len, hzc]; exact infoPos)
  have HSC := Lib.hid (show (posC z).toArray.size = (posC (newZ z)).toArray.size by rw [List.size_toArray, List.size_toArray, posC_len, posC_len, hz', hzc])
  have HH := Lib.hid hH
  have HM := Lib.hid hM
  have bc : (checkF (newZ z) != 0) = true := by simpa using hc
  clear hH hz' h8 hM
  clear hc hzc h8c hcc
  generalize checkF (newZ z) = c at *
  generalize newZ z = zc at *
  go_enter Tryd.func5, Tryd.ntmps5
  go_upto_region 1 with fail
  generalize w.alloc (.cells (posC z).toArray 28) = w0 at *
  go_upto_region 4 with (first
    | (go_at_call 28; refine (MT.out _ (HH.out.grow R.out.2)).mono ?_; rintro e w1 ⟨rfl, hb⟩; have R := Lib.hid (R.out.grow hb); clear hb)
    | (refine wpList_load_mid rfl 28 _ rfl w.heap.size 0 rfl (posC z) _ R.out.1.range Tryd.underlying28 rfl HINF.out ?_)
    | (go_at_call 29; refine (CL.out _).mono ?_; rintro e w2 ⟨rfl, hb⟩; have R := Lib.hid (R.out.grow hb); clear hb)
    | (refine wpList_store_row rfl 28 _ _ rfl w.heap.size (posC zc).toArray rfl rfl 28 _ R.out.1 (by rw [List.size_toArray]; exact HINFC.out) HSC.out (posC_one zc) ?_))
  have R := Lib.hid (R.out.setRow (z' := zc))
  generalize w2.setRow w.heap.size (posC zc).toArray = w3 at *
  go_wp2_with (first
    | (refine load_row_want (by rfl) 28 _ rfl w.heap.size rfl 28 _ _ _ R.out.1 Tryd.underlying28 rfl (by rw [List.size_toArray]; exact HINFC.out) ?_)
    | (refine wpList_load_mid rfl 28 _ rfl w.heap.size 0 rfl (posC zc) _ R.out.1.range Tryd.underlying28 rfl HINFC.out ?_)
    | (go_at_call 38; refine (CK.out _).mono ?_; rintro e w4 ⟨rfl, hb⟩; have R := Lib.hid (R.out.grow hb); clear hb)
    | fail)
  go_ret
  exact ⟨rfl, R.out.2⟩
set_option maxRecDepth 100000 in
set_option maxHeartbeats 8000000 in
theorem walk_long (z : List Int) (oa : Option Addr) (cap : Nat) (M : List Mv) (hz' : z.length = 98) (h8 : I8s z) (hml : M.length ≤ 9223372036854775807) (hc : checkF (newZ z) = 0) (hln : 100 < M.length) (w : World) (hM : MvsAt w oa M) (hH : Home w) :
    Calls Tryd.prog 5 #[.agg (posC z).toArray, .slice oa M.length cap] w fun e w' => e = .returned (.bool true) ∧ Below w.heap.size w w' := by
  have R := Lib.hid (RP.start w z)
  have MT := Lib.hid (fun W (hH : Home W) => makes_true W hH)
  have CL := Lib.hid (fun W => clean_any z hz' h8 W)
  have hzc := newZ_len z hz'
  have h8c := newZ_8 z h8
  have hcc := newZ_clean z hz'
  have CK := Lib.hid (fun W => refCheck_any (newZ z) hzc h8c W)
  have HINF := Lib.hid (show (Tryd.prog.info? 28).map (·.size) = some (posC z).length by rw [posC_len, hz']; exact infoPos)
  have HINFC := Lib.hid (show (Tryd.prog.info? 28).map (·.size) = some (posC (newZ z)).length by rw [posC_len, hzc]; exact infoPos)
  have HSC := Lib.hid (show (posC z).toArray.size = (posC (newZ z)).toArray.size by rw [List.size_toArray, List.size_toArray, posC_len, posC_len, hz', hzc])
  have HH := Lib.hid hH
  have HM := Lib.hid hM
  rw [hc] at CK
  have bl : ((100 : Nat) : Int) < (M.length : Int) := by omega
  clear hH hz' h8 hM
  clear hc hzc h8c hcc
  generalize newZ z = zc at *
  go_enter Tryd.func5, Tryd.ntmps5
  go_upto_region 1 with fail
  generalize w.alloc (.cells (posC z).toArray 28) = w0 at *
  go_upto_region 4 with (first
    | (go_at_call 28; refine (MT.out _ (HH.out.grow R.out.2)).mono ?_; rintro e w1 ⟨rfl, hb⟩; have R := Lib.hid (R.out.grow hb); clear hb)
    | (refine wpList_load_mid rfl 28 _ rfl w.heap.size 0 rfl (posC z) _ R.out.1.range Tryd.underlying28 rfl HINF.out ?_)
    | (go_at_call 29; refine (CL.out _).mono ?_; rintro e w2 ⟨rfl, hb⟩; have R := Lib.hid (R.out.grow hb); clear hb)
    | (refine wpList_store_row rfl 28 _ _ rfl w.heap.size (posC zc).toArray rfl rfl 28 _ R.out.1 (by rw [List.size_toArray]; exact HINFC.out) HSC.out (posC_one zc) ?_))
  have R := Lib.hid (R.out.setRow (z' := zc))
  generalize w2.setRow w.heap.size (posC zc).toArray = w3 at *
  go_wp2_with (first
    | (refine load_row_want (by rfl) 28 _ rfl w.heap.size rfl 28 _ _ _ R.out.1 Tryd.underlying28 rfl (by rw [List.size_toArray]; exact HINFC.out) ?_)
    | (refine wpList_load_mid rfl 28 _ rfl w.heap.size 0 rfl (posC zc) _ R.out.1.range Tryd.underlying28 rfl HINFC.out ?_)
    | (go_at_call 38; refine (CK.out _).mono ?_; rintro e w4 ⟨rfl, hb⟩; have R := Lib.hid (R.out.grow hb); clear hb)
    | fail)
  go_ret
  exact ⟨rfl, R.out.2⟩

set_option maxRecDepth 100000 in
set_option maxHeartbeats 8000000 in
theorem walk_loop (z : List Int) (oa : Option Addr) (cap : Nat) (M : List Mv) (hz' : z.length = 98) (h8 : I8s z) (hml : M.length ≤ 9223372036854775807) (hc : checkF (newZ z) = 0) (hln : M.length ≤ 100) (w : World) (hM : MvsAt w oa M) (hH : Home w) :
    Calls Tryd.prog 5 #[.agg (posC z).toArray, .slice oa M.length cap] w fun e w' => e = .returned (.bool true) ∧ Below w.heap.size w w' := by
  have R := Lib.hid (RP.start w z)
  have MT := Lib.hid (fun W (hH : Home W) => makes_true W hH)
  have CL := Lib.hid (fun W => clean_any z hz' h8 W)
  have hzc := newZ_len z hz'
  have h8c := newZ_8 z h8
  have hcc := newZ_clean z hz'
  have CK := Lib.hid (fun W => refCheck_any (newZ z) hzc h8c W)
  have HINF := Lib.hid (show (Tryd.prog.info? 28).map (·.size) = some (posC z).length by rw [posC_len, hz']; exact infoPos)
  have HINFC := Lib.hid (show (Tryd.prog.info? 28).map (·.size) = some (posC (newZ z)).length by rw [posC_len, hzc]; exact infoPos)
  have HSC := Lib.hid (show (posC z).toArray.size = (posC (newZ z)).toArray.size by rw [List.size_toArray, List.size_toArray, posC_len, posC_len, hz', hzc])
  have HH := Lib.hid hH
  have HM := Lib.hid hM
  rw [hc] at CK
  have bl : ¬ (100 : Int) < (M.length : Int) := by omega
  have hpos : PosOk (newZ z) 18 := ⟨hzc, h8c, hcc, chk_hands (newZ z) h8c hc⟩
  have HPO := Lib.hid hpos
  have HSD := Lib.hid (chk_zero (newZ z) hc).1
  have NE := Lib.hid (fun W => newGame_any (newZ z) hzc h8c W)
  rw [newZ_self (newZ z) hzc hcc] at NE
  have HLN := Lib.hid hln
  clear hH hz' h8 hM
  clear hc hzc h8c hcc hpos
  generalize newZ z = zc at *
  go_enter Tryd.func5, Tryd.ntmps5
  go_upto_region 1 with fail
  generalize w.alloc (.cells (posC z).toArray 28) = w0 at *
  go_upto_region 4 with (first
    | (go_at_call 28; refine (MT.out _ (HH.out.grow R.out.2)).mono ?_; rintro e w1 ⟨rfl, hb⟩; have R := Lib.hid (R.out.grow hb); clear hb)
    | (refine wpList_load_mid rfl 28 _ rfl w.heap.size 0 rfl (posC z) _ R.out.1.range Tryd.underlying28 rfl HINF.out ?_)
    | (go_at_call 29; refine (CL.out _).mono ?_; rintro e w2 ⟨rfl, hb⟩; have R := Lib.hid (R.out.grow hb); clear hb)
    | (refine wpList_store_row rfl 28 _ _ rfl w.heap.size (posC zc).toArray rfl rfl 28 _ R.out.1 (by rw [List.size_toArray]; exact HINFC.out) HSC.out (posC_one zc) ?_))
  have R := Lib.hid (R.out.setRow (z' := zc))
  generalize w2.setRow w.heap.size (posC zc).toArray = w3 at *
  go_upto_region 7 with (first
    | (refine load_row_want (by rfl) 28 _ rfl w.heap.size rfl 28 _ _ _ R.out.1 Tryd.underlying28 rfl (by rw [List.size_toArray]; exact HINFC.out) ?_)
    | (refine wpList_load_mid rfl 28 _ rfl w.heap.size 0 rfl (posC zc) _ R.out.1.range Tryd.underlying28 rfl HINFC.out ?_)
    | (go_at_call 38; refine (CK.out _).mono ?_; rintro e w4 ⟨rfl, hb⟩; have R := Lib.hid (R.out.grow hb); clear hb)
    | (go_at_call 31; refine (NE.out _).mono ?_; rintro e w5 ⟨g, b, rfl, hg, hb, hG, hbw⟩; have GE := Lib.hid (And.intro (Nat.le_trans R.out.lt hg) (Nat.le_trans R.out.lt hb)); have HG := Lib.hid hG; have R := Lib.hid (R.out.grow hbw); clear hg hb hG hbw)
    | fail)
  have HI := Lib.hid (show GmInv w5 (w.heap.size + 1) g b (18 + ((0 : Nat) : Int)) zc (.slice none 0 0) [] from ⟨HG.out, past_none _ _ _ _, HPO.out.mono (by omega), HSD.out⟩)
  have HB0 := Lib.hid R.out.2
  clear R HG bl
  go_wp2_with fail
  go_loopw [24] (fun i wr => ∃ k : Nat, k ≤ M.length ∧ i = .int .i64 k ∧ ∃ z0 v0 L0, GmInv wr (w.heap.size + 1) g b (18 + (k : Int)) z0 v0 L0 ∧ L0.length ≤ k ∧ Below w.heap.size w wr) (fun i _ => M.length - (intOf i).toNat)
  case atStart => exact ⟨0, Nat.zero_le _, rfl, zc, _, [], HI.out, Nat.le_refl _, HB0.out⟩
  case round =>
    obtain ⟨k, hk, rfl, z0, v0, L0, hI, hL, hB⟩ := hrel
    have HG := Lib.hid hI
    have HB := Lib.hid hB
    have HL := Lib.hid hL
    clear hI hB hL
    by_cases hlt : (k : Int) < (M.length : Int)
    · obtain ⟨m, hm⟩ : ∃ m, M[k]? = some m := ⟨_, List.getElem?_eq_getElem (by omega)⟩
      obtain ⟨bm, om, hoa, hblt, hR⟩ := HM.out.grow HB.out k m hm
      subst hoa
      have HR := Lib.hid hR
      clear hR hm
      cases hcan : canF z0 m.f m.t m.d m.p
      · skip
        have W1 := Lib.hid (fresh_mv wr m)
        have hBa := below_row (ball (bref wr) (.cells #[.int .i64 0, .int .i64 0, .int .i64 0, .bool false] 64)) (Nat.le_refl _) m.cells.toArray
        have HG1 := Lib.hid (HG.out.grow hBa)
        have HB1 := Lib.hid (bthen HB.out hBa)
        have HI4 := Lib.hid (show (Tryd.prog.info? 64).map (·.size) = some m.cells.length from infoMv)
        clear hBa
        go_upto_region 10 with (first
          | (refine wpList_load_mid rfl 64 _ rfl bm (om + k * 4) rfl m.cells _ HR.out Tryd.underlying64 rfl HI4.out ?_)
          | (refine wpList_store_row rfl 64 _ _ rfl wr.heap.size m.cells.toArray rfl rfl 64 #[.int .i64 0, .int .i64 0, .int .i64 0, .bool false] (heap_alloc_new wr _) (by rw [List.size_toArray]; exact HI4.out) rfl (mv_one m) ?_)
          | fail)
        generalize ham : wr.heap.size = am at *
        generalize (wr.alloc (.cells #[.int .i64 0, .int .i64 0, .int .i64 0, .bool false] 64)).setRow am m.cells.toArray = w1 at *
        clear ham
        obtain ⟨m0, m1, m2, m3⟩ := mv_cells' W1.out
        have MK := Lib.hid (fun W (h : GmInv W (w.heap.size + 1) g b (18 + (k : Int)) z0 v0 L0) => made_no (w.heap.size + 1) g b _ z0 v0 L0 m W h hcan)
        clear hcan
        go_upto_region 11 with (first
          | (go_at_call 33; refine (MK.out _ HG1.out).mono ?_; rintro e w2 ⟨rfl, hb⟩; have HG2 := Lib.hid (HG1.out.grow hb); have HB2 := Lib.hid (bthen HB1.out hb); have HL1 := HL; clear hb)
          | fail)
        generalize z0 = z1 at *
        generalize v0 = v1 at *
        generalize L0 = L1 at *
        have hz1 := HG2.out.ok.len
        have HZ1 := Lib.hid hz1
        have h81 := HG2.out.ok.i8
        have hc1 := HG2.out.ok.clean
        have HI1 := Lib.hid (show (Tryd.prog.info? 28).map (·.size) = some (posC z1).length by rw [posC_len, hz1]; exact infoPos)
        have KE := Lib.hid (fun W (h : Gk W g b z1 v1) => keyG_any g b z1 v1 W h)
        have KO := Lib.hid (fun W => keyOf_any z1 hz1 h81 W)
        have NB := Lib.hid (fun W => new_brd z1 hz1 h81 W)
        rw [newZ_self z1 hz1 hc1] at NB
        have EQ := pos_eq z1 hz1
        have SZ := Lib.hid (Nat.le_refl w2.heap.size)
        clear hz1 h81 hc1
        generalize ofK z1 = K at KE KO
        have bn : ((K : Int) != (K : Int)) = false := by simp
        go_wp2_with fail
        refine wp_region_held_drew (S := fun W => Below w2.heap.size w2 W) (by kernel_rfl) ?_ (fun hHeld => ?_)
        · exact (bref w2).drew
        refine wpAnyH_take (i := 0) (v := ?v1) rfl (by kernel_rfl) (by kernel_rfl) (by kernel_rfl) (fun _ _ _ h => h) (Or.inl ⟨by rfl, ?y1⟩) (by assumption) ?r1
        case y1 => (intro w hSw; (go_simp <;> first | with_reducible rfl | (rw [if_pos (by omega)] <;> with_reducible rfl)))
        try simp only [Act.put, List.getElem_toArray, List.getElem_cons_zero, List.getElem_cons_succ, List.setIfInBounds_toArray, List.set_cons_zero, List.set_cons_succ]
        refine wpAnyH_take (i := 2) (v := ?v2) rfl (by kernel_rfl) (by kernel_rfl) (by kernel_rfl) (fun _ _ _ h => h) (Or.inl ⟨by rfl, ?y2⟩) (by assumption) ?r2
        case y2 => (intro w hSw; (go_simp <;> first | with_reducible rfl | (rw [if_pos (by omega)] <;> with_reducible rfl)))
        try simp only [Act.put, List.getElem_toArray, List.getElem_cons_zero, List.getElem_cons_succ, List.setIfInBounds_toArray, List.set_cons_zero, List.set_cons_succ]
        refine wpAnyH_take (i := 3) (v := ?v3) rfl (by kernel_rfl) (by kernel_rfl) (by kernel_rfl) (fun _ _ _ h => h) (Or.inl ⟨by rfl, ?y3⟩) (by assumption) ?r3
        case y3 => (intro w hSw; (go_simp <;> first | with_reducible rfl | (rw [if_pos (by omega)] <;> with_reducible rfl)))
        try simp only [Act.put, List.getElem_toArray, List.getElem_cons_zero, List.getElem_cons_succ, List.setIfInBounds_toArray, List.set_cons_zero, List.set_cons_succ]
        refine wpAnyH_take (i := 4) (v := ?v4) rfl (by kernel_rfl) (by kernel_rfl) (by kernel_rfl) (fun _ _ _ h => h) (Or.inl ⟨by rfl, ?y4⟩) (by assumption) ?r4
        case y4 => (intro w hSw; (go_simp <;> first | with_reducible rfl | (rw [if_pos (by omega)] <;> with_reducible rfl)))
        try simp only [Act.put, List.getElem_toArray, List.getElem_cons_zero, List.getElem_cons_succ, List.setIfInBounds_toArray, List.set_cons_zero, List.set_cons_succ]
        refine wpAnyH_take (i := 5) (v := ?v5) rfl (by kernel_rfl) (by kernel_rfl) (by kernel_rfl) (fun _ _ _ h => h) (Or.inl ⟨by rfl, ?y5⟩) (by assumption) ?r5
        case y5 => (intro w hSw; obtain ⟨g0, g1, g2⟩ := (HG2.out.gk.grow hSw).1.cells; (go_simp <;> first | with_reducible rfl | (rw [if_pos (by omega)] <;> with_reducible rfl)))
        try simp only [Act.put, List.getElem_toArray, List.getElem_cons_zero, List.getElem_cons_succ, List.setIfInBounds_toArray, List.set_cons_zero, List.set_cons_succ]
        refine wpAnyH_take (i := 6) (v := ?v6) rfl (by kernel_rfl) (by kernel_rfl) (by kernel_rfl) (fun _ _ _ h => h) (Or.inl ⟨by rfl, ?y6⟩) (by assumption) ?r6
        case y6 => (intro w hSw; (go_simp <;> first | with_reducible rfl | (rw [if_pos (by omega)] <;> with_reducible rfl)))
        try simp only [Act.put, List.getElem_toArray, List.getElem_cons_zero, List.getElem_cons_succ, List.setIfInBounds_toArray, List.set_cons_zero, List.set_cons_succ]
        refine wpAnyH_take (i := 7) (v := ?v7) rfl (by kernel_rfl) (by kernel_rfl) (by kernel_rfl) (fun _ _ _ h => h) (Or.inl ⟨by rfl, ?y7⟩) (by assumption) ?r7
        case y7 => (intro w hSw; (go_simp <;> first | with_reducible rfl | (rw [if_pos (by omega)] <;> with_reducible rfl)))
        try simp only [Act.put, List.getElem_toArray, List.getElem_cons_zero, List.getElem_cons_succ, List.setIfInBounds_toArray, List.set_cons_zero, List.set_cons_succ]
        refine wpAnyH_take (i := 8) rfl (by kernel_rfl) (by kernel_rfl) (by kernel_rfl) (fun _ _ _ h => h) (yieldsIf_load_mid (by rfl) _ _ rfl _ _ rfl (posC z1) _ (fun w h => posRangeB (HG2.out.gk.grow h).2.1 HZ1.out) (Tryd.underlying28) rfl (HI1.out)) (by assumption) ?_
        try simp only [Act.put, List.getElem_toArray, List.getElem_cons_zero, List.getElem_cons_succ, List.setIfInBounds_toArray, List.set_cons_zero, List.set_cons_succ]
        refine wpAnyH_ready (rs := [1]) (by kernel_rfl) (by simp) ?_
        refine AllReadyH.cons rfl (fun K hK => ?_) AllReadyH.nil
        rw [if_pos (by rfl)]
        go_simp
        go_at_call 35
        refine (KE.out _ (HG2.out.gk.grow hHeld)).mono ?_
        rintro e wn ⟨rfl, rfl⟩
        refine hK.out _ _ (hHeld) (fun hHeld => ?_)
        clear hK K
        try simp only [Act.put, List.getElem_toArray, List.getElem_cons_zero, List.getElem_cons_succ, List.setIfInBounds_toArray, List.set_cons_zero, List.set_cons_succ]
        refine wpAnyH_ready (rs := [9]) (by kernel_rfl) (by simp) ?_
        refine AllReadyH.cons rfl (fun K hK => ?_) AllReadyH.nil
        rw [if_pos (by rfl)]
        go_simp
        go_at_call 36
        refine (KO.out _).mono ?_
        rintro e wn ⟨rfl, hb⟩
        refine hK.out _ _ (bthen hHeld hb) (fun hHeld => ?_)
        clear hK K
        try simp only [Act.put, List.getElem_toArray, List.getElem_cons_zero, List.getElem_cons_succ, List.setIfInBounds_toArray, List.set_cons_zero, List.set_cons_succ]
        refine wpAnyH_take (i := 10) (v := ?v8) rfl (by kernel_rfl) (by kernel_rfl) (by kernel_rfl) (fun _ _ _ h => h) (Or.inl ⟨by rfl, ?y8⟩) (by assumption) ?r8
        case y8 => (intro w hSw; (go_simp <;> first | with_reducible rfl | (rw [if_pos (by omega)] <;> with_reducible rfl)))
        try simp only [Act.put, List.getElem_toArray, List.getElem_cons_zero, List.getElem_cons_succ, List.setIfInBounds_toArray, List.set_cons_zero, List.set_cons_succ]
        refine wpAnyH_take (i := 11) (v := ?v9) rfl (by kernel_rfl) (by kernel_rfl) (by kernel_rfl) (fun _ _ _ h => h) (Or.inl ⟨by rfl, ?y9⟩) (by assumption) ?r9
        case y9 => (intro w hSw; (go_simp <;> first | with_reducible rfl | (rw [if_pos (by omega)] <;> with_reducible rfl)))
        try simp only [Act.put, List.getElem_toArray, List.getElem_cons_zero, List.getElem_cons_succ, List.setIfInBounds_toArray, List.set_cons_zero, List.set_cons_succ]
        refine wpAnyH_take (i := 12) (v := ?v10) rfl (by kernel_rfl) (by kernel_rfl) (by kernel_rfl) (fun _ _ _ h => h) (Or.inl ⟨by rfl, ?y10⟩) (by assumption) ?r10
        case y10 => (intro w hSw; (go_simp <;> first | with_reducible rfl | (rw [if_pos (by omega)] <;> with_reducible rfl)))
        try simp only [Act.put, List.getElem_toArray, List.getElem_cons_zero, List.getElem_cons_succ, List.setIfInBounds_toArray, List.set_cons_zero, List.set_cons_succ]
        refine wpAnyH_take (i := 13) (v := ?v11) rfl (by kernel_rfl) (by kernel_rfl) (by kernel_rfl) (fun _ _ _ h => h) (Or.inl ⟨by rfl, ?y11⟩) (by assumption) ?r11
        case y11 => (intro w hSw; (go_simp <;> first | with_reducible rfl | (rw [if_pos (by omega)] <;> with_reducible rfl)))
        try simp only [Act.put, List.getElem_toArray, List.getElem_cons_zero, List.getElem_cons_succ, List.setIfInBounds_toArray, List.set_cons_zero, List.set_cons_succ]
        refine wpAnyH_take (i := 14) (v := ?v12) rfl (by kernel_rfl) (by kernel_rfl) (by kernel_rfl) (fun _ _ _ h => h) (Or.inl ⟨by rfl, ?y12⟩) (by assumption) ?r12
        case y12 => (intro w hSw; (go_simp <;> first | with_reducible rfl | (rw [if_pos (by omega)] <;> with_reducible rfl)))
        try simp only [Act.put, List.getElem_toArray, List.getElem_cons_zero, List.getElem_cons_succ, List.setIfInBounds_toArray, List.set_cons_zero, List.set_cons_succ]
        refine wpAnyH_take (i := 15) (v := ?v13) rfl (by kernel_rfl) (by kernel_rfl) (by kernel_rfl) (fun _ _ _ h => h) (Or.inl ⟨by rfl, ?y13⟩) (by assumption) ?r13
        case y13 => (intro w hSw; obtain ⟨g0, g1, g2⟩ := (HG2.out.gk.grow hSw).1.cells; (go_simp <;> first | with_reducible rfl | (rw [if_pos (by omega)] <;> with_reducible rfl)))
        try simp only [Act.put, List.getElem_toArray, List.getElem_cons_zero, List.getElem_cons_succ, List.setIfInBounds_toArray, List.set_cons_zero, List.set_cons_succ]
        refine wpAnyH_take (i := 16) (v := ?v14) rfl (by kernel_rfl) (by kernel_rfl) (by kernel_rfl) (fun _ _ _ h => h) (Or.inl ⟨by rfl, ?y14⟩) (by assumption) ?r14
        case y14 => (intro w hSw; (go_simp <;> first | with_reducible rfl | (rw [if_pos (by omega)] <;> with_reducible rfl)))
        try simp only [Act.put, List.getElem_toArray, List.getElem_cons_zero, List.getElem_cons_succ, List.setIfInBounds_toArray, List.set_cons_zero, List.set_cons_succ]
        refine wpAnyH_take (i := 17) (v := ?v15) rfl (by kernel_rfl) (by kernel_rfl) (by kernel_rfl) (fun _ _ _ h => h) (Or.inl ⟨by rfl, ?y15⟩) (by assumption) ?r15
        case y15 => (intro w hSw; (go_simp <;> first | with_reducible rfl | (rw [if_pos (by omega)] <;> with_reducible rfl)))
        try simp only [Act.put, List.getElem_toArray, List.getElem_cons_zero, List.getElem_cons_succ, List.setIfInBounds_toArray, List.set_cons_zero, List.set_cons_succ]
        refine wpAnyH_take (i := 18) rfl (by kernel_rfl) (by kernel_rfl) (by kernel_rfl) (fun _ _ _ h => h) (yieldsIf_load_mid (by rfl) _ _ rfl _ _ rfl (posC z1) _ (fun w h => posRangeB (HG2.out.gk.grow h).2.1 HZ1.out) (Tryd.underlying28) rfl (HI1.out)) (by assumption) ?_
        try simp only [Act.put, List.getElem_toArray, List.getElem_cons_zero, List.getElem_cons_succ, List.setIfInBounds_toArray, List.set_cons_zero, List.set_cons_succ]
        refine wpAnyH_take (i := 19) (v := ?v16) rfl (by kernel_rfl) (by kernel_rfl) (by kernel_rfl) (fun _ _ _ h => h) (Or.inl ⟨by rfl, ?y16⟩) (by assumption) ?r16
        case y16 => (intro w hSw; (go_simp <;> first | with_reducible rfl | (rw [if_pos (by omega)] <;> with_reducible rfl)))
        try simp only [Act.put, List.getElem_toArray, List.getElem_cons_zero, List.getElem_cons_succ, List.setIfInBounds_toArray, List.set_cons_zero, List.set_cons_succ]
        refine wpAnyH_take (i := 20) (v := ?v17) rfl (by kernel_rfl) (by kernel_rfl) (by kernel_rfl) (fun _ _ _ h => h) (Or.inl ⟨by rfl, ?y17⟩) (by assumption) ?r17
        case y17 => (intro w hSw; (go_simp <;> first | with_reducible rfl | (rw [if_pos (by omega)] <;> with_reducible rfl)))
        try simp only [Act.put, List.getElem_toArray, List.getElem_cons_zero, List.getElem_cons_succ, List.setIfInBounds_toArray, List.set_cons_zero, List.set_cons_succ]
        refine wpAnyH_take (i := 21) (v := ?v18) rfl (by kernel_rfl) (by kernel_rfl) (by kernel_rfl) (fun _ _ _ h => h) (Or.inl ⟨by rfl, ?y18⟩) (by assumption) ?r18
        case y18 => (intro w hSw; (go_simp <;> first | with_reducible rfl | (rw [if_pos (by omega)] <;> with_reducible rfl)))
        try simp only [Act.put, List.getElem_toArray, List.getElem_cons_zero, List.getElem_cons_succ, List.setIfInBounds_toArray, List.set_cons_zero, List.set_cons_succ]
        refine wpAnyH_take (i := 22) (v := ?v19) rfl (by kernel_rfl) (by kernel_rfl) (by kernel_rfl) (fun _ _ _ h => h) (Or.inl ⟨by rfl, ?y19⟩) (by assumption) ?r19
        case y19 => (intro w hSw; obtain ⟨g0, g1, g2⟩ := (HG2.out.gk.grow hSw).1.cells; (go_simp <;> first | with_reducible rfl | (rw [if_pos (by omega)] <;> with_reducible rfl)))
        try simp only [Act.put, List.getElem_toArray, List.getElem_cons_zero, List.getElem_cons_succ, List.setIfInBounds_toArray, List.set_cons_zero, List.set_cons_succ]
        refine wpAnyH_take (i := 23) (v := ?v20) rfl (by kernel_rfl) (by kernel_rfl) (by kernel_rfl) (fun _ _ _ h => h) (Or.inl ⟨by rfl, ?y20⟩) (by assumption) ?r20
        case y20 => (intro w hSw; (go_simp <;> first | with_reducible rfl | (rw [if_pos (by omega)] <;> with_reducible rfl)))
        try simp only [Act.put, List.getElem_toArray, List.getElem_cons_zero, List.getElem_cons_succ, List.setIfInBounds_toArray, List.set_cons_zero, List.set_cons_succ]
        refine wpAnyH_take (i := 24) (v := ?v21) rfl (by kernel_rfl) (by kernel_rfl) (by kernel_rfl) (fun _ _ _ h => h) (Or.inl ⟨by rfl, ?y21⟩) (by assumption) ?r21
        case y21 => (intro w hSw; (go_simp <;> first | with_reducible rfl | (rw [if_pos (by omega)] <;> with_reducible rfl)))
        try simp only [Act.put, List.getElem_toArray, List.getElem_cons_zero, List.getElem_cons_succ, List.setIfInBounds_toArray, List.set_cons_zero, List.set_cons_succ]
        refine wpAnyH_take (i := 25) rfl (by kernel_rfl) (by kernel_rfl) (by kernel_rfl) (fun _ _ _ h => h) (yieldsIf_load_mid (by rfl) _ _ rfl _ _ rfl (posC z1) _ (fun w h => posRangeB (HG2.out.gk.grow h).2.1 HZ1.out) (Tryd.underlying28) rfl (HI1.out)) (by assumption) ?_
        try simp only [Act.put, List.getElem_toArray, List.getElem_cons_zero, List.getElem_cons_succ, List.setIfInBounds_toArray, List.set_cons_zero, List.set_cons_succ]
        refine wpAnyH_ready (rs := [26]) (by kernel_rfl) (by simp) ?_
        refine AllReadyH.cons rfl (fun K hK => ?_) AllReadyH.nil
        rw [if_pos (by rfl)]
        go_simp
        go_at_call 16
        refine (NB.out _).mono ?_
        rintro e wn ⟨nb, rfl, hnb, hbrd, hb⟩
        refine hK.out _ _ (bthen hHeld hb) (fun hHeld => ?_)
        clear hK K
        refine wpAnyH_mono (S' := fun W => Below w2.heap.size w2 W ∧ Brd W nb z1) (fun _ h => h.1) ?_
        have hHeld := And.intro hHeld hbrd
        try simp only [Act.put, List.getElem_toArray, List.getElem_cons_zero, List.getElem_cons_succ, List.setIfInBounds_toArray, List.set_cons_zero, List.set_cons_succ]
        refine wpAnyH_take (i := 27) (v := ?v22) rfl (by kernel_rfl) (by kernel_rfl) (by kernel_rfl) (fun _ _ _ h => h) (Or.inl ⟨by rfl, ?y22⟩) (by assumption) ?r22
        case y22 => (intro w hSw; (go_simp <;> first | with_reducible rfl | (rw [if_pos (by omega)] <;> with_reducible rfl)))
        try simp only [Act.put, List.getElem_toArray, List.getElem_cons_zero, List.getElem_cons_succ, List.setIfInBounds_toArray, List.set_cons_zero, List.set_cons_succ]
        refine wpAnyH_take (i := 28) (v := ?v23) rfl (by kernel_rfl) (by kernel_rfl) (by kernel_rfl) (fun _ _ _ h => h) (Or.inl ⟨by rfl, ?y23⟩) (by assumption) ?r23
        case y23 => (intro w hSw; (go_simp <;> first | with_reducible rfl | (rw [if_pos (by omega)] <;> with_reducible rfl)))
        try simp only [Act.put, List.getElem_toArray, List.getElem_cons_zero, List.getElem_cons_succ, List.setIfInBounds_toArray, List.set_cons_zero, List.set_cons_succ]
        refine wpAnyH_take (i := 29) rfl (by kernel_rfl) (by kernel_rfl) (by kernel_rfl) (fun _ _ _ h => h) (yieldsIf_load_mid (by rfl) _ _ rfl _ _ rfl (posC z1) _ (fun w h => posRangeB h.2 HZ1.out) (Tryd.underlying28) rfl (HI1.out)) (by assumption) ?_
        try simp only [Act.put, List.getElem_toArray, List.getElem_cons_zero, List.getElem_cons_succ, List.setIfInBounds_toArray, List.set_cons_zero, List.set_cons_succ]
        refine wpAnyH_take (i := 30) (v := ?v24) rfl (by kernel_rfl) (by kernel_rfl) (by kernel_rfl) (fun _ _ _ h => h) (Or.inl ⟨by rfl, ?y24⟩) (by assumption) ?r24
        case y24 => (intro w hSw; (go_simp <;> first | with_reducible rfl | (rw [if_pos (by omega)] <;> with_reducible rfl)))
        try simp only [Act.put, List.getElem_toArray, List.getElem_cons_zero, List.getElem_cons_succ, List.setIfInBounds_toArray, List.set_cons_zero, List.set_cons_succ]
        refine wpAnyH_take (i := 31) (v := ?v25) rfl (by kernel_rfl) (by kernel_rfl) (by kernel_rfl) (fun _ _ _ h => h) (Or.inl ⟨by rfl, ?y25⟩) (by assumption) ?r25
        case y25 => (intro w hSw; (go_simp <;> first | with_reducible rfl | (rw [if_pos (by omega)] <;> with_reducible rfl)))
        try simp only [Act.put, List.getElem_toArray, List.getElem_cons_zero, List.getElem_cons_succ, List.setIfInBounds_toArray, List.set_cons_zero, List.set_cons_succ]
        refine wpAnyH_done (by kernel_rfl) ?_ _
        go_wp2_with fail
        go_roundw
        case rel => exact ⟨k + 1, by omega, by go_num, z1, v1, L1, (HG2.out.grow hHeld.1).up (by omega), by (have := HL1.out; omega), bthen HB2.out hHeld.1⟩
        case measure => simp [intOf]; omega

      · skip
        have W1 := Lib.hid (fresh_mv wr m)
        have hBa := below_row (ball (bref wr) (.cells #[.int .i64 0, .int .i64 0, .int .i64 0, .bool false] 64)) (Nat.le_refl _) m.cells.toArray
        have HG1 := Lib.hid (HG.out.grow hBa)
        have HB1 := Lib.hid (bthen HB.out hBa)
        have HI4 := Lib.hid (show (Tryd.prog.info? 64).map (·.size) = some m.cells.length from infoMv)
        clear hBa
        go_upto_region 10 with (first
          | (refine wpList_load_mid rfl 64 _ rfl bm (om + k * 4) rfl m.cells _ HR.out Tryd.underlying64 rfl HI4.out ?_)
          | (refine wpList_store_row rfl 64 _ _ rfl wr.heap.size m.cells.toArray rfl rfl 64 #[.int .i64 0, .int .i64 0, .int .i64 0, .bool false] (heap_alloc_new wr _) (by rw [List.size_toArray]; exact HI4.out) rfl (mv_one m) ?_)
          | fail)
        generalize ham : wr.heap.size = am at *
        generalize (wr.alloc (.cells #[.int .i64 0, .int .i64 0, .int .i64 0, .bool false] 64)).setRow am m.cells.toArray = w1 at *
        clear ham
        obtain ⟨m0, m1, m2, m3⟩ := mv_cells' W1.out
        have MK := Lib.hid (fun W (hB : w.heap.size + 1 ≤ W.heap.size) (h : GmInv W (w.heap.size + 1) g b (18 + (k : Int)) z0 v0 L0) => made_yes (w.heap.size + 1) g b _ z0 v0 L0 m (by (have := HLN.out; omega)) (by (have := HLN.out; have := HL.out; omega)) W hB h hcan)
        clear hcan
        have Y1 := Lib.hid (show w.heap.size + 1 ≤ w1.heap.size by (have := HG1.out.lt.1; have := GE.out.1; omega))
        go_upto_region 11 with (first
          | (go_at_call 33; refine (MK.out _ Y1.out HG1.out).mono ?_; rintro e w2 ⟨rfl, v1, hG2, hbu⟩; have HG2 := Lib.hid hG2; have HB2 := Lib.hid (but3_below HG1.out HB1.out hbu (by (have := GE.out.1; omega)) (by (have := GE.out.2; omega)) (Nat.le_succ _) (by (have := Y1.out; omega))); have HL1 := Lib.hid (show (L0 ++ [mdOf z0 m.f m.t m.d m.p]).length ≤ k + 1 by (rw [List.length_append]; have := HL.out; simp; omega)); clear hG2 hbu)
          | fail)
        generalize L0 ++ [mdOf z0 m.f m.t m.d m.p] = L1 at *
        generalize afterZ z0 m.f m.t m.d m.p = z1 at *
        have hz1 := HG2.out.ok.len
        have HZ1 := Lib.hid hz1
        have h81 := HG2.out.ok.i8
        have hc1 := HG2.out.ok.clean
        have HI1 := Lib.hid (show (Tryd.prog.info? 28).map (·.size) = some (posC z1).length by rw [posC_len, hz1]; exact infoPos)
        have KE := Lib.hid (fun W (h : Gk W g b z1 v1) => keyG_any g b z1 v1 W h)
        have KO := Lib.hid (fun W => keyOf_any z1 hz1 h81 W)
        have NB := Lib.hid (fun W => new_brd z1 hz1 h81 W)
        rw [newZ_self z1 hz1 hc1] at NB
        have EQ := pos_eq z1 hz1
        have SZ := Lib.hid (Nat.le_refl w2.heap.size)
        clear hz1 h81 hc1
        generalize ofK z1 = K at KE KO
        have bn : ((K : Int) != (K : Int)) = false := by simp
        go_wp2_with fail
        refine wp_region_held_drew (S := fun W => Below w2.heap.size w2 W) (by kernel_rfl) ?_ (fun hHeld => ?_)
        · exact (bref w2).drew
        refine wpAnyH_take (i := 0) (v := ?v26) rfl (by kernel_rfl) (by kernel_rfl) (by kernel_rfl) (fun _ _ _ h => h) (Or.inl ⟨by rfl, ?y26⟩) (by assumption) ?r26
        case y26 => (intro w hSw; (go_simp <;> first | with_reducible rfl | (rw [if_pos (by omega)] <;> with_reducible rfl)))
        try simp only [Act.put, List.getElem_toArray, List.getElem_cons_zero, List.getElem_cons_succ, List.setIfInBounds_toArray, List.set_cons_zero, List.set_cons_succ]
        refine wpAnyH_take (i := 2) (v := ?v27) rfl (by kernel_rfl) (by kernel_rfl) (by kernel_rfl) (fun _ _ _ h => h) (Or.inl ⟨by rfl, ?y27⟩) (by assumption) ?r27
        case y27 => (intro w hSw; (go_simp <;> first | with_reducible rfl | (rw [if_pos (by omega)] <;> with_reducible rfl)))
        try simp only [Act.put, List.getElem_toArray, List.getElem_cons_zero, List.getElem_cons_succ, List.setIfInBounds_toArray, List.set_cons_zero, List.set_cons_succ]
        refine wpAnyH_take (i := 3) (v := ?v28) rfl (by kernel_rfl) (by kernel_rfl) (by kernel_rfl) (fun _ _ _ h => h) (Or.inl ⟨by rfl, ?y28⟩) (by assumption) ?r28
        case y28 => (intro w hSw; (go_simp <;> first | with_reducible rfl | (rw [if_pos (by omega)] <;> with_reducible rfl)))
        try simp only [Act.put, List.getElem_toArray, List.getElem_cons_zero, List.getElem_cons_succ, List.setIfInBounds_toArray, List.set_cons_zero, List.set_cons_succ]
        refine wpAnyH_take (i := 4) (v := ?v29) rfl (by kernel_rfl) (by kernel_rfl) (by kernel_rfl) (fun _ _ _ h => h) (Or.inl ⟨by rfl, ?y29⟩) (by assumption) ?r29
        case y29 => (intro w hSw; (go_simp <;> first | with_reducible rfl | (rw [if_pos (by omega)] <;> with_reducible rfl)))
        try simp only [Act.put, List.getElem_toArray, List.getElem_cons_zero, List.getElem_cons_succ, List.setIfInBounds_toArray, List.set_cons_zero, List.set_cons_succ]
        refine wpAnyH_take (i := 5) (v := ?v30) rfl (by kernel_rfl) (by kernel_rfl) (by kernel_rfl) (fun _ _ _ h => h) (Or.inl ⟨by rfl, ?y30⟩) (by assumption) ?r30
        case y30 => (intro w hSw; obtain ⟨g0, g1, g2⟩ := (HG2.out.gk.grow hSw).1.cells; (go_simp <;> first | with_reducible rfl | (rw [if_pos (by omega)] <;> with_reducible rfl)))
        try simp only [Act.put, List.getElem_toArray, List.getElem_cons_zero, List.getElem_cons_succ, List.setIfInBounds_toArray, List.set_cons_zero, List.set_cons_succ]
        refine wpAnyH_take (i := 6) (v := ?v31) rfl (by kernel_rfl) (by kernel_rfl) (by kernel_rfl) (fun _ _ _ h => h) (Or.inl ⟨by rfl, ?y31⟩) (by assumption) ?r31
        case y31 => (intro w hSw; (go_simp <;> first | with_reducible rfl | (rw [if_pos (by omega)] <;> with_reducible rfl)))
        try simp only [Act.put, List.getElem_toArray, List.getElem_cons_zero, List.getElem_cons_succ, List.setIfInBounds_toArray, List.set_cons_zero, List.set_cons_succ]
        refine wpAnyH_take (i := 7) (v := ?v32) rfl (by kernel_rfl) (by kernel_rfl) (by kernel_rfl) (fun _ _ _ h => h) (Or.inl ⟨by rfl, ?y32⟩) (by assumption) ?r32
        case y32 => (intro w hSw; (go_simp <;> first | with_reducible rfl | (rw [if_pos (by omega)] <;> with_reducible rfl)))
        try simp only [Act.put, List.getElem_toArray, List.getElem_cons_zero, List.getElem_cons_succ, List.setIfInBounds_toArray, List.set_cons_zero, List.set_cons_succ]
        refine wpAnyH_take (i := 8) rfl (by kernel_rfl) (by kernel_rfl) (by kernel_rfl) (fun _ _ _ h => h) (yieldsIf_load_mid (by rfl) _ _ rfl _ _ rfl (posC z1) _ (fun w h => posRangeB (HG2.out.gk.grow h).2.1 HZ1.out) (Tryd.underlying28) rfl (HI1.out)) (by assumption) ?_
        try simp only [Act.put, List.getElem_toArray, List.getElem_cons_zero, List.getElem_cons_succ, List.setIfInBounds_toArray, List.set_cons_zero, List.set_cons_succ]
        refine wpAnyH_ready (rs := [1]) (by kernel_rfl) (by simp) ?_
        refine AllReadyH.cons rfl (fun K hK => ?_) AllReadyH.nil
        rw [if_pos (by rfl)]
        go_simp
        go_at_call 35
        refine (KE.out _ (HG2.out.gk.grow hHeld)).mono ?_
        rintro e wn ⟨rfl, rfl⟩
        refine hK.out _ _ (hHeld) (fun hHeld => ?_)
        clear hK K
        try simp only [Act.put, List.getElem_toArray, List.getElem_cons_zero, List.getElem_cons_succ, List.setIfInBounds_toArray, List.set_cons_zero, List.set_cons_succ]
        refine wpAnyH_ready (rs := [9]) (by kernel_rfl) (by simp) ?_
        refine AllReadyH.cons rfl (fun K hK => ?_) AllReadyH.nil
        rw [if_pos (by rfl)]
        go_simp
        go_at_call 36
        refine (KO.out _).mono ?_
        rintro e wn ⟨rfl, hb⟩
        refine hK.out _ _ (bthen hHeld hb) (fun hHeld => ?_)
        clear hK K
        try simp only [Act.put, List.getElem_toArray, List.getElem_cons_zero, List.getElem_cons_succ, List.setIfInBounds_toArray, List.set_cons_zero, List.set_cons_succ]
        refine wpAnyH_take (i := 10) (v := ?v33) rfl (by kernel_rfl) (by kernel_rfl) (by kernel_rfl) (fun _ _ _ h => h) (Or.inl ⟨by rfl, ?y33⟩) (by assumption) ?r33
        case y33 => (intro w hSw; (go_simp <;> first | with_reducible rfl | (rw [if_pos (by omega)] <;> with_reducible rfl)))
        try simp only [Act.put, List.getElem_toArray, List.getElem_cons_zero, List.getElem_cons_succ, List.setIfInBounds_toArray, List.set_cons_zero, List.set_cons_succ]
        refine wpAnyH_take (i := 11) (v := ?v34) rfl (by kernel_rfl) (by kernel_rfl) (by kernel_rfl) (fun _ _ _ h => h) (Or.inl ⟨by rfl, ?y34⟩) (by assumption) ?r34
        case y34 => (intro w hSw; (go_simp <;> first | with_reducible rfl | (rw [if_pos (by omega)] <;> with_reducible rfl)))
        try simp only [Act.put, List.getElem_toArray, List.getElem_cons_zero, List.getElem_cons_succ, List.setIfInBounds_toArray, List.set_cons_zero, List.set_cons_succ]
        refine wpAnyH_take (i := 12) (v := ?v35) rfl (by kernel_rfl) (by kernel_rfl) (by kernel_rfl) (fun _ _ _ h => h) (Or.inl ⟨by rfl, ?y35⟩) (by assumption) ?r35
        case y35 => (intro w hSw; (go_simp <;> first | with_reducible rfl | (rw [if_pos (by omega)] <;> with_reducible rfl)))
        try simp only [Act.put, List.getElem_toArray, List.getElem_cons_zero, List.getElem_cons_succ, List.setIfInBounds_toArray, List.set_cons_zero, List.set_cons_succ]
        refine wpAnyH_take (i := 13) (v := ?v36) rfl (by kernel_rfl) (by kernel_rfl) (by kernel_rfl) (fun _ _ _ h => h) (Or.inl ⟨by rfl, ?y36⟩) (by assumption) ?r36
        case y36 => (intro w hSw; (go_simp <;> first | with_reducible rfl | (rw [if_pos (by omega)] <;> with_reducible rfl)))
        try simp only [Act.put, List.getElem_toArray, List.getElem_cons_zero, List.getElem_cons_succ, List.setIfInBounds_toArray, List.set_cons_zero, List.set_cons_succ]
        refine wpAnyH_take (i := 14) (v := ?v37) rfl (by kernel_rfl) (by kernel_rfl) (by kernel_rfl) (fun _ _ _ h => h) (Or.inl ⟨by rfl, ?y37⟩) (by assumption) ?r37
        case y37 => (intro w hSw; (go_simp <;> first | with_reducible rfl | (rw [if_pos (by omega)] <;> with_reducible rfl)))
        try simp only [Act.put, List.getElem_toArray, List.getElem_cons_zero, List.getElem_cons_succ, List.setIfInBounds_toArray, List.set_cons_zero, List.set_cons_succ]
        refine wpAnyH_take (i := 15) (v := ?v38) rfl (by kernel_rfl) (by kernel_rfl) (by kernel_rfl) (fun _ _ _ h => h) (Or.inl ⟨by rfl, ?y38⟩) (by assumption) ?r38
        case y38 => (intro w hSw; obtain ⟨g0, g1, g2⟩ := (HG2.out.gk.grow hSw).1.cells; (go_simp <;> first | with_reducible rfl | (rw [if_pos (by omega)] <;> with_reducible rfl)))
        try simp only [Act.put, List.getElem_toArray, List.getElem_cons_zero, List.getElem_cons_succ, List.setIfInBounds_toArray, List.set_cons_zero, List.set_cons_succ]
        refine wpAnyH_take (i := 16) (v := ?v39) rfl (by kernel_rfl) (by kernel_rfl) (by kernel_rfl) (fun _ _ _ h => h) (Or.inl ⟨by rfl, ?y39⟩) (by assumption) ?r39
        case y39 => (intro w hSw; (go_simp <;> first | with_reducible rfl | (rw [if_pos (by omega)] <;> with_reducible rfl)))
        try simp only [Act.put, List.getElem_toArray, List.getElem_cons_zero, List.getElem_cons_succ, List.setIfInBounds_toArray, List.set_cons_zero, List.set_cons_succ]
        refine wpAnyH_take (i := 17) (v := ?v40) rfl (by kernel_rfl) (by kernel_rfl) (by kernel_rfl) (fun _ _ _ h => h) (Or.inl ⟨by rfl, ?y40⟩) (by assumption) ?r40
        case y40 => (intro w hSw; (go_simp <;> first | with_reducible rfl | (rw [if_pos (by omega)] <;> with_reducible rfl)))
        try simp only [Act.put, List.getElem_toArray, List.getElem_cons_zero, List.getElem_cons_succ, List.setIfInBounds_toArray, List.set_cons_zero, List.set_cons_succ]
        refine wpAnyH_take (i := 18) rfl (by kernel_rfl) (by kernel_rfl) (by kernel_rfl) (fun _ _ _ h => h) (yieldsIf_load_mid (by rfl) _ _ rfl _ _ rfl (posC z1) _ (fun w h => posRangeB (HG2.out.gk.grow h).2.1 HZ1.out) (Tryd.underlying28) rfl (HI1.out)) (by assumption) ?_
        try simp only [Act.put, List.getElem_toArray, List.getElem_cons_zero, List.getElem_cons_succ, List.setIfInBounds_toArray, List.set_cons_zero, List.set_cons_succ]
        refine wpAnyH_take (i := 19) (v := ?v41) rfl (by kernel_rfl) (by kernel_rfl) (by kernel_rfl) (fun _ _ _ h => h) (Or.inl ⟨by rfl, ?y41⟩) (by assumption) ?r41
        case y41 => (intro w hSw; (go_simp <;> first | with_reducible rfl | (rw [if_pos (by omega)] <;> with_reducible rfl)))
        try simp only [Act.put, List.getElem_toArray, List.getElem_cons_zero, List.getElem_cons_succ, List.setIfInBounds_toArray, List.set_cons_zero, List.set_cons_succ]
        refine wpAnyH_take (i := 20) (v := ?v42) rfl (by kernel_rfl) (by kernel_rfl) (by kernel_rfl) (fun _ _ _ h => h) (Or.inl ⟨by rfl, ?y42⟩) (by assumption) ?r42
        case y42 => (intro w hSw; (go_simp <;> first | with_reducible rfl | (rw [if_pos (by omega)] <;> with_reducible rfl)))
        try simp only [Act.put, List.getElem_toArray, List.getElem_cons_zero, List.getElem_cons_succ, List.setIfInBounds_toArray, List.set_cons_zero, List.set_cons_succ]
        refine wpAnyH_take (i := 21) (v := ?v43) rfl (by kernel_rfl) (by kernel_rfl) (by kernel_rfl) (fun _ _ _ h => h) (Or.inl ⟨by rfl, ?y43⟩) (by assumption) ?r43
        case y43 => (intro w hSw; (go_simp <;> first | with_reducible rfl | (rw [if_pos (by omega)] <;> with_reducible rfl)))
        try simp only [Act.put, List.getElem_toArray, List.getElem_cons_zero, List.getElem_cons_succ, List.setIfInBounds_toArray, List.set_cons_zero, List.set_cons_succ]
        refine wpAnyH_take (i := 22) (v := ?v44) rfl (by kernel_rfl) (by kernel_rfl) (by kernel_rfl) (fun _ _ _ h => h) (Or.inl ⟨by rfl, ?y44⟩) (by assumption) ?r44
        case y44 => (intro w hSw; obtain ⟨g0, g1, g2⟩ := (HG2.out.gk.grow hSw).1.cells; (go_simp <;> first | with_reducible rfl | (rw [if_pos (by omega)] <;> with_reducible rfl)))
        try simp only [Act.put, List.getElem_toArray, List.getElem_cons_zero, List.getElem_cons_succ, List.setIfInBounds_toArray, List.set_cons_zero, List.set_cons_succ]
        refine wpAnyH_take (i := 23) (v := ?v45) rfl (by kernel_rfl) (by kernel_rfl) (by kernel_rfl) (fun _ _ _ h => h) (Or.inl ⟨by rfl, ?y45⟩) (by assumption) ?r45
        case y45 => (intro w hSw; (go_simp <;> first | with_reducible rfl | (rw [if_pos (by omega)] <;> with_reducible rfl)))
        try simp only [Act.put, List.getElem_toArray, List.getElem_cons_zero, List.getElem_cons_succ, List.setIfInBounds_toArray, List.set_cons_zero, List.set_cons_succ]
        refine wpAnyH_take (i := 24) (v := ?v46) rfl (by kernel_rfl) (by kernel_rfl) (by kernel_rfl) (fun _ _ _ h => h) (Or.inl ⟨by rfl, ?y46⟩) (by assumption) ?r46
        case y46 => (intro w hSw; (go_simp <;> first | with_reducible rfl | (rw [if_pos (by omega)] <;> with_reducible rfl)))
        try simp only [Act.put, List.getElem_toArray, List.getElem_cons_zero, List.getElem_cons_succ, List.setIfInBounds_toArray, List.set_cons_zero, List.set_cons_succ]
        refine wpAnyH_take (i := 25) rfl (by kernel_rfl) (by kernel_rfl) (by kernel_rfl) (fun _ _ _ h => h) (yieldsIf_load_mid (by rfl) _ _ rfl _ _ rfl (posC z1) _ (fun w h => posRangeB (HG2.out.gk.grow h).2.1 HZ1.out) (Tryd.underlying28) rfl (HI1.out)) (by assumption) ?_
        try simp only [Act.put, List.getElem_toArray, List.getElem_cons_zero, List.getElem_cons_succ, List.setIfInBounds_toArray, List.set_cons_zero, List.set_cons_succ]
        refine wpAnyH_ready (rs := [26]) (by kernel_rfl) (by simp) ?_
        refine AllReadyH.cons rfl (fun K hK => ?_) AllReadyH.nil
        rw [if_pos (by rfl)]
        go_simp
        go_at_call 16
        refine (NB.out _).mono ?_
        rintro e wn ⟨nb, rfl, hnb, hbrd, hb⟩
        refine hK.out _ _ (bthen hHeld hb) (fun hHeld => ?_)
        clear hK K
        refine wpAnyH_mono (S' := fun W => Below w2.heap.size w2 W ∧ Brd W nb z1) (fun _ h => h.1) ?_
        have hHeld := And.intro hHeld hbrd
        try simp only [Act.put, List.getElem_toArray, List.getElem_cons_zero, List.getElem_cons_succ, List.setIfInBounds_toArray, List.set_cons_zero, List.set_cons_succ]
        refine wpAnyH_take (i := 27) (v := ?v47) rfl (by kernel_rfl) (by kernel_rfl) (by kernel_rfl) (fun _ _ _ h => h) (Or.inl ⟨by rfl, ?y47⟩) (by assumption) ?r47
        case y47 => (intro w hSw; (go_simp <;> first | with_reducible rfl | (rw [if_pos (by omega)] <;> with_reducible rfl)))
        try simp only [Act.put, List.getElem_toArray, List.getElem_cons_zero, List.getElem_cons_succ, List.setIfInBounds_toArray, List.set_cons_zero, List.set_cons_succ]
        refine wpAnyH_take (i := 28) (v := ?v48) rfl (by kernel_rfl) (by kernel_rfl) (by kernel_rfl) (fun _ _ _ h => h) (Or.inl ⟨by rfl, ?y48⟩) (by assumption) ?r48
        case y48 => (intro w hSw; (go_simp <;> first | with_reducible rfl | (rw [if_pos (by omega)] <;> with_reducible rfl)))
        try simp only [Act.put, List.getElem_toArray, List.getElem_cons_zero, List.getElem_cons_succ, List.setIfInBounds_toArray, List.set_cons_zero, List.set_cons_succ]
        refine wpAnyH_take (i := 29) rfl (by kernel_rfl) (by kernel_rfl) (by kernel_rfl) (fun _ _ _ h => h) (yieldsIf_load_mid (by rfl) _ _ rfl _ _ rfl (posC z1) _ (fun w h => posRangeB h.2 HZ1.out) (Tryd.underlying28) rfl (HI1.out)) (by assumption) ?_
        try simp only [Act.put, List.getElem_toArray, List.getElem_cons_zero, List.getElem_cons_succ, List.setIfInBounds_toArray, List.set_cons_zero, List.set_cons_succ]
        refine wpAnyH_take (i := 30) (v := ?v49) rfl (by kernel_rfl) (by kernel_rfl) (by kernel_rfl) (fun _ _ _ h => h) (Or.inl ⟨by rfl, ?y49⟩) (by assumption) ?r49
        case y49 => (intro w hSw; (go_simp <;> first | with_reducible rfl | (rw [if_pos (by omega)] <;> with_reducible rfl)))
        try simp only [Act.put, List.getElem_toArray, List.getElem_cons_zero, List.getElem_cons_succ, List.setIfInBounds_toArray, List.set_cons_zero, List.set_cons_succ]
        refine wpAnyH_take (i := 31) (v := ?v50) rfl (by kernel_rfl) (by kernel_rfl) (by kernel_rfl) (fun _ _ _ h => h) (Or.inl ⟨by rfl, ?y50⟩) (by assumption) ?r50
        case y50 => (intro w hSw; (go_simp <;> first | with_reducible rfl | (rw [if_pos (by omega)] <;> with_reducible rfl)))
        try simp only [Act.put, List.getElem_toArray, List.getElem_cons_zero, List.getElem_cons_succ, List.setIfInBounds_toArray, List.set_cons_zero, List.set_cons_succ]
        refine wpAnyH_done (by kernel_rfl) ?_ _
        go_wp2_with fail
        go_roundw
        case rel => exact ⟨k + 1, by omega, by go_num, z1, v1, L1, (HG2.out.grow hHeld.1).up (by omega), by (have := HL1.out; omega), bthen HB2.out hHeld.1⟩
        case measure => simp [intOf]; omega

    · obtain rfl : k = M.length := by omega
      have B8 := HB
      go_wp2_with fail
      go_ret
      exact ⟨rfl, B8.out⟩

/-- THE WALK OF THE LAW. -/
theorem walk (z : List Int) (oa : Option Addr) (cap : Nat) (M : List Mv) (hz' : z.length = 98) (h8 : I8s z) (hml : M.length ≤ 9223372036854775807) (w : World) (hM : MvsAt w oa M) (hH : Home w) :
    Calls Tryd.prog 5 #[.agg (posC z).toArray, .slice oa M.length cap] w fun e w' => e = .returned (.bool true) ∧ Below w.heap.size w w' := by
  by_cases hc : checkF (newZ z) = 0
  · by_cases hln : M.length ≤ 100
    · exact walk_loop z oa cap M hz' h8 hml hc hln w hM hH
    · exact walk_long z oa cap M hz' h8 hml hc (by omega) w hM hH
  · exact walk_no z oa cap M hz' h8 hml hc w hM hH
end Go.Proofs.YtbopbekehccdmaaDoor.deedKeys
