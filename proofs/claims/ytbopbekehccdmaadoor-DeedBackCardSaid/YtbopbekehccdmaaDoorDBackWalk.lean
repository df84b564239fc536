/-
  The walk of the law DeedBack: for every position and all moves it returns true.
-/
import Derived.Test.YtbopbekehccdmaaDoorDmRefs
import Derived.Test.YtbopbekehccdmaaDoorGmHist
import Derived.OpenShut
import Derived.Deep.CutBlock
namespace Go.Proofs.YtbopbekehccdmaaDoor.deedBack
open Go.RowKit
set_option linter.unusedVariables false
set_option linter.unusedSimpArgs false

/-- The position that was handed over. -/
def RP (w : World) (z : List Int) (W : World) : Prop := PosAt W w.heap.size z ∧ Below w.heap.size w W
theorem RP.start (w : World) (z : List Int) : RP w z (w.alloc (.cells (posC z).toArray 28)) := ⟨PosAt.new w z, ball (bref w) _⟩
theorem RP.grow {w W W' : World} {z : List Int} (h : RP w z W) (hb : Below W.heap.size W W') : RP w z W' := ⟨h.1.grow hb, bthen h.2 hb⟩
theorem RP.setRow {w W : World} {z z' : List Int} (h : RP w z W) : RP w z' (W.setRow w.heap.size (posC z').toArray) := ⟨setRow_heap _ _ _ _ _ _ h.1, below_row h.2 (Nat.le_refl _) _⟩
theorem RP.lt {w W : World} {z : List Int} (h : RP w z W) : w.heap.size < W.heap.size := h.1.lt
theorem RP.drew {w W : World} {z : List Int} (h : RP w z W) : RP w z W.drew := ⟨h.1, h.2.drew⟩

/-- What the first loop keeps: a game with its history, and the positions that it had. -/
def Kept (w W : World) (B g b : Nat) (z0 : List Int) (s : Value) (k : Nat) : Prop := ∃ H z v, HInv W B g b z0 H z v ∧ WasAt W B s (H.map Prod.fst ++ [z]) ∧ H.length ≤ k ∧ Below w.heap.size w W
theorem was_own {W : World} {B : Nat} {s : Value} {H : List (List Int × Mv)} {z : List Int} (h : WasAt W B s (H.map Prod.fst ++ [z])) (o : Obj) : (W.alloc o).ownsRow B 28 98 s (H.length + 1) (posCs (H.map Prod.fst ++ [z])) := by
  have := h.grow (ball (bref W) o)
  unfold WasAt at this
  rwa [List.length_append, List.length_map] at this
theorem was_slice {W : World} {B : Nat} {s : Value} {H : List (List Int × Mv)} {z : List Int} (h : WasAt W B s (H.map Prod.fst ++ [z])) : ∃ js cap, s = .slice (some ⟨js, 0, none⟩) (H.length + 1) cap := by
  unfold WasAt at h
  rw [List.length_append, List.length_map] at h
  exact own_slice h
theorem was_snoc {W : World} {B : Nat} {s : Value} {H : List (List Int × Mv)} {z z0 : List Int} {m : Mv} (h : W.ownsRow B 28 98 s (H.length + 1 + 1) (posCs (H.map Prod.fst ++ [z0]) ++ posC z)) : WasAt W B s ((H ++ [(z0, m)]).map Prod.fst ++ [z]) := by
  unfold WasAt
  rw [List.map_append, posCs_snoc, List.length_append, List.length_append, List.length_map]
  exact h
theorem alloc_cells (W : World) (z : List Int) : ∀ (j : Nat) (u : Value), (posC z)[j]? = some u → (W.alloc (.cells (posC z).toArray 28)).cell? ((⟨W.heap.size, 0, none⟩ : Addr).add j) = some u := by
  intro j u hj
  rw [addr_zero, cell_of_row _ W.heap.size j _ _ _ (heap_alloc_new W _)]
  simpa using hj
theorem posC_ones (z : List Int) : ∀ u ∈ posC z, u.oneCell' = true := by
  intro u hu
  have := posC_one z
  rw [Array.all_eq_true_iff_forall_mem] at this
  exact this u (by simpa using hu)
theorem le_alloc (W : World) (o : Obj) : W.heap.size ≤ (W.alloc o).heap.size := (ball (bref W) o).size
theorem Kept.up {w W : World} {B g b : Nat} {z0 : List Int} {s : Value} {k j : Nat} (h : Kept w W B g b z0 s k) (hk : k ≤ j) : Kept w W B g b z0 s j := by
  obtain ⟨H, z, v, h1, h2, h3, h4⟩ := h
  exact ⟨H, z, v, h1, h2, Nat.le_trans h3 hk, h4⟩

set_option maxRecDepth 100000 in
set_option maxHeartbeats 8000000 in
theorem walk_small (z : List Int) (oa : Option Addr) (cap : Nat) (M : List Mv) (hz' : z.length = 98) (h8 : I8s z) (hml : M.length ≤ 9223372036854775807) (hs : ¬ HandsIn (newZ z) 0 18 16) (w : World) (hM : MvsAt w oa M) (hT : Tab w) (hH : Home w) :
    Calls Tryd.prog 4 #[.agg (posC z).toArray, .slice oa M.length cap] w fun e w' => e = .returned (.bool true) ∧ Below w.heap.size w w' := by
  have R := Lib.hid (RP.start w z)
  have MT := Lib.hid (fun W (hH : Home W) => makes_true W hH)
  have CL := Lib.hid (fun W => clean_any z hz' h8 W)
  have hzc := newZ_len z hz'
  have h8c := newZ_8 z h8
  have hcc := newZ_clean z hz'
  have SM := Lib.hid (fun W => small_any (newZ z) hzc h8c W)
  have HINF := Lib.hid (show (Tryd.prog.info? 28).map (·.size) = some (posC z).length by rw [posC_len, hz']; exact infoPos)
  have HINFC := Lib.hid (show (Tryd.prog.info? 28).map (·.size) = some (posC (newZ z)).length by rw [posC_len, hzc]; exact infoPos)
  have HSC := Lib.hid (show (posC z).toArray.size = (posC (newZ z)).toArray.size by rw [List.size_toArray, List.size_toArray, posC_len, posC_len, hz', hzc])
  have HH := Lib.hid hH
  have HT := Lib.hid hT
  have HM := Lib.hid hM
  rw [decide_eq_false hs] at SM
  clear hT hH hz' h8 hM
  clear hs hzc h8c hcc
  generalize newZ z = zc at *
  go_enter Tryd.func4, Tryd.ntmps4
  go_upto_region 1 with fail
  generalize w.alloc (.cells (posC z).toArray 28) = w0 at *
  go_upto_region 4 with (first
    | (go_at_call 28; refine (MT.out _ (HH.out.grow R.out.2)).mono ?_; rintro e w1 ⟨rfl, hb⟩; have R := Lib.hid (R.out.grow hb); clear hb)
    | (refine wpList_load_mid rfl 28 _ rfl w.heap.size 0 rfl (posC z) _ R.out.1.range Tryd.underlying28 rfl HINF.out ?_)
    | (go_at_call 29; refine (CL.out _).mono ?_; rintro e w2 ⟨rfl, hb⟩; have R := Lib.hid (R.out.grow hb); clear hb)
    | (refine wpList_store_row rfl 28 _ _ rfl w.heap.size (posC zc).toArray rfl rfl 28 _ R.out.1 (by rw [List.size_toArray]; exact HINFC.out) HSC.out (posC_one zc) ?_))
  have R := Lib.hid (R.out.setRow (z' := zc))
  generalize w2.setRow w.heap.size (posC zc).toArray = w3 at *
  go_wp2_with (first
    | (refine load_row_want (by rfl) 28 _ rfl w.heap.size rfl 28 _ _ _ R.out.1 Tryd.underlying28 rfl (by rw [List.size_toArray]; exact HINFC.out) ?_)
    | (refine wpList_load_mid rfl 28 _ rfl w.heap.size 0 rfl (posC zc) _ R.out.1.range Tryd.underlying28 rfl HINFC.out ?_)
    | (go_at_call 30; refine (SM.out _).mono ?_; rintro e w4 ⟨rfl, hb⟩; have R := Lib.hid (R.out.grow hb); clear hb)
    | fail)
  go_ret
  exact ⟨rfl, R.out.2⟩

set_option maxRecDepth 100000 in
set_option maxHeartbeats 8000000 in
theorem walk_long (z : List Int) (oa : Option Addr) (cap : Nat) (M : List Mv) (hz' : z.length = 98) (h8 : I8s z) (hml : M.length ≤ 9223372036854775807) (hs : HandsIn (newZ z) 0 18 16) (hln : 60 < M.length) (w : World) (hM : MvsAt w oa M) (hT : Tab w) (hH : Home w) :
    Calls Tryd.prog 4 #[.agg (posC z).toArray, .slice oa M.length cap] w fun e w' => e = .returned (.bool true) ∧ Below w.heap.size w w' := by
  have R := Lib.hid (RP.start w z)
  have MT := Lib.hid (fun W (hH : Home W) => makes_true W hH)
  have CL := Lib.hid (fun W => clean_any z hz' h8 W)
  have hzc := newZ_len z hz'
  have h8c := newZ_8 z h8
  have hcc := newZ_clean z hz'
  have SM := Lib.hid (fun W => small_any (newZ z) hzc h8c W)
  have HINF := Lib.hid (show (Tryd.prog.info? 28).map (·.size) = some (posC z).length by rw [posC_len, hz']; exact infoPos)
  have HINFC := Lib.hid (show (Tryd.prog.info? 28).map (·.size) = some (posC (newZ z)).length by rw [posC_len, hzc]; exact infoPos)
  have HSC := Lib.hid (show (posC z).toArray.size = (posC (newZ z)).toArray.size by rw [List.size_toArray, List.size_toArray, posC_len, posC_len, hz', hzc])
  have HH := Lib.hid hH
  have HT := Lib.hid hT
  have HM := Lib.hid hM
  rw [decide_eq_true hs] at SM
  have bl : (60 : Int) < (M.length : Int) := by omega
  clear hT hH hz' h8 hM
  clear hs hzc h8c hcc
  generalize newZ z = zc at *
  go_enter Tryd.func4, Tryd.ntmps4
  go_upto_region 1 with fail
  generalize w.alloc (.cells (posC z).toArray 28) = w0 at *
  go_upto_region 4 with (first
    | (go_at_call 28; refine (MT.out _ (HH.out.grow R.out.2)).mono ?_; rintro e w1 ⟨rfl, hb⟩; have R := Lib.hid (R.out.grow hb); clear hb)
    | (refine wpList_load_mid rfl 28 _ rfl w.heap.size 0 rfl (posC z) _ R.out.1.range Tryd.underlying28 rfl HINF.out ?_)
    | (go_at_call 29; refine (CL.out _).mono ?_; rintro e w2 ⟨rfl, hb⟩; have R := Lib.hid (R.out.grow hb); clear hb)
    | (refine wpList_store_row rfl 28 _ _ rfl w.heap.size (posC zc).toArray rfl rfl 28 _ R.out.1 (by rw [List.size_toArray]; exact HINFC.out) HSC.out (posC_one zc) ?_))
  have R := Lib.hid (R.out.setRow (z' := zc))
  generalize w2.setRow w.heap.size (posC zc).toArray = w3 at *
  go_wp2_with (first
    | (refine load_row_want (by rfl) 28 _ rfl w.heap.size rfl 28 _ _ _ R.out.1 Tryd.underlying28 rfl (by rw [List.size_toArray]; exact HINFC.out) ?_)
    | (refine wpList_load_mid rfl 28 _ rfl w.heap.size 0 rfl (posC zc) _ R.out.1.range Tryd.underlying28 rfl HINFC.out ?_)
    | (go_at_call 30; refine (SM.out _).mono ?_; rintro e w4 ⟨rfl, hb⟩; have R := Lib.hid (R.out.grow hb); clear hb)
    | fail)
  go_ret
  exact ⟨rfl, R.out.2⟩

set_option maxRecDepth 100000 in
set_option maxHeartbeats 8000000 in
theorem walk_loop (z : List Int) (oa : Option Addr) (cap : Nat) (M : List Mv) (hz' : z.length = 98) (h8 : I8s z) (hml : M.length ≤ 9223372036854775807) (hs : HandsIn (newZ z) 0 18 16) (hln : M.length ≤ 60) (w : World) (hM : MvsAt w oa M) (hT : Tab w) (hH : Home w) :
    Calls Tryd.prog 4 #[.agg (posC z).toArray, .slice oa M.length cap] w fun e w' => e = .returned (.bool true) ∧ Below w.heap.size w w' := by
  have R := Lib.hid (RP.start w z)
  have MT := Lib.hid (fun W (hH : Home W) => makes_true W hH)
  have CL := Lib.hid (fun W => clean_any z hz' h8 W)
  have hzc := newZ_len z hz'
  have h8c := newZ_8 z h8
  have hcc := newZ_clean z hz'
  have SM := Lib.hid (fun W => small_any (newZ z) hzc h8c W)
  have HINF := Lib.hid (show (Tryd.prog.info? 28).map (·.size) = some (posC z).length by rw [posC_len, hz']; exact infoPos)
  have HINFC := Lib.hid (show (Tryd.prog.info? 28).map (·.size) = some (posC (newZ z)).length by rw [posC_len, hzc]; exact infoPos)
  have HSC := Lib.hid (show (posC z).toArray.size = (posC (newZ z)).toArray.size by rw [List.size_toArray, List.size_toArray, posC_len, posC_len, hz', hzc])
  have HH := Lib.hid hH
  have HT := Lib.hid hT
  have HM := Lib.hid hM
  rw [decide_eq_true hs] at SM
  have bl : ¬ (60 : Int) < (M.length : Int) := by omega
  have hpos : PosOk (newZ z) 18 := ⟨hzc, h8c, hcc, fun j a b => by
    have := hs (j - 81) (by omega)
    rwa [show 81 + (j - 81) = j by omega] at this⟩
  have HPO := Lib.hid hpos
  have NE := Lib.hid (fun W => newGame_any (newZ z) hzc h8c W)
  rw [newZ_self (newZ z) hzc hcc] at NE
  have HLN := Lib.hid hln
  have HZC := Lib.hid hzc
  have FIL := Lib.hid (fun cs hcs => fill_pos (newZ z) hzc cs hcs)
  obtain ⟨ip, zp, hip, hzp, hips, hipb, hzps⟩ := info_pos
  have IP := Lib.hid hip
  have ZP := Lib.hid hzp
  have IPS := Lib.hid hips
  clear hip hzp hips hipb hzps
  clear hT hH hz' h8 hM
  clear hs hzc h8c hcc hpos
  generalize newZ z = zc at *
  go_enter Tryd.func4, Tryd.ntmps4
  go_upto_region 1 with fail
  generalize w.alloc (.cells (posC z).toArray 28) = w0 at *
  go_upto_region 4 with (first
    | (go_at_call 28; refine (MT.out _ (HH.out.grow R.out.2)).mono ?_; rintro e w1 ⟨rfl, hb⟩; have R := Lib.hid (R.out.grow hb); clear hb)
    | (refine wpList_load_mid rfl 28 _ rfl w.heap.size 0 rfl (posC z) _ R.out.1.range Tryd.underlying28 rfl HINF.out ?_)
    | (go_at_call 29; refine (CL.out _).mono ?_; rintro e w2 ⟨rfl, hb⟩; have R := Lib.hid (R.out.grow hb); clear hb)
    | (refine wpList_store_row rfl 28 _ _ rfl w.heap.size (posC zc).toArray rfl rfl 28 _ R.out.1 (by rw [List.size_toArray]; exact HINFC.out) HSC.out (posC_one zc) ?_))
  have R := Lib.hid (R.out.setRow (z' := zc))
  generalize w2.setRow w.heap.size (posC zc).toArray = w3 at *
  go_upto_region 7 with (first
    | (refine load_row_want (by rfl) 28 _ rfl w.heap.size rfl 28 _ _ _ R.out.1 Tryd.underlying28 rfl (by rw [List.size_toArray]; exact HINFC.out) ?_)
    | (refine wpList_load_mid rfl 28 _ rfl w.heap.size 0 rfl (posC zc) _ R.out.1.range Tryd.underlying28 rfl HINFC.out ?_)
    | (go_at_call 30; refine (SM.out _).mono ?_; rintro e w4 ⟨rfl, hb⟩; have R := Lib.hid (R.out.grow hb); clear hb)
    | (go_at_call 31; refine (NE.out _).mono ?_; rintro e w5 ⟨g, b, rfl, hg, hb, hG, hbw⟩; have GE := Lib.hid (And.intro (Nat.le_trans R.out.lt hg) (Nat.le_trans R.out.lt hb)); have HG := Lib.hid (show HInv w5 (w.heap.size + 1) g b zc [] zc (.slice none 0 0) from ⟨hG, past_none _ _ _ _, .nil⟩); have R := Lib.hid (R.out.grow hbw); clear hg hb hG hbw; obtain ⟨g0, g1, g2⟩ := HG.out.gk.1.cells)
    | fail)
  go_upto_block 0 with (first
    | (refine wpList_load_mid rfl 28 _ rfl b 0 rfl (posC zc) _ (posRangeB HG.out.gk.2.1 HZC.out) Tryd.underlying28 rfl HINFC.out ?_)
    | (refine wpList_buildSlice rfl 62 28 1 _ rfl (posC zc).toArray ip zp Tryd.underlying62 IP.out ZP.out (by rw [IPS.out]; decide) (by rw [IPS.out]; decide) (by rw [IPS.out, Array.toList_map]; exact FIL.out _ (by simp)) ?_)
    | fail)
  have HW0 := Lib.hid (was_new w5 (w.heap.size + 1) zc HZC.out (by (have := HG.out.lt.1; have := GE.out.1; omega)))
  have hBa := ball (bref w5) (.cells (posC zc).toArray 28)
  have HG0 := Lib.hid (HG.out.grow hBa)
  have HB0 := Lib.hid (bthen R.out.2 hBa)
  clear hBa HG R bl g0 g1 g2
  generalize w5.heap.size = j0 at *
  generalize w5.alloc (.cells (posC zc).toArray 28) = w6 at *
  go_cut [6] (fun s wx => Kept w wx (w.heap.size + 1) g b zc s M.length)
  case first =>
    go_wp2_with fail
    go_loopw [35, 6] (fun i s wr => ∃ k : Nat, k ≤ M.length ∧ i = .int .i64 k ∧ Kept w wr (w.heap.size + 1) g b zc s k) (fun i _ _ => M.length - (intOf i).toNat)
    case atStart => exact ⟨0, Nat.zero_le _, rfl, [], zc, _, HG0.out, HW0.out, Nat.le_refl _, HB0.out⟩
    case round =>
      obtain ⟨k, hk, rfl, H0, z0, v0, hI, hW, hL, hB⟩ := hrel
      have HG := Lib.hid hI
      have HW := Lib.hid hW
      have HB := Lib.hid hB
      have HL := Lib.hid hL
      have HO := Lib.hid (hist_ok HPO.out hI.hist (by (have := HLN.out; omega)))
      clear hI hB hL hW
      by_cases hlt : (k : Int) < (M.length : Int)
      · obtain ⟨m, hm⟩ : ∃ m, M[k]? = some m := ⟨_, List.getElem?_eq_getElem (by omega)⟩
        obtain ⟨bm, om, hoa, hblt, hR⟩ := HM.out.grow HB.out k m hm
        subst hoa
        have HR := Lib.hid hR
        clear hR hm
        by_cases hfu : HandsIn z0 (-128) 17 16
        · cases hcan : canF z0 m.f m.t m.d m.p
          · skip
            have W1 := Lib.hid (fresh_mv wr m)
            have hBa := below_row (ball (bref wr) (.cells #[.int .i64 0, .int .i64 0, .int .i64 0, .bool false] 64)) (Nat.le_refl _) m.cells.toArray
            have HG1 := Lib.hid (HG.out.grow hBa)
            have HW1 := Lib.hid (HW.out.grow hBa)
            have HB1 := Lib.hid (bthen HB.out hBa)
            have HI4 := Lib.hid (show (Tryd.prog.info? 64).map (·.size) = some m.cells.length from infoMv)
            have hol := HO.out.len
            have ho8 := HO.out.i8
            have FU := Lib.hid (fun W => full_any z0 hol ho8 W)
            have HIZ := Lib.hid (show (Tryd.prog.info? 28).map (·.size) = some (posC z0).length by rw [posC_len, hol]; exact infoPos)
            have HOL := Lib.hid hol
            clear hBa hol ho8
            go_upto_region 11 with (first
              | (refine wpList_load_mid rfl 64 _ rfl bm (om + k * 4) rfl m.cells _ HR.out Tryd.underlying64 rfl HI4.out ?_)
              | (refine wpList_store_row rfl 64 _ _ rfl wr.heap.size m.cells.toArray rfl rfl 64 #[.int .i64 0, .int .i64 0, .int .i64 0, .bool false] (heap_alloc_new wr _) (by rw [List.size_toArray]; exact HI4.out) rfl (mv_one m) ?_)
              | fail)
            generalize ham : wr.heap.size = am at *
            generalize (wr.alloc (.cells #[.int .i64 0, .int .i64 0, .int .i64 0, .bool false] 64)).setRow am m.cells.toArray = w1 at *
            clear ham
            obtain ⟨g0, g1, g2⟩ := HG1.out.gk.1.cells
            rw [decide_eq_true hfu, Bool.not_true] at FU
            clear hfu
            have MK := Lib.hid (fun W (h : HInv W (w.heap.size + 1) g b zc H0 z0 v0) => hmade_no (w.heap.size + 1) g b 18 zc H0 z0 v0 m HPO.out (by (have := HLN.out; have := HL.out; omega)) W h hcan)
            clear hcan
            go_wp2_with (first
              | (refine wpList_load_mid rfl 28 _ rfl b 0 rfl (posC z0) _ (posRangeB HG1.out.gk.2.1 HOL.out) Tryd.underlying28 rfl HIZ.out ?_)
              | (go_at_call 32; refine (FU.out _).mono ?_; rintro e w7 ⟨rfl, hb⟩; have HG2 := Lib.hid (HG1.out.grow hb); have HW2 := Lib.hid (HW1.out.grow hb); have HB2 := Lib.hid (bthen HB1.out hb); have W2 := Lib.hid ((hb.block _ (lt_of_row' W1.out)).trans W1.out); clear hb g0 g1 g2; obtain ⟨m0, m1, m2, m3⟩ := mv_cells' W2.out; obtain ⟨g0, g1, g2⟩ := HG2.out.gk.1.cells)
              | (go_at_call 33; refine (MK.out _ HG2.out).mono ?_; rintro e w8 ⟨rfl, hb⟩; have HG3 := Lib.hid (HG2.out.grow hb); have HW3 := Lib.hid (HW2.out.grow hb); have HB3 := Lib.hid (bthen HB2.out hb); clear hb)
              | fail)
            go_roundw
            case rel => exact ⟨k + 1, by omega, by go_num, H0, z0, v0, HG3.out, HW3.out, by (have := HL.out; omega), HB3.out⟩
            case measure => simp [intOf]; omega

          · skip
            have W1 := Lib.hid (fresh_mv wr m)
            have hBa := below_row (ball (bref wr) (.cells #[.int .i64 0, .int .i64 0, .int .i64 0, .bool false] 64)) (Nat.le_refl _) m.cells.toArray
            have HG1 := Lib.hid (HG.out.grow hBa)
            have HW1 := Lib.hid (HW.out.grow hBa)
            have HB1 := Lib.hid (bthen HB.out hBa)
            have HI4 := Lib.hid (show (Tryd.prog.info? 64).map (·.size) = some m.cells.length from infoMv)
            have hol := HO.out.len
            have ho8 := HO.out.i8
            have FU := Lib.hid (fun W => full_any z0 hol ho8 W)
            have HIZ := Lib.hid (show (Tryd.prog.info? 28).map (·.size) = some (posC z0).length by rw [posC_len, hol]; exact infoPos)
            have HOL := Lib.hid hol
            clear hBa hol ho8
            go_upto_region 11 with (first
              | (refine wpList_load_mid rfl 64 _ rfl bm (om + k * 4) rfl m.cells _ HR.out Tryd.underlying64 rfl HI4.out ?_)
              | (refine wpList_store_row rfl 64 _ _ rfl wr.heap.size m.cells.toArray rfl rfl 64 #[.int .i64 0, .int .i64 0, .int .i64 0, .bool false] (heap_alloc_new wr _) (by rw [List.size_toArray]; exact HI4.out) rfl (mv_one m) ?_)
              | fail)
            generalize ham : wr.heap.size = am at *
            generalize (wr.alloc (.cells #[.int .i64 0, .int .i64 0, .int .i64 0, .bool false] 64)).setRow am m.cells.toArray = w1 at *
            clear ham
            obtain ⟨g0, g1, g2⟩ := HG1.out.gk.1.cells
            rw [decide_eq_true hfu, Bool.not_true] at FU
            clear hfu
            have MK := Lib.hid (fun W (hB : w.heap.size + 1 ≤ W.heap.size) (h : HInv W (w.heap.size + 1) g b zc H0 z0 v0) => hmade_yes (w.heap.size + 1) g b 18 zc H0 z0 v0 m HPO.out (by (have := HLN.out; have := HL.out; omega)) (by (have := HLN.out; have := HL.out; omega)) W hB h hcan)
            have hzl := afterZ_len z0 m.f m.t m.d m.p HOL.out
            have HIA := Lib.hid (show (Tryd.prog.info? 28).map (·.size) = some (posC (afterZ z0 m.f m.t m.d m.p)).length by rw [posC_len, hzl]; exact infoPos)
            have HZA := Lib.hid hzl
            have FIL := Lib.hid (fun cs hcs => fill_pos (afterZ z0 m.f m.t m.d m.p) hzl cs hcs)
            clear hcan hzl
            generalize afterZ z0 m.f m.t m.d m.p = za at *
            obtain ⟨ip, zp, hip, hzp, hips, hipb, hzps⟩ := info_pos
            have IP := Lib.hid hip
            have ZP := Lib.hid hzp
            have IPS := Lib.hid hips
            have IPB := Lib.hid hipb
            have ZPS := Lib.hid hzps
            clear hip hzp hips hipb hzps
            go_upto_region 13 with (first
              | (refine wpList_load_mid rfl 28 _ rfl b 0 rfl (posC z0) _ (posRangeB HG1.out.gk.2.1 HOL.out) Tryd.underlying28 rfl HIZ.out ?_)
              | (go_at_call 32; refine (FU.out _).mono ?_; rintro e w7 ⟨rfl, hb⟩; have HG2 := Lib.hid (HG1.out.grow hb); have HW2 := Lib.hid (HW1.out.grow hb); have HB2 := Lib.hid (bthen HB1.out hb); have W2 := Lib.hid ((hb.block _ (lt_of_row' W1.out)).trans W1.out); clear hb g0 g1 g2; obtain ⟨m0, m1, m2, m3⟩ := mv_cells' W2.out; obtain ⟨g0, g1, g2⟩ := HG2.out.gk.1.cells)
              | (go_at_call 33; refine (MK.out _ (Nat.le_trans GE.out.1 (Nat.le_of_lt HG2.out.lt.1)) HG2.out).mono ?_; rintro e w8 ⟨rfl, v1, hG, hbu⟩; have HG3 := Lib.hid hG; have HW3 := Lib.hid (HW2.out.but3 HG2.out hbu); have HB3 := Lib.hid (HG2.out.below HB2.out hbu (by (have := GE.out.1; omega)) (by (have := GE.out.2; omega)) (Nat.le_succ _) (by (have := HG2.out.lt.1; have := GE.out.1; omega))); clear hG hbu g0 g1 g2 m0 m1 m2 m3; obtain ⟨g0, g1, g2⟩ := HG3.out.gk.1.cells)
              | fail)
            clear MK
            have H63 := Lib.hid (show H0.length + 1 + 1 ≤ maxLen by rw [show maxLen = 9223372036854775807 from rfl]; have := HLN.out; have := HL.out; omega)
            have HBY := Lib.hid (show (H0.length + 1 + 1) * 98 ≤ 140737488355328 by have := HLN.out; have := HL.out; omega)
            go_wp2_with (first
              | (refine wpList_load_mid rfl 28 _ rfl b 0 rfl (posC za) _ (posRangeB HG3.out.gk.2.1 HZA.out) Tryd.underlying28 rfl HIA.out ?_)
              | (refine wpList_buildSlice rfl 62 28 1 _ rfl (posC za).toArray ip zp Tryd.underlying62 IP.out ZP.out (by rw [IPS.out]; decide) (by rw [IPS.out]; decide) (by rw [IPS.out, Array.toList_map]; exact FIL.out _ (by simp)) ?_)
              | (at_builtin; refine wpList_append_own _ rfl _ _ 62 rfl (w.heap.size + 1) 28 ip zp 98 98 Tryd.underlying62 IP.out ZP.out IPS.out IPB.out ZPS.out (by decide) u6 (H0.length + 1) (posCs (H0.map Prod.fst ++ [z0])) rfl (was_own HW3.out _) ⟨w8.heap.size, 0, none⟩ 1 1 (posC za) rfl (by rw [posC_len, HZA.out]) (alloc_cells w8 za) (posC_ones za) H63.out HBY.out (Nat.le_trans (Nat.le_trans GE.out.1 (Nat.le_of_lt HG3.out.lt.1)) (le_alloc w8 _)) ?_; rintro s1 w9 hO hGr -)
              | fail)
            have HWA := Lib.hid (HW3.out.grow (ball (bref w8) (.cells (posC za).toArray 28)))
            have HGA := Lib.hid (HG3.out.grow (ball (bref w8) (.cells (posC za).toArray 28)))
            have HBA := Lib.hid (bthen HB3.out (ball (bref w8) (.cells (posC za).toArray 28)))
            have HG5 := Lib.hid (HGA.out.grown HWA.out hGr)
            have HB5 := Lib.hid (HWA.out.below HBA.out hGr (Nat.le_succ _) (Nat.le_trans (Nat.le_trans (Nat.le_succ _) (Nat.le_trans GE.out.1 (Nat.le_of_lt HG3.out.lt.1))) (le_alloc w8 _)))
            have HW5 := Lib.hid (was_snoc (z := za) (m := m) hO)
            clear hO hGr
            go_roundw
            case rel => exact ⟨k + 1, by omega, by go_num, H0 ++ [(z0, m)], za, v1, HG5.out, HW5.out, by (rw [List.length_append]; have := HL.out; simp; omega), HB5.out⟩
            case measure => simp [intOf]; omega

        · skip
          have W1 := Lib.hid (fresh_mv wr m)
          have hBa := below_row (ball (bref wr) (.cells #[.int .i64 0, .int .i64 0, .int .i64 0, .bool false] 64)) (Nat.le_refl _) m.cells.toArray
          have HG1 := Lib.hid (HG.out.grow hBa)
          have HW1 := Lib.hid (HW.out.grow hBa)
          have HB1 := Lib.hid (bthen HB.out hBa)
          have HI4 := Lib.hid (show (Tryd.prog.info? 64).map (·.size) = some m.cells.length from infoMv)
          have hol := HO.out.len
          have ho8 := HO.out.i8
          have FU := Lib.hid (fun W => full_any z0 hol ho8 W)
          have HIZ := Lib.hid (show (Tryd.prog.info? 28).map (·.size) = some (posC z0).length by rw [posC_len, hol]; exact infoPos)
          have HOL := Lib.hid hol
          clear hBa hol ho8
          go_upto_region 11 with (first
            | (refine wpList_load_mid rfl 64 _ rfl bm (om + k * 4) rfl m.cells _ HR.out Tryd.underlying64 rfl HI4.out ?_)
            | (refine wpList_store_row rfl 64 _ _ rfl wr.heap.size m.cells.toArray rfl rfl 64 #[.int .i64 0, .int .i64 0, .int .i64 0, .bool false] (heap_alloc_new wr _) (by rw [List.size_toArray]; exact HI4.out) rfl (mv_one m) ?_)
            | fail)
          generalize ham : wr.heap.size = am at *
          generalize (wr.alloc (.cells #[.int .i64 0, .int .i64 0, .int .i64 0, .bool false] 64)).setRow am m.cells.toArray = w1 at *
          clear ham
          obtain ⟨g0, g1, g2⟩ := HG1.out.gk.1.cells
          rw [decide_eq_false hfu, Bool.not_false] at FU
          clear hfu
          go_wp2_with (first
            | (refine wpList_load_mid rfl 28 _ rfl b 0 rfl (posC z0) _ (posRangeB HG1.out.gk.2.1 HOL.out) Tryd.underlying28 rfl HIZ.out ?_)
            | (go_at_call 32; refine (FU.out _).mono ?_; rintro e w7 ⟨rfl, hb⟩; have HG2 := Lib.hid (HG1.out.grow hb); have HW2 := Lib.hid (HW1.out.grow hb); have HB2 := Lib.hid (bthen HB1.out hb); have W2 := Lib.hid ((hb.block _ (lt_of_row' W1.out)).trans W1.out); clear hb g0 g1 g2; obtain ⟨m0, m1, m2, m3⟩ := mv_cells' W2.out; obtain ⟨g0, g1, g2⟩ := HG2.out.gk.1.cells)
            | fail)
          go_meet
          exact ⟨H0, z0, v0, HG2.out, HW2.out, by (have := HL.out; omega), HB2.out⟩

      · obtain rfl : k = M.length := by omega
        go_wp2_with fail
        go_meet
        exact ⟨H0, z0, v0, HG.out, HW.out, HL.out, HB.out⟩
  case rest =>
    obtain ⟨H, zz, vv, hI, hW, hL, hB⟩ := hcut
    obtain ⟨js, capS, hs⟩ := was_slice hW
    subst hs
    have hNL : H.length ≤ 60 := Nat.le_trans hL HLN.out
    have hNZ : (H.map Prod.fst ++ [zz]).length = H.length + 1 := by rw [List.length_append, List.length_map]; rfl
    generalize hHN : H.length = N at *
    have hw : IntKind.i64.wrap (((N + 1 : Nat) : Int) - 1) = N := by rw [IntKind.wrap_i64]; omega
    have HN0 := Lib.hid hHN
    have HNZ := Lib.hid hNZ
    have HNL := Lib.hid hNL
    have HI := Lib.hid hI
    have HW := Lib.hid hW
    have HB := Lib.hid hB
    clear hI hW hB hL hNL hNZ hHN
    generalize hZs : H.map Prod.fst ++ [zz] = Zs at *
    have HZS := Lib.hid hZs
    clear hZs
    go_wp2_with fail
    go_loopw [9] (fun i wr => (i = .int .i64 (-1) ∧ Below w.heap.size w wr) ∨ ∃ A z v R, i = .int .i64 (A.length : Int) ∧ HInv wr (w.heap.size + 1) g b zc A z v ∧ Zs = A.map Prod.fst ++ z :: R ∧ WasAt wr (w.heap.size + 1) (.slice (some ⟨js, 0, none⟩) (N + 1) capS) Zs ∧ Below w.heap.size w wr) (fun i _ => (intOf i + 1).toNat)
    case atStart => exact .inr ⟨H, zz, vv, [], by (rw [HN0.out]; have := HNL.out; congr 1; unfold wrap64; omega), HI.out, HZS.out.symm, HW.out, HB.out⟩
    case round =>
      clear hw
      rcases hrel with ⟨rfl, hB⟩ | ⟨A, z1, v1, R1, rfl, hI, hZ, hW, hB⟩
      · have HB := Lib.hid hB
        clear hB
        go_wp2_with fail
        go_ret
        exact ⟨rfl, HB.out⟩
      · have hAl : A.length + 1 + R1.length = N + 1 := by
          have := HNZ.out
          rw [hZ, List.length_append, List.length_map, List.length_cons] at this
          omega
        have hlens := hist_lens HPO.out.len hI.hist
        have hz1 := hlens.2
        have HAL := Lib.hid hlens.1
        have hok := hist_ok HPO.out hI.hist (by (have := HNL.out; omega))
        have h81 := hok.i8
        have hc1 := hok.clean
        have HZ1 := Lib.hid hz1
        have HI1 := Lib.hid (show (Tryd.prog.info? 28).map (·.size) = some (posC z1).length by rw [posC_len, hz1]; exact infoPos)
        have HG := Lib.hid hI
        have HB := Lib.hid hB
        have HZ := Lib.hid hZ
        rw [hZ] at hW
        have HW := Lib.hid hW
        have LE := Lib.hid (fun W (h : HInv W (w.heap.size + 1) g b zc A z1 v1) => hlen (w.heap.size + 1) g b zc z1 A v1 W h)
        have TA := Lib.hid (fun (q : Nat) W (h : Brd W q z1) => taken_brd q z1 hz1 W h)
        have PI := Lib.hid (fun (q : Nat) W (h : Brd W q z1) => pieces_brd q z1 0 hz1 W h)
        have KI := Lib.hid (fun (q : Nat) W (h : Brd W q z1) (hT : Tab W) => king_brd q z1 1 hz1 W h hT)
        have KE := Lib.hid (fun W (h : Gk W g b z1 v1) => keyG_any g b z1 v1 W h)
        have KO := Lib.hid (fun W => keyOf_any z1 hz1 h81 W)
        have NB := Lib.hid (fun W => new_brd z1 hz1 h81 W)
        rw [newZ_self z1 hz1 hc1] at NB
        have EQ := pos_eq z1 hz1
        clear hz1 h81 hc1 hok hlens hZ hB hW
        have HRg := Lib.hid (HW.out.range HAL.out HZ1.out)
        rw [List.length_map] at HRg
        have HBK : A.length = 0 ∨ ∃ A' z' m', A = A' ++ [(z', m')] := by
          rcases A.eq_nil_or_concat with h | ⟨A', ⟨z', m'⟩, h⟩
          · exact .inl (by rw [h]; rfl)
          · exact .inr ⟨A', z', m', by rw [h, List.concat_eq_append]⟩
        have HBK := Lib.hid HBK
        clear hI
        generalize hAn : A.length = n at *
        have HAN := Lib.hid hAn
        clear hAn
        have hn1 : n ≤ N := by omega
        clear hAl
        generalize ofK z1 = K at KE KO
        generalize loW (takenN z1) = tl at TA
        generalize hiW (takenN z1) = th at TA
        generalize loW (if (0 : Int) = 0 ∨ (0 : Int) = 1 then sideN z1 0 else 0) = pl at PI
        generalize hiW (if (0 : Int) = 0 ∨ (0 : Int) = 1 then sideN z1 0 else 0) = ph at PI
        generalize kingF z1 1 = kg at KI
        have bn : ((K : Int) != (K : Int)) = false := by simp
        have bk : (kg != kg) = false := by simp
        have bl : ((n : Int) != (n : Int)) = false := by simp
        have h0 : (0 : Int) ≤ (n : Int) := by omega
        have hbd : 0 ≤ (n : Int) ∧ (n : Int) < ((N + 1 : Nat) : Int) := by omega
        go_upto_region 19 with (first
          | (refine wpList_load_mid rfl 28 _ rfl js (n * 98) rfl (posC z1) _ HRg.out Tryd.underlying28 rfl HI1.out ?_)
          | (go_at_call 16; refine (NB.out _).mono ?_; rintro e wb ⟨nb, rfl, hnb, hbrd, hb⟩; have HG2 := Lib.hid (HG.out.grow hb); have HW2 := Lib.hid (HW.out.grow hb); have HB2 := Lib.hid (bthen HB.out hb); have HNB := Lib.hid hbrd; clear hnb hbrd hb)
          | fail)
        have HTB := Lib.hid (HT.out.grow HB2.out)
        have HRN := Lib.hid (fun W (h : Below wb.heap.size wb W) => (HW2.out.grow h).range HAL.out HZ1.out)
        rw [List.length_map, HAN.out] at HRN
        refine wp_region_held_drew (S := fun W => Below wb.heap.size wb W) (by kernel_rfl) ?_ (fun hHeld => ?_)
        · exact (bref wb).drew
        refine wpAnyH_take (i := 0) (v := ?v1) rfl (by kernel_rfl) (by kernel_rfl) (by kernel_rfl) (fun _ _ _ h => h) (Or.inl ⟨by rfl, ?y1⟩) (by assumption) ?r1
        case y1 => (intro w hSw; (go_simp <;> first | with_reducible rfl | (rw [if_pos (by omega)] <;> with_reducible rfl)))
        try simp only [Act.put, List.getElem_toArray, List.getElem_cons_zero, List.getElem_cons_succ, List.setIfInBounds_toArray, List.set_cons_zero, List.set_cons_succ]
        refine wpAnyH_take (i := 1) (v := ?v2) rfl (by kernel_rfl) (by kernel_rfl) (by kernel_rfl) (fun _ _ _ h => h) (Or.inl ⟨by rfl, ?y2⟩) (by assumption) ?r2
        case y2 => (intro w hSw; (go_simp <;> first | with_reducible rfl | (rw [if_pos (by omega)] <;> with_reducible rfl)))
        try simp only [Act.put, List.getElem_toArray, List.getElem_cons_zero, List.getElem_cons_succ, List.setIfInBounds_toArray, List.set_cons_zero, List.set_cons_succ]
        refine wpAnyH_take (i := 2) (v := ?v3) rfl (by kernel_rfl) (by kernel_rfl) (by kernel_rfl) (fun _ _ _ h => h) (Or.inl ⟨by rfl, ?y3⟩) (by assumption) ?r3
        case y3 => (intro w hSw; (go_simp <;> first | with_reducible rfl | (rw [if_pos (by omega)] <;> with_reducible rfl)))
        try simp only [Act.put, List.getElem_toArray, List.getElem_cons_zero, List.getElem_cons_succ, List.setIfInBounds_toArray, List.set_cons_zero, List.set_cons_succ]
        refine wpAnyH_take (i := 3) (v := ?v4) rfl (by kernel_rfl) (by kernel_rfl) (by kernel_rfl) (fun _ _ _ h => h) (Or.inl ⟨by rfl, ?y4⟩) (by assumption) ?r4
        case y4 => (intro w hSw; obtain ⟨g0, g1, g2⟩ := (HG2.out.gk.grow hSw).1.cells; (go_simp <;> first | with_reducible rfl | (rw [if_pos (by omega)] <;> with_reducible rfl)))
        try simp only [Act.put, List.getElem_toArray, List.getElem_cons_zero, List.getElem_cons_succ, List.setIfInBounds_toArray, List.set_cons_zero, List.set_cons_succ]
        refine wpAnyH_take (i := 4) (v := ?v5) rfl (by kernel_rfl) (by kernel_rfl) (by kernel_rfl) (fun _ _ _ h => h) (Or.inl ⟨by rfl, ?y5⟩) (by assumption) ?r5
        case y5 => (intro w hSw; (go_simp <;> first | with_reducible rfl | (rw [if_pos (by omega)] <;> with_reducible rfl)))
        try simp only [Act.put, List.getElem_toArray, List.getElem_cons_zero, List.getElem_cons_succ, List.setIfInBounds_toArray, List.set_cons_zero, List.set_cons_succ]
        refine wpAnyH_take (i := 5) (v := ?v6) rfl (by kernel_rfl) (by kernel_rfl) (by kernel_rfl) (fun _ _ _ h => h) (Or.inl ⟨by rfl, ?y6⟩) (by assumption) ?r6
        case y6 => (intro w hSw; (go_simp <;> first | with_reducible rfl | (rw [if_pos (by omega)] <;> with_reducible rfl)))
        try simp only [Act.put, List.getElem_toArray, List.getElem_cons_zero, List.getElem_cons_succ, List.setIfInBounds_toArray, List.set_cons_zero, List.set_cons_succ]
        refine wpAnyH_take (i := 6) rfl (by kernel_rfl) (by kernel_rfl) (by kernel_rfl) (fun _ _ _ h => h) (yieldsIf_load_mid (by rfl) _ _ rfl _ _ rfl (posC z1) _ (fun w h => posRangeB (HG2.out.gk.grow h).2.1 HZ1.out) (Tryd.underlying28) rfl (HI1.out)) (by assumption) ?_
        try simp only [Act.put, List.getElem_toArray, List.getElem_cons_zero, List.getElem_cons_succ, List.setIfInBounds_toArray, List.set_cons_zero, List.set_cons_succ]
        refine wpAnyH_take (i := 7) (v := ?v7) rfl (by kernel_rfl) (by kernel_rfl) (by kernel_rfl) (fun _ _ _ h => h) (Or.inl ⟨by rfl, ?y7⟩) (by assumption) ?r7
        case y7 => (intro w hSw; (go_simp <;> first | with_reducible rfl | (rw [if_pos (by omega)] <;> with_reducible rfl)))
        try simp only [Act.put, List.getElem_toArray, List.getElem_cons_zero, List.getElem_cons_succ, List.setIfInBounds_toArray, List.set_cons_zero, List.set_cons_succ]
        refine wpAnyH_take (i := 8) (v := ?v8) rfl (by kernel_rfl) (by kernel_rfl) (by kernel_rfl) (fun _ _ _ h => h) (Or.inl ⟨by rfl, ?y8⟩) (by assumption) ?r8
        case y8 => (intro w hSw; (go_simp <;> first | with_reducible rfl | (rw [if_pos (by omega)] <;> with_reducible rfl)))
        try simp only [Act.put, List.getElem_toArray, List.getElem_cons_zero, List.getElem_cons_succ, List.setIfInBounds_toArray, List.set_cons_zero, List.set_cons_succ]
        refine wpAnyH_take (i := 9) (v := ?v9) rfl (by kernel_rfl) (by kernel_rfl) (by kernel_rfl) (fun _ _ _ h => h) (Or.inl ⟨by rfl, ?y9⟩) (by assumption) ?r9
        case y9 => (intro w hSw; (go_simp <;> first | with_reducible rfl | (rw [if_pos (by omega)] <;> with_reducible rfl)))
        try simp only [Act.put, List.getElem_toArray, List.getElem_cons_zero, List.getElem_cons_succ, List.setIfInBounds_toArray, List.set_cons_zero, List.set_cons_succ]
        refine wpAnyH_take (i := 10) rfl (by kernel_rfl) (by kernel_rfl) (by kernel_rfl) (fun _ _ _ h => h) (yieldsIf_load_mid (by rfl) _ _ rfl _ _ rfl (posC z1) _ (fun w h => HRN.out _ h) (Tryd.underlying28) rfl (HI1.out)) (by assumption) ?_
        try simp only [Act.put, List.getElem_toArray, List.getElem_cons_zero, List.getElem_cons_succ, List.setIfInBounds_toArray, List.set_cons_zero, List.set_cons_succ]
        refine wpAnyH_take (i := 11) (v := ?v10) rfl (by kernel_rfl) (by kernel_rfl) (by kernel_rfl) (fun _ _ _ h => h) (Or.inl ⟨by rfl, ?y10⟩) (by assumption) ?r10
        case y10 => (intro w hSw; (go_simp <;> first | with_reducible rfl | (rw [if_pos (by omega)] <;> with_reducible rfl)))
        try simp only [Act.put, List.getElem_toArray, List.getElem_cons_zero, List.getElem_cons_succ, List.setIfInBounds_toArray, List.set_cons_zero, List.set_cons_succ]
        refine wpAnyH_take (i := 12) (v := ?v11) rfl (by kernel_rfl) (by kernel_rfl) (by kernel_rfl) (fun _ _ _ h => h) (Or.inl ⟨by rfl, ?y11⟩) (by assumption) ?r11
        case y11 => (intro w hSw; (go_simp <;> first | with_reducible rfl | (rw [if_pos (by omega)] <;> with_reducible rfl)))
        try simp only [Act.put, List.getElem_toArray, List.getElem_cons_zero, List.getElem_cons_succ, List.setIfInBounds_toArray, List.set_cons_zero, List.set_cons_succ]
        refine wpAnyH_take (i := 13) (v := ?v12) rfl (by kernel_rfl) (by kernel_rfl) (by kernel_rfl) (fun _ _ _ h => h) (Or.inl ⟨by rfl, ?y12⟩) (by assumption) ?r12
        case y12 => (intro w hSw; (go_simp <;> first | with_reducible rfl | (rw [if_pos (by omega)] <;> with_reducible rfl)))
        try simp only [Act.put, List.getElem_toArray, List.getElem_cons_zero, List.getElem_cons_succ, List.setIfInBounds_toArray, List.set_cons_zero, List.set_cons_succ]
        refine wpAnyH_take (i := 15) (v := ?v13) rfl (by kernel_rfl) (by kernel_rfl) (by kernel_rfl) (fun _ _ _ h => h) (Or.inl ⟨by rfl, ?y13⟩) (by assumption) ?r13
        case y13 => (intro w hSw; (go_simp <;> first | with_reducible rfl | (rw [if_pos (by omega)] <;> with_reducible rfl)))
        try simp only [Act.put, List.getElem_toArray, List.getElem_cons_zero, List.getElem_cons_succ, List.setIfInBounds_toArray, List.set_cons_zero, List.set_cons_succ]
        refine wpAnyH_ready (rs := [14]) (by kernel_rfl) (by simp) ?_
        refine AllReadyH.cons rfl (fun K hK => ?_) AllReadyH.nil
        rw [if_pos (by rfl)]
        go_simp
        go_at_call 34
        refine (LE.out _ (HG2.out.grow hHeld)).mono ?_
        rintro e wn ⟨rfl, rfl⟩
        refine hK.out _ _ (hHeld) (fun hHeld => ?_)
        clear hK K
        try simp only [Act.put, List.getElem_toArray, List.getElem_cons_zero, List.getElem_cons_succ, List.setIfInBounds_toArray, List.set_cons_zero, List.set_cons_succ]
        refine wpAnyH_take (i := 16) (v := ?v14) rfl (by kernel_rfl) (by kernel_rfl) (by kernel_rfl) (fun _ _ _ h => h) (Or.inl ⟨by rfl, ?y14⟩) (by assumption) ?r14
        case y14 => (intro w hSw; (go_simp <;> first | with_reducible rfl | (rw [if_pos (by omega)] <;> with_reducible rfl)))
        try simp only [Act.put, List.getElem_toArray, List.getElem_cons_zero, List.getElem_cons_succ, List.setIfInBounds_toArray, List.set_cons_zero, List.set_cons_succ]
        refine wpAnyH_take (i := 17) (v := ?v15) rfl (by kernel_rfl) (by kernel_rfl) (by kernel_rfl) (fun _ _ _ h => h) (Or.inl ⟨by rfl, ?y15⟩) (by assumption) ?r15
        case y15 => (intro w hSw; (go_simp <;> first | with_reducible rfl | (rw [if_pos (by omega)] <;> with_reducible rfl)))
        try simp only [Act.put, List.getElem_toArray, List.getElem_cons_zero, List.getElem_cons_succ, List.setIfInBounds_toArray, List.set_cons_zero, List.set_cons_succ]
        refine wpAnyH_take (i := 18) (v := ?v16) rfl (by kernel_rfl) (by kernel_rfl) (by kernel_rfl) (fun _ _ _ h => h) (Or.inl ⟨by rfl, ?y16⟩) (by assumption) ?r16
        case y16 => (intro w hSw; (go_simp <;> first | with_reducible rfl | (rw [if_pos (by omega)] <;> with_reducible rfl)))
        try simp only [Act.put, List.getElem_toArray, List.getElem_cons_zero, List.getElem_cons_succ, List.setIfInBounds_toArray, List.set_cons_zero, List.set_cons_succ]
        refine wpAnyH_take (i := 19) (v := ?v17) rfl (by kernel_rfl) (by kernel_rfl) (by kernel_rfl) (fun _ _ _ h => h) (Or.inl ⟨by rfl, ?y17⟩) (by assumption) ?r17
        case y17 => (intro w hSw; (go_simp <;> first | with_reducible rfl | (rw [if_pos (by omega)] <;> with_reducible rfl)))
        try simp only [Act.put, List.getElem_toArray, List.getElem_cons_zero, List.getElem_cons_succ, List.setIfInBounds_toArray, List.set_cons_zero, List.set_cons_succ]
        refine wpAnyH_take (i := 20) (v := ?v18) rfl (by kernel_rfl) (by kernel_rfl) (by kernel_rfl) (fun _ _ _ h => h) (Or.inl ⟨by rfl, ?y18⟩) (by assumption) ?r18
        case y18 => (intro w hSw; (go_simp <;> first | with_reducible rfl | (rw [if_pos (by omega)] <;> with_reducible rfl)))
        try simp only [Act.put, List.getElem_toArray, List.getElem_cons_zero, List.getElem_cons_succ, List.setIfInBounds_toArray, List.set_cons_zero, List.set_cons_succ]
        refine wpAnyH_take (i := 21) (v := ?v19) rfl (by kernel_rfl) (by kernel_rfl) (by kernel_rfl) (fun _ _ _ h => h) (Or.inl ⟨by rfl, ?y19⟩) (by assumption) ?r19
        case y19 => (intro w hSw; (go_simp <;> first | with_reducible rfl | (rw [if_pos (by omega)] <;> with_reducible rfl)))
        try simp only [Act.put, List.getElem_toArray, List.getElem_cons_zero, List.getElem_cons_succ, List.setIfInBounds_toArray, List.set_cons_zero, List.set_cons_succ]
        refine wpAnyH_take (i := 22) (v := ?v20) rfl (by kernel_rfl) (by kernel_rfl) (by kernel_rfl) (fun _ _ _ h => h) (Or.inl ⟨by rfl, ?y20⟩) (by assumption) ?r20
        case y20 => (intro w hSw; obtain ⟨g0, g1, g2⟩ := (HG2.out.gk.grow hSw).1.cells; (go_simp <;> first | with_reducible rfl | (rw [if_pos (by omega)] <;> with_reducible rfl)))
        try simp only [Act.put, List.getElem_toArray, List.getElem_cons_zero, List.getElem_cons_succ, List.setIfInBounds_toArray, List.set_cons_zero, List.set_cons_succ]
        refine wpAnyH_take (i := 24) (v := ?v21) rfl (by kernel_rfl) (by kernel_rfl) (by kernel_rfl) (fun _ _ _ h => h) (Or.inl ⟨by rfl, ?y21⟩) (by assumption) ?r21
        case y21 => (intro w hSw; (go_simp <;> first | with_reducible rfl | (rw [if_pos (by omega)] <;> with_reducible rfl)))
        try simp only [Act.put, List.getElem_toArray, List.getElem_cons_zero, List.getElem_cons_succ, List.setIfInBounds_toArray, List.set_cons_zero, List.set_cons_succ]
        refine wpAnyH_ready (rs := [23]) (by kernel_rfl) (by simp) ?_
        refine AllReadyH.cons rfl (fun K hK => ?_) AllReadyH.nil
        rw [if_pos (by rfl)]
        go_simp
        go_at_call 27
        refine (TA.out _ _ (HG2.out.grow hHeld).gk.2.1).mono ?_
        rintro e wn ⟨rfl, hb⟩
        refine hK.out _ _ (bthen hHeld hb) (fun hHeld => ?_)
        clear hK K
        try simp only [Act.put, List.getElem_toArray, List.getElem_cons_zero, List.getElem_cons_succ, List.setIfInBounds_toArray, List.set_cons_zero, List.set_cons_succ]
        refine wpAnyH_ready (rs := [25]) (by kernel_rfl) (by simp) ?_
        refine AllReadyH.cons rfl (fun K hK => ?_) AllReadyH.nil
        rw [if_pos (by rfl)]
        go_simp
        go_at_call 27
        refine (TA.out _ _ (HNB.out.grow hHeld)).mono ?_
        rintro e wn ⟨rfl, hb⟩
        refine hK.out _ _ (bthen hHeld hb) (fun hHeld => ?_)
        clear hK K
        try simp only [Act.put, List.getElem_toArray, List.getElem_cons_zero, List.getElem_cons_succ, List.setIfInBounds_toArray, List.set_cons_zero, List.set_cons_succ]
        refine wpAnyH_take (i := 26) (v := ?v22) rfl (by kernel_rfl) (by kernel_rfl) (by kernel_rfl) (fun _ _ _ h => h) (Or.inl ⟨by rfl, ?y22⟩) (by assumption) ?r22
        case y22 => (intro w hSw; (go_simp <;> first | with_reducible rfl | (rw [if_pos (by omega)] <;> with_reducible rfl)))
        try simp only [Act.put, List.getElem_toArray, List.getElem_cons_zero, List.getElem_cons_succ, List.setIfInBounds_toArray, List.set_cons_zero, List.set_cons_succ]
        refine wpAnyH_take (i := 27) (v := ?v23) rfl (by kernel_rfl) (by kernel_rfl) (by kernel_rfl) (fun _ _ _ h => h) (Or.inl ⟨by rfl, ?y23⟩) (by assumption) ?r23
        case y23 => (intro w hSw; (go_simp <;> first | with_reducible rfl | (rw [if_pos (by omega)] <;> with_reducible rfl)))
        try simp only [Act.put, List.getElem_toArray, List.getElem_cons_zero, List.getElem_cons_succ, List.setIfInBounds_toArray, List.set_cons_zero, List.set_cons_succ]
        refine wpAnyH_take (i := 28) (v := ?v24) rfl (by kernel_rfl) (by kernel_rfl) (by kernel_rfl) (fun _ _ _ h => h) (Or.inl ⟨by rfl, ?y24⟩) (by assumption) ?r24
        case y24 => (intro w hSw; (go_simp <;> first | with_reducible rfl | (rw [if_pos (by omega)] <;> with_reducible rfl)))
        try simp only [Act.put, List.getElem_toArray, List.getElem_cons_zero, List.getElem_cons_succ, List.setIfInBounds_toArray, List.set_cons_zero, List.set_cons_succ]
        refine wpAnyH_take (i := 29) (v := ?v25) rfl (by kernel_rfl) (by kernel_rfl) (by kernel_rfl) (fun _ _ _ h => h) (Or.inl ⟨by rfl, ?y25⟩) (by assumption) ?r25
        case y25 => (intro w hSw; (go_simp <;> first | with_reducible rfl | (rw [if_pos (by omega)] <;> with_reducible rfl)))
        try simp only [Act.put, List.getElem_toArray, List.getElem_cons_zero, List.getElem_cons_succ, List.setIfInBounds_toArray, List.set_cons_zero, List.set_cons_succ]
        refine wpAnyH_take (i := 30) (v := ?v26) rfl (by kernel_rfl) (by kernel_rfl) (by kernel_rfl) (fun _ _ _ h => h) (Or.inl ⟨by rfl, ?y26⟩) (by assumption) ?r26
        case y26 => (intro w hSw; (go_simp <;> first | with_reducible rfl | (rw [if_pos (by omega)] <;> with_reducible rfl)))
        try simp only [Act.put, List.getElem_toArray, List.getElem_cons_zero, List.getElem_cons_succ, List.setIfInBounds_toArray, List.set_cons_zero, List.set_cons_succ]
        refine wpAnyH_take (i := 31) (v := ?v27) rfl (by kernel_rfl) (by kernel_rfl) (by kernel_rfl) (fun _ _ _ h => h) (Or.inl ⟨by rfl, ?y27⟩) (by assumption) ?r27
        case y27 => (intro w hSw; (go_simp <;> first | with_reducible rfl | (rw [if_pos (by omega)] <;> with_reducible rfl)))
        try simp only [Act.put, List.getElem_toArray, List.getElem_cons_zero, List.getElem_cons_succ, List.setIfInBounds_toArray, List.set_cons_zero, List.set_cons_succ]
        refine wpAnyH_take (i := 32) (v := ?v28) rfl (by kernel_rfl) (by kernel_rfl) (by kernel_rfl) (fun _ _ _ h => h) (Or.inl ⟨by rfl, ?y28⟩) (by assumption) ?r28
        case y28 => (intro w hSw; obtain ⟨g0, g1, g2⟩ := (HG2.out.gk.grow hSw).1.cells; (go_simp <;> first | with_reducible rfl | (rw [if_pos (by omega)] <;> with_reducible rfl)))
        try simp only [Act.put, List.getElem_toArray, List.getElem_cons_zero, List.getElem_cons_succ, List.setIfInBounds_toArray, List.set_cons_zero, List.set_cons_succ]
        refine wpAnyH_take (i := 34) (v := ?v29) rfl (by kernel_rfl) (by kernel_rfl) (by kernel_rfl) (fun _ _ _ h => h) (Or.inl ⟨by rfl, ?y29⟩) (by assumption) ?r29
        case y29 => (intro w hSw; (go_simp <;> first | with_reducible rfl | (rw [if_pos (by omega)] <;> with_reducible rfl)))
        try simp only [Act.put, List.getElem_toArray, List.getElem_cons_zero, List.getElem_cons_succ, List.setIfInBounds_toArray, List.set_cons_zero, List.set_cons_succ]
        refine wpAnyH_ready (rs := [33]) (by kernel_rfl) (by simp) ?_
        refine AllReadyH.cons rfl (fun K hK => ?_) AllReadyH.nil
        rw [if_pos (by rfl)]
        go_simp
        go_at_call 26
        refine (PI.out _ _ (HG2.out.grow hHeld).gk.2.1).mono ?_
        rintro e wn ⟨rfl, hb⟩
        refine hK.out _ _ (bthen hHeld hb) (fun hHeld => ?_)
        clear hK K
        try simp only [Act.put, List.getElem_toArray, List.getElem_cons_zero, List.getElem_cons_succ, List.setIfInBounds_toArray, List.set_cons_zero, List.set_cons_succ]
        refine wpAnyH_ready (rs := [35]) (by kernel_rfl) (by simp) ?_
        refine AllReadyH.cons rfl (fun K hK => ?_) AllReadyH.nil
        rw [if_pos (by rfl)]
        go_simp
        go_at_call 26
        refine (PI.out _ _ (HNB.out.grow hHeld)).mono ?_
        rintro e wn ⟨rfl, hb⟩
        refine hK.out _ _ (bthen hHeld hb) (fun hHeld => ?_)
        clear hK K
        try simp only [Act.put, List.getElem_toArray, List.getElem_cons_zero, List.getElem_cons_succ, List.setIfInBounds_toArray, List.set_cons_zero, List.set_cons_succ]
        refine wpAnyH_take (i := 36) (v := ?v30) rfl (by kernel_rfl) (by kernel_rfl) (by kernel_rfl) (fun _ _ _ h => h) (Or.inl ⟨by rfl, ?y30⟩) (by assumption) ?r30
        case y30 => (intro w hSw; (go_simp <;> first | with_reducible rfl | (rw [if_pos (by omega)] <;> with_reducible rfl)))
        try simp only [Act.put, List.getElem_toArray, List.getElem_cons_zero, List.getElem_cons_succ, List.setIfInBounds_toArray, List.set_cons_zero, List.set_cons_succ]
        refine wpAnyH_take (i := 37) (v := ?v31) rfl (by kernel_rfl) (by kernel_rfl) (by kernel_rfl) (fun _ _ _ h => h) (Or.inl ⟨by rfl, ?y31⟩) (by assumption) ?r31
        case y31 => (intro w hSw; (go_simp <;> first | with_reducible rfl | (rw [if_pos (by omega)] <;> with_reducible rfl)))
        try simp only [Act.put, List.getElem_toArray, List.getElem_cons_zero, List.getElem_cons_succ, List.setIfInBounds_toArray, List.set_cons_zero, List.set_cons_succ]
        refine wpAnyH_take (i := 38) (v := ?v32) rfl (by kernel_rfl) (by kernel_rfl) (by kernel_rfl) (fun _ _ _ h => h) (Or.inl ⟨by rfl, ?y32⟩) (by assumption) ?r32
        case y32 => (intro w hSw; (go_simp <;> first | with_reducible rfl | (rw [if_pos (by omega)] <;> with_reducible rfl)))
        try simp only [Act.put, List.getElem_toArray, List.getElem_cons_zero, List.getElem_cons_succ, List.setIfInBounds_toArray, List.set_cons_zero, List.set_cons_succ]
        refine wpAnyH_take (i := 39) (v := ?v33) rfl (by kernel_rfl) (by kernel_rfl) (by kernel_rfl) (fun _ _ _ h => h) (Or.inl ⟨by rfl, ?y33⟩) (by assumption) ?r33
        case y33 => (intro w hSw; (go_simp <;> first | with_reducible rfl | (rw [if_pos (by omega)] <;> with_reducible rfl)))
        try simp only [Act.put, List.getElem_toArray, List.getElem_cons_zero, List.getElem_cons_succ, List.setIfInBounds_toArray, List.set_cons_zero, List.set_cons_succ]
        refine wpAnyH_take (i := 40) (v := ?v34) rfl (by kernel_rfl) (by kernel_rfl) (by kernel_rfl) (fun _ _ _ h => h) (Or.inl ⟨by rfl, ?y34⟩) (by assumption) ?r34
        case y34 => (intro w hSw; (go_simp <;> first | with_reducible rfl | (rw [if_pos (by omega)] <;> with_reducible rfl)))
        try simp only [Act.put, List.getElem_toArray, List.getElem_cons_zero, List.getElem_cons_succ, List.setIfInBounds_toArray, List.set_cons_zero, List.set_cons_succ]
        refine wpAnyH_take (i := 41) (v := ?v35) rfl (by kernel_rfl) (by kernel_rfl) (by kernel_rfl) (fun _ _ _ h => h) (Or.inl ⟨by rfl, ?y35⟩) (by assumption) ?r35
        case y35 => (intro w hSw; (go_simp <;> first | with_reducible rfl | (rw [if_pos (by omega)] <;> with_reducible rfl)))
        try simp only [Act.put, List.getElem_toArray, List.getElem_cons_zero, List.getElem_cons_succ, List.setIfInBounds_toArray, List.set_cons_zero, List.set_cons_succ]
        refine wpAnyH_take (i := 42) (v := ?v36) rfl (by kernel_rfl) (by kernel_rfl) (by kernel_rfl) (fun _ _ _ h => h) (Or.inl ⟨by rfl, ?y36⟩) (by assumption) ?r36
        case y36 => (intro w hSw; obtain ⟨g0, g1, g2⟩ := (HG2.out.gk.grow hSw).1.cells; (go_simp <;> first | with_reducible rfl | (rw [if_pos (by omega)] <;> with_reducible rfl)))
        try simp only [Act.put, List.getElem_toArray, List.getElem_cons_zero, List.getElem_cons_succ, List.setIfInBounds_toArray, List.set_cons_zero, List.set_cons_succ]
        refine wpAnyH_take (i := 44) (v := ?v37) rfl (by kernel_rfl) (by kernel_rfl) (by kernel_rfl) (fun _ _ _ h => h) (Or.inl ⟨by rfl, ?y37⟩) (by assumption) ?r37
        case y37 => (intro w hSw; (go_simp <;> first | with_reducible rfl | (rw [if_pos (by omega)] <;> with_reducible rfl)))
        try simp only [Act.put, List.getElem_toArray, List.getElem_cons_zero, List.getElem_cons_succ, List.setIfInBounds_toArray, List.set_cons_zero, List.set_cons_succ]
        refine wpAnyH_ready (rs := [43]) (by kernel_rfl) (by simp) ?_
        refine AllReadyH.cons rfl (fun K hK => ?_) AllReadyH.nil
        rw [if_pos (by rfl)]
        go_simp
        go_at_call 23
        refine (KI.out _ _ (HG2.out.grow hHeld).gk.2.1 (HTB.out.grow hHeld)).mono ?_
        rintro e wn ⟨rfl, hb⟩
        refine hK.out _ _ (bthen hHeld hb) (fun hHeld => ?_)
        clear hK K
        try simp only [Act.put, List.getElem_toArray, List.getElem_cons_zero, List.getElem_cons_succ, List.setIfInBounds_toArray, List.set_cons_zero, List.set_cons_succ]
        refine wpAnyH_ready (rs := [45]) (by kernel_rfl) (by simp) ?_
        refine AllReadyH.cons rfl (fun K hK => ?_) AllReadyH.nil
        rw [if_pos (by rfl)]
        go_simp
        go_at_call 23
        refine (KI.out _ _ (HNB.out.grow hHeld) (HTB.out.grow hHeld)).mono ?_
        rintro e wn ⟨rfl, hb⟩
        refine hK.out _ _ (bthen hHeld hb) (fun hHeld => ?_)
        clear hK K
        try simp only [Act.put, List.getElem_toArray, List.getElem_cons_zero, List.getElem_cons_succ, List.setIfInBounds_toArray, List.set_cons_zero, List.set_cons_succ]
        refine wpAnyH_take (i := 46) (v := ?v38) rfl (by kernel_rfl) (by kernel_rfl) (by kernel_rfl) (fun _ _ _ h => h) (Or.inl ⟨by rfl, ?y38⟩) (by assumption) ?r38
        case y38 => (intro w hSw; (go_simp <;> first | with_reducible rfl | (rw [if_pos (by omega)] <;> with_reducible rfl)))
        try simp only [Act.put, List.getElem_toArray, List.getElem_cons_zero, List.getElem_cons_succ, List.setIfInBounds_toArray, List.set_cons_zero, List.set_cons_succ]
        refine wpAnyH_take (i := 47) (v := ?v39) rfl (by kernel_rfl) (by kernel_rfl) (by kernel_rfl) (fun _ _ _ h => h) (Or.inl ⟨by rfl, ?y39⟩) (by assumption) ?r39
        case y39 => (intro w hSw; (go_simp <;> first | with_reducible rfl | (rw [if_pos (by omega)] <;> with_reducible rfl)))
        try simp only [Act.put, List.getElem_toArray, List.getElem_cons_zero, List.getElem_cons_succ, List.setIfInBounds_toArray, List.set_cons_zero, List.set_cons_succ]
        refine wpAnyH_take (i := 48) (v := ?v40) rfl (by kernel_rfl) (by kernel_rfl) (by kernel_rfl) (fun _ _ _ h => h) (Or.inl ⟨by rfl, ?y40⟩) (by assumption) ?r40
        case y40 => (intro w hSw; (go_simp <;> first | with_reducible rfl | (rw [if_pos (by omega)] <;> with_reducible rfl)))
        try simp only [Act.put, List.getElem_toArray, List.getElem_cons_zero, List.getElem_cons_succ, List.setIfInBounds_toArray, List.set_cons_zero, List.set_cons_succ]
        refine wpAnyH_take (i := 49) (v := ?v41) rfl (by kernel_rfl) (by kernel_rfl) (by kernel_rfl) (fun _ _ _ h => h) (Or.inl ⟨by rfl, ?y41⟩) (by assumption) ?r41
        case y41 => (intro w hSw; (go_simp <;> first | with_reducible rfl | (rw [if_pos (by omega)] <;> with_reducible rfl)))
        try simp only [Act.put, List.getElem_toArray, List.getElem_cons_zero, List.getElem_cons_succ, List.setIfInBounds_toArray, List.set_cons_zero, List.set_cons_succ]
        refine wpAnyH_take (i := 51) (v := ?v42) rfl (by kernel_rfl) (by kernel_rfl) (by kernel_rfl) (fun _ _ _ h => h) (Or.inl ⟨by rfl, ?y42⟩) (by assumption) ?r42
        case y42 => (intro w hSw; (go_simp <;> first | with_reducible rfl | (rw [if_pos (by omega)] <;> with_reducible rfl)))
        try simp only [Act.put, List.getElem_toArray, List.getElem_cons_zero, List.getElem_cons_succ, List.setIfInBounds_toArray, List.set_cons_zero, List.set_cons_succ]
        refine wpAnyH_take (i := 52) (v := ?v43) rfl (by kernel_rfl) (by kernel_rfl) (by kernel_rfl) (fun _ _ _ h => h) (Or.inl ⟨by rfl, ?y43⟩) (by assumption) ?r43
        case y43 => (intro w hSw; (go_simp <;> first | with_reducible rfl | (rw [if_pos (by omega)] <;> with_reducible rfl)))
        try simp only [Act.put, List.getElem_toArray, List.getElem_cons_zero, List.getElem_cons_succ, List.setIfInBounds_toArray, List.set_cons_zero, List.set_cons_succ]
        refine wpAnyH_take (i := 53) (v := ?v44) rfl (by kernel_rfl) (by kernel_rfl) (by kernel_rfl) (fun _ _ _ h => h) (Or.inl ⟨by rfl, ?y44⟩) (by assumption) ?r44
        case y44 => (intro w hSw; (go_simp <;> first | with_reducible rfl | (rw [if_pos (by omega)] <;> with_reducible rfl)))
        try simp only [Act.put, List.getElem_toArray, List.getElem_cons_zero, List.getElem_cons_succ, List.setIfInBounds_toArray, List.set_cons_zero, List.set_cons_succ]
        refine wpAnyH_take (i := 54) rfl (by kernel_rfl) (by kernel_rfl) (by kernel_rfl) (fun _ _ _ h => h) (yieldsIf_load_mid (by rfl) _ _ rfl _ _ rfl (posC z1) _ (fun w h => HRN.out _ h) (Tryd.underlying28) rfl (HI1.out)) (by assumption) ?_
        try simp only [Act.put, List.getElem_toArray, List.getElem_cons_zero, List.getElem_cons_succ, List.setIfInBounds_toArray, List.set_cons_zero, List.set_cons_succ]
        refine wpAnyH_ready (rs := [50]) (by kernel_rfl) (by simp) ?_
        refine AllReadyH.cons rfl (fun K hK => ?_) AllReadyH.nil
        rw [if_pos (by rfl)]
        go_simp
        go_at_call 35
        refine (KE.out _ (HG2.out.gk.grow hHeld)).mono ?_
        rintro e wn ⟨rfl, rfl⟩
        refine hK.out _ _ (hHeld) (fun hHeld => ?_)
        clear hK K
        try simp only [Act.put, List.getElem_toArray, List.getElem_cons_zero, List.getElem_cons_succ, List.setIfInBounds_toArray, List.set_cons_zero, List.set_cons_succ]
        refine wpAnyH_ready (rs := [55]) (by kernel_rfl) (by simp) ?_
        refine AllReadyH.cons rfl (fun K hK => ?_) AllReadyH.nil
        rw [if_pos (by rfl)]
        go_simp
        go_at_call 36
        refine (KO.out _).mono ?_
        rintro e wn ⟨rfl, hb⟩
        refine hK.out _ _ (bthen hHeld hb) (fun hHeld => ?_)
        clear hK K
        try simp only [Act.put, List.getElem_toArray, List.getElem_cons_zero, List.getElem_cons_succ, List.setIfInBounds_toArray, List.set_cons_zero, List.set_cons_succ]
        refine wpAnyH_take (i := 56) (v := ?v45) rfl (by kernel_rfl) (by kernel_rfl) (by kernel_rfl) (fun _ _ _ h => h) (Or.inl ⟨by rfl, ?y45⟩) (by assumption) ?r45
        case y45 => (intro w hSw; (go_simp <;> first | with_reducible rfl | (rw [if_pos (by omega)] <;> with_reducible rfl)))
        try simp only [Act.put, List.getElem_toArray, List.getElem_cons_zero, List.getElem_cons_succ, List.setIfInBounds_toArray, List.set_cons_zero, List.set_cons_succ]
        refine wpAnyH_take (i := 57) (v := ?v46) rfl (by kernel_rfl) (by kernel_rfl) (by kernel_rfl) (fun _ _ _ h => h) (Or.inl ⟨by rfl, ?y46⟩) (by assumption) ?r46
        case y46 => (intro w hSw; (go_simp <;> first | with_reducible rfl | (rw [if_pos (by omega)] <;> with_reducible rfl)))
        try simp only [Act.put, List.getElem_toArray, List.getElem_cons_zero, List.getElem_cons_succ, List.setIfInBounds_toArray, List.set_cons_zero, List.set_cons_succ]
        refine wpAnyH_done (by kernel_rfl) ?_ _
        have HG3 := Lib.hid (HG2.out.grow hHeld)
        have HW3 := Lib.hid (HW2.out.grow hHeld)
        have HB3 := Lib.hid (bthen HB2.out hHeld)
        clear hHeld bn bk bl h0 hbd
        rcases HBK.out with hn0 | ⟨A', z', m', hA'⟩
        · have hng : ¬ (0 : Int) < (n : Int) := by omega
          have hA0 : A = [] := List.eq_nil_of_length_eq_zero (by rw [HAN.out, hn0])
          have HG4 := HG3.out
          rw [hA0] at HG4
          have HG4 := Lib.hid HG4
          have BK := Lib.hid (fun W (h : HInv W (w.heap.size + 1) g b zc [] z1 v1) => hback_no (w.heap.size + 1) g b zc z1 v1 W h)
          clear hn0 hA0
          go_wp2_with (first
            | (go_at_call 37; refine (BK.out _ HG4.out).mono ?_; rintro e wd ⟨rfl, rfl⟩)
            | fail)
          go_roundw
          case rel => exact .inl ⟨by simp [IntKind.wrap_i64]; omega, HB3.out⟩
          case measure => (have := HNL.out; simp [intOf, IntKind.wrap_i64] <;> omega)
        · have hnp : (0 : Int) < (n : Int) := by (have := HAN.out; rw [hA', List.length_append] at this; simp at this; omega)
          have hnp2 : 0 < n := by omega
          have hnd1 : decide ((0 : Int) < (n : Int)) = true := decide_eq_true hnp
          have hnd2 : decide (0 < n) = true := decide_eq_true hnp2
          have hnd3 : (true != decide ((0 : Int) < (n : Int))) = false := by rw [hnd1]; rfl
          have hnl : A'.length + 1 = n := by (have := HAN.out; rw [hA', List.length_append] at this; simpa using this)
          have HG4 := HG3.out
          rw [hA'] at HG4
          have HG4 := Lib.hid HG4
          have BK := Lib.hid (fun W (h : HInv W (w.heap.size + 1) g b zc (A' ++ [(z', m')]) z1 v1) => hback_yes (w.heap.size + 1) g b 18 zc A' z1 z' m' v1 HPO.out (by (have := HNL.out; omega)) (by (have := HNL.out; omega)) W h)
          have HNl := Lib.hid hnl
          have HA' := Lib.hid hA'
          clear hnl hA'
          go_wp2_with (first
            | (go_at_call 37; refine (BK.out _ HG4.out).mono ?_; rintro e wd ⟨rfl, v', hG, hb⟩; have HG5 := Lib.hid hG; have HW5 := Lib.hid (HW3.out.but2 HG3.out hb); have HB5 := Lib.hid (HG3.out.below HB3.out (.of2 hb) (by (have := GE.out.1; omega)) (by (have := GE.out.2; omega)) (Nat.le_succ _) (by (have := HG3.out.lt.1; have := GE.out.1; omega))); clear hG hb)
            | fail)
          go_roundw
          case rel => exact .inr ⟨A', z', v', z1 :: R1, by (have := HNl.out; have := HNL.out; congr 1; unfold wrap64; omega), HG5.out, by rw [HZ.out, HA'.out, List.map_append, List.append_assoc]; rfl, by rw [HZ.out]; exact HW5.out, HB5.out⟩
          case measure => (have := HNl.out; have := HNL.out; simp only [intOf]; unfold wrap64; omega)

/-- THE WALK OF THE LAW. -/
theorem walk (z : List Int) (oa : Option Addr) (cap : Nat) (M : List Mv) (hz' : z.length = 98) (h8 : I8s z) (hml : M.length ≤ 9223372036854775807) (w : World) (hM : MvsAt w oa M) (hT : Tab w) (hH : Home w) :
    Calls Tryd.prog 4 #[.agg (posC z).toArray, .slice oa M.length cap] w fun e w' => e = .returned (.bool true) ∧ Below w.heap.size w w' := by
  by_cases hs : HandsIn (newZ z) 0 18 16
  · by_cases hln : M.length ≤ 60
    · exact walk_loop z oa cap M hz' h8 hml hs hln w hM hT hH
    · exact walk_long z oa cap M hz' h8 hml hs (by omega) w hM hT hH
  · exact walk_small z oa cap M hz' h8 hml hs w hM hT hH

end Go.Proofs.YtbopbekehccdmaaDoor.deedBack
