/-
  The walk of the law BoardHolds: for every position and all puts it returns true.
-/
import Derived.Test.YtbopbekehccdmaaDoorBHold1
import Derived.Deep.CutBlock
namespace Go.Proofs.YtbopbekehccdmaaDoor.boardHolds
open Go.RowKit
set_option linter.unusedVariables false
set_option linter.unusedSimpArgs false

set_option maxRecDepth 100000 in
set_option maxHeartbeats 4000000 in
theorem walk_long (z : List Int) (oa : Option Addr) (cap : Nat) (M : List (Int × Int)) (hz' : z.length = 98) (h8 : I8s z) (hml : M.length ≤ 9223372036854775807) (hln : 100 < M.length) (w : World) (hM : PutsAt w oa M) (hT : Tab w) (hH : Home w) :
    Calls Tryd.prog 3 #[.agg (posC z).toArray, .slice oa M.length cap] w fun e w' => e = .returned (.bool true) ∧ Below w.heap.size w w' := by
  have BE := Lib.hid (fun W (hT : Tab W) (hH : Home W) => begins_true W hT hH)
  have HT := Lib.hid hT
  have HH := Lib.hid hH
  have HM := Lib.hid hM
  have HP0 := Lib.hid (PosAt.new w z)
  have HB0 := Lib.hid (ball (bref w) (.cells (posC z).toArray 28))
  have bl : (100 : Int) < (M.length : Int) := by omega
  clear hT hH hM hz' h8
  go_enter Tryd.func3, Tryd.ntmps3
  go_wp2_with (first
    | (go_at_call 15; refine (BE.out _ (HT.out.grow HB0.out) (HH.out.grow HB0.out)).mono ?_; rintro e w1 ⟨rfl, hb⟩; have HP1 := Lib.hid (HP0.out.grow hb); have HB1 := Lib.hid (bthen HB0.out hb); clear hb)
    | fail)
  go_ret
  exact ⟨rfl, HB1.out⟩

theorem infoPut : (Tryd.prog.info? 36).map (·.size) = some 2 := by kernel_rfl
theorem var_of (W : World) (x y : Int) : Var (W.alloc (.cells #[.int .u64 x, .int .u64 y] 40)) W.heap.size x y := ⟨by simp, by go_simp, by go_simp, by go_simp, by go_simp⟩
theorem allN_one (zz : List Int) (s : Int) : allN zz s 1 = 0 := by simp [allN]
theorem put_one (m : Int × Int) : ((putC m).toArray).all (·.oneCell') = true := by simp [putC, Value.oneCell']
theorem fresh_put (W : World) (m : Int × Int) : ((W.alloc (.cells #[.int .i64 0, .int .i8 0] 36)).setRow W.heap.size (putC m).toArray).heap[W.heap.size]? = some (.cells #[.int .i64 m.1, .int .i8 m.2] 36) := setRow_heap _ _ _ _ _ _ (heap_alloc_new W _)
theorem put_cells {W : World} {a : Nat} {x y : Value} (h : W.heap[a]? = some (.cells #[x, y] 36)) : W.cell? ⟨a, 0, none⟩ = some x ∧ W.cell? ⟨a, 1, none⟩ = some y := by
  refine ⟨?_, ?_⟩ <;> simp [World.cell?, h]

set_option maxRecDepth 100000 in
set_option maxHeartbeats 16000000 in
theorem walk_loop (z : List Int) (oa : Option Addr) (cap : Nat) (M : List (Int × Int)) (hz' : z.length = 98) (h8 : I8s z) (hml : M.length ≤ 9223372036854775807) (hln : M.length ≤ 100) (w : World) (hM : PutsAt w oa M) (hT : Tab w) (hH : Home w) :
    Calls Tryd.prog 3 #[.agg (posC z).toArray, .slice oa M.length cap] w fun e w' => e = .returned (.bool true) ∧ Below w.heap.size w w' := by
  have BE := Lib.hid (fun W (hT : Tab W) (hH : Home W) => begins_true W hT hH)
  have HT := Lib.hid hT
  have HH := Lib.hid hH
  have HM := Lib.hid hM
  have HP0 := Lib.hid (PosAt.new w z)
  have HB0 := Lib.hid (ball (bref w) (.cells (posC z).toArray 28))
  have bl : ¬ (100 : Int) < (M.length : Int) := by omega
  have HZ := Lib.hid hz'
  have H8 := Lib.hid h8
  have HLN := Lib.hid hln
  have HINF := Lib.hid (show (Tryd.prog.info? 28).map (·.size) = some (posC z).length by rw [posC_len, hz']; exact infoPos)
  have NB := Lib.hid (fun W => new_brd z hz' h8 W)
  have HBR := Lib.hid (fun W (h : PosAt W w.heap.size z) => part_range h.range 0 81)
  have hbl : (((posC z).drop 0).take 81).length = 81 := by rw [List.length_take, List.length_drop, posC_len, hz']; rfl
  have hb1 : ∀ j, j < 81 → (((posC z).drop 0).take 81)[j]? = some (.int .i8 (at8 z j)) := fun j hj => drop_get (by rw [Nat.zero_add]; exact posC_get z j (by omega)) hj
  have HBL := Lib.hid hbl
  have HB81 := Lib.hid hb1
  clear hT hH hM hz' h8 hbl hb1
  generalize ((posC z).drop 0).take 81 = bs at *
  go_enter Tryd.func3, Tryd.ntmps3
  go_upto_region 6 with (first
    | (go_at_call 15; refine (BE.out _ (HT.out.grow HB0.out) (HH.out.grow HB0.out)).mono ?_; rintro e w1 ⟨rfl, hb⟩; have HP1 := Lib.hid (HP0.out.grow hb); have HB1 := Lib.hid (bthen HB0.out hb); clear hb)
    | (refine wpList_load_mid rfl 28 _ rfl w.heap.size 0 rfl (posC z) _ HP1.out.range Tryd.underlying28 rfl HINF.out ?_)
    | (go_at_call 16; refine (NB.out _).mono ?_; rintro e w2 ⟨b, rfl, hg, hbr, hb⟩; have HP2 := Lib.hid (HP1.out.grow hb); have HB2 := Lib.hid (bthen HB1.out hb); have HD := Lib.hid hbr; have GE := Lib.hid (show w.heap.size < b from Nat.lt_of_lt_of_le HP1.out.lt hg); clear hg hbr hb)
    | fail)
  go_upto_block 0 with (first
    | (refine wpList_load_mid rfl 24 _ rfl w.heap.size 0 rfl bs _ (HBR.out _ (HP2.out.grow (ball (bref w2) _))) Tryd.underlying24 rfl (by rw [HBL.out]; kernel_rfl) ?_)
    | fail)
  have hq := HD.out.lt
  have hA0 : ArrAt (w2.alloc (.cells Tryd.zeroCells33 33)) w2.heap.size (List.replicate 81 0) := by
    unfold ArrAt
    rw [zeroArr]
    exact heap_alloc_new w2 _
  have I0 := Lib.hid (show BInv w (w2.alloc (.cells Tryd.zeroCells33 33)) b w2.heap.size z (newZ z) (List.replicate 81 0) from
    ⟨HP2.out.grow (ball (bref w2) _), HD.out.grow (ball (bref w2) _), hA0, bthen HB2.out (ball (bref w2) _), GE.out, HP2.out.lt, by omega⟩)
  clear hq hA0 HP2 HB2 HD GE HP1 HB1 HP0 bl NB
  generalize w2.heap.size = q at *
  generalize w2.alloc (.cells Tryd.zeroCells33 33) = w3 at *
  have HZN := Lib.hid (newZ_len z HZ.out)
  go_cut [] (fun wx => ∃ l, BInv w wx b q z (newZ z) l ∧ Told l (newZ z))
  case first =>
    rename (∀ (a : Act) (w : World), Code.wp _ _ _ a w → _) => hbig
    clear hbig
    go_wp2_with fail
    go_loopw [7, 8, 27] (fun _ _ i wr => ∃ k : Nat, k ≤ 81 ∧ i = .int .i64 k ∧ ∃ l, BInv w wr b q z (newZ z) l ∧ l.length = 81 ∧ ∀ j, j < 81 → at8 l j = if j < k then at8 (newZ z) j else 0) (fun _ _ i _ => 81 - (intOf i).toNat)
    case atStart => exact ⟨0, Nat.zero_le _, rfl, _, I0.out, rfl, fun j hj => by rw [if_neg (Nat.not_lt_zero _)]; unfold at8; rw [List.getD_eq_getElem?_getD, List.getElem?_replicate, if_pos hj]; rfl⟩
    case round =>
      obtain ⟨k, hk, rfl, l, hI, hl, hl2⟩ := hrel
      have I1 := Lib.hid hI
      have HL := Lib.hid hl
      have HL2 := Lib.hid hl2
      clear hI hl hl2 I0
      by_cases hlti : (k : Int) < 81
      · have hlt : k < 81 := by omega
        have hx := fun W => run_index_cell (P := Tryd.prog) W 24 23 81 bs.toArray k (.int .i8 (at8 z k)) Tryd.underlying24 (by kernel_rfl) (by kernel_rfl) hlt (by simpa using HB81.out k hlt)
        have hx8 := H8.out.at k
        have hnz := newZ_at z HZ.out k (by omega)
        have K := Lib.hid (fun W => refKind_any (at8 z k) W hx8.1 hx8.2)
        have hwx : wrap64 (at8 z k) = at8 z k := by unfold wrap64; omega
        have HNZ := Lib.hid hnz
        clear hnz
        generalize hxk : at8 z k = x at *
        have HXK := Lib.hid hxk
        clear hxk
        by_cases h0 : kindF x = 0
        · rw [h0] at K
          have HK0 := Lib.hid h0
          clear h0
          go_wp2_with (first
            | (go_at_call 17; refine (K.out _).mono ?_; rintro e w4 ⟨rfl, rfl⟩)
            | fail)
          go_roundw
          case rel => exact ⟨k + 1, by omega, by go_num, l, I1.out, HL.out, fun j hj => by
            rw [HL2.out j hj]
            by_cases c : j = k
            · subst c
              rw [if_neg (Nat.lt_irrefl _), if_pos (Nat.lt_succ_self _), HNZ.out, if_pos ⟨hlt, HK0.out⟩]
            · by_cases c2 : j < k
              · rw [if_pos c2, if_pos (by omega)]
              · rw [if_neg c2, if_neg (by omega)]⟩
          case measure => simp [intOf]; omega
        · have bk : (kindF x != 0) = true := by simpa using h0
          have HK0 := Lib.hid h0
          have ca := I1.out.arr.cell k (by rw [HL.out]; exact hlt)
          have fa := I1.out.arr.frozen k
          clear h0
          generalize kindF x = kx at K bk
          go_wp2_with (first
            | (go_at_call 17; refine (K.out _).mono ?_; rintro e w4 ⟨rfl, rfl⟩)
            | fail)
          go_roundw
          case rel => exact ⟨k + 1, by omega, by go_num, l.set k x, I1.out.set k x, by rw [List.length_set, HL.out], fun j hj => by
            rw [at8_set _ _ _ _ (by rw [HL.out]; exact hlt), HL2.out j hj]
            by_cases c : j = k
            · subst c
              rw [if_pos rfl, if_pos (Nat.lt_succ_self _), HNZ.out, if_neg (fun h => HK0.out h.2)]
            · rw [if_neg c]
              by_cases c2 : j < k
              · rw [if_pos c2, if_pos (by omega)]
              · rw [if_neg c2, if_neg (by omega)]⟩
          case measure => simp [intOf]; omega
      · obtain rfl : k = 81 := by omega
        go_wp2_with fail
        go_meet
        exact ⟨l, I1.out, HL.out, fun i hi => by rw [HL2.out i hi, if_pos hi]⟩
  case rest =>
    obtain ⟨l0, hI, hT0⟩ := hcut
    have I1 := Lib.hid hI
    have T1 := Lib.hid hT0
    have K1 := Lib.hid (show Kept z (newZ z) from ⟨HZN.out, newZ_8 z H8.out, newZ_clean z HZ.out, fun j h1 h2 => by rw [newZ_at z HZ.out j h2, if_neg (fun h => by omega)]⟩)
    clear hI hT0 I0 HB81 HBR HBL
    generalize hzn : newZ z = zn at *
    clear hzn
    go_upto_block 2 with fail
    go_cut [] (fun wx => ∃ zz l, BInv w wx b q z zz l ∧ Told l zz ∧ Kept z zz)
    case first =>
      rename (∀ (a : Act) (w : World), Code.wp _ _ _ a w → _) => hbig
      clear hbig
      go_wp2_with fail
      go_loopw [42] (fun i wr => ∃ k : Nat, k ≤ M.length ∧ i = .int .i64 k ∧ ∃ zz l, BInv w wr b q z zz l ∧ Told l zz ∧ Kept z zz) (fun i _ => M.length - (intOf i).toNat)
      case atStart => exact ⟨0, Nat.zero_le _, rfl, zn, l0, I1.out, T1.out, K1.out⟩
      case round =>
        obtain ⟨k, hk, rfl, zz, l, hI, hTo, hKe⟩ := hrel
        have I2 := Lib.hid hI
        have T2 := Lib.hid hTo
        have K2 := Lib.hid hKe
        clear hI hTo hKe I1 T1 K1
        by_cases hlt : (k : Int) < (M.length : Int)
        · obtain ⟨⟨sq, x⟩, hm⟩ : ∃ m, M[k]? = some m := ⟨_, List.getElem?_eq_getElem (by omega)⟩
          obtain ⟨bm, om, hoa, hblt, hR, hx8⟩ := HM.out.grow I2.out.low k _ hm
          subst hoa
          have HR := Lib.hid hR
          have HPI := Lib.hid (show (Tryd.prog.info? 36).map (·.size) = some (putC (sq, x)).length from infoPut)
          have W1 := Lib.hid (fresh_put wr (sq, x))
          have hBa := below_row (ball (bref wr) (.cells #[.int .i64 0, .int .i8 0] 36)) (Nat.le_refl _) (putC (sq, x)).toArray
          have I3 := Lib.hid (I2.out.grow hBa)
          have AM := Lib.hid (show wr.heap.size ≠ b ∧ wr.heap.size ≠ q ∧ w.heap.size < wr.heap.size from ⟨by (have := I2.out.brd.lt; omega), by (have := I2.out.arr.lt; omega), I2.out.pos.lt⟩)
          have PU := Lib.hid (fun W (h : Brd W b zz) => put_any b zz sq x hx8 K2.out.len K2.out.clean W h)
          have KN := Lib.hid (fun W => refKind_any x W hx8.1 hx8.2)
          have hwx : wrap64 x = x := by unfold wrap64; omega
          have HX8 := Lib.hid hx8
          clear hR hm hBa hx8
          go_upto_region 16 with (first
            | (refine wpList_load_mid rfl 36 _ rfl bm (om + k * 2) rfl (putC (sq, x)) _ HR.out Tryd.underlying36 rfl HPI.out ?_)
            | (refine wpList_store_row rfl 36 _ _ rfl wr.heap.size (putC (sq, x)).toArray rfl rfl 36 #[.int .i64 0, .int .i8 0] (heap_alloc_new wr _) (by rw [List.size_toArray]; exact HPI.out) rfl (put_one (sq, x)) ?_)
            | fail)
          generalize ham : wr.heap.size = am at *
          generalize (wr.alloc (.cells #[.int .i64 0, .int .i8 0] 36)).setRow am (putC (sq, x)).toArray = w4 at *
          clear ham
          obtain ⟨m0, m1⟩ := put_cells W1.out
          by_cases h1 : 0 ≤ sq
          · by_cases h2 : sq ≤ 80
            · obtain ⟨sn, rfl⟩ : ∃ sn : Nat, sq = sn := ⟨sq.toNat, by omega⟩
              have hsn : sn < 81 := by omega
              by_cases h0 : kindF x = 0
              · rw [h0] at KN
                have HK0 := Lib.hid h0
                clear h0
                go_upto_region 18 with (first
                  | (go_at_call 18; refine (PU.out _ I3.out.brd).mono ?_; rintro e w5 ⟨rfl, hbr, hb⟩; have I4 := Lib.hid (I3.out.put hbr hb); have W2 := Lib.hid ((hb.block _ (lt_of_row' W1.out) AM.out.1).trans W1.out); clear hbr hb m0 m1; obtain ⟨m0, m1⟩ := put_cells W2.out)
                  | fail)
                have ca := I4.out.arr.cell sn (by rw [T2.out.1]; exact hsn)
                have fa := I4.out.arr.frozen sn
                go_upto_region 19 with fail
                have I5 := Lib.hid (I4.out.set sn 0)
                have W5 := Lib.hid ((heap_setCell_other w5 ⟨q, sn, none⟩ am (.int .i64 0) AM.out.2.1).trans W2.out)
                clear ca fa m0 m1
                generalize w5.setCell ⟨q, sn, none⟩ (.int .i64 0) = w6 at *
                obtain ⟨m0, m1⟩ := put_cells W5.out
                go_wp2_with (first
                  | (go_at_call 17; refine (KN.out _).mono ?_; rintro e w7 ⟨rfl, rfl⟩)
                  | fail)
                go_roundw
                case rel => exact ⟨k + 1, by omega, by go_num, putZ zz sn x, l.set sn 0, I5.out, T2.out.put0 K2.out.len sn x hsn HK0.out, K2.out.put sn x HX8.out⟩
                case measure => simp [intOf]; omega
              · have bk : (kindF x != 0) = true := by simpa using h0
                have HK0 := Lib.hid h0
                clear h0
                generalize hkx : kindF x = kx at KN bk
                clear hkx
                go_upto_region 18 with (first
                  | (go_at_call 18; refine (PU.out _ I3.out.brd).mono ?_; rintro e w5 ⟨rfl, hbr, hb⟩; have I4 := Lib.hid (I3.out.put hbr hb); have W2 := Lib.hid ((hb.block _ (lt_of_row' W1.out) AM.out.1).trans W1.out); clear hbr hb m0 m1; obtain ⟨m0, m1⟩ := put_cells W2.out)
                  | fail)
                have ca := I4.out.arr.cell sn (by rw [T2.out.1]; exact hsn)
                have fa := I4.out.arr.frozen sn
                go_upto_region 19 with fail
                have I5 := Lib.hid (I4.out.set sn 0)
                have W5 := Lib.hid ((heap_setCell_other w5 ⟨q, sn, none⟩ am (.int .i64 0) AM.out.2.1).trans W2.out)
                clear ca fa m0 m1
                generalize w5.setCell ⟨q, sn, none⟩ (.int .i64 0) = w6 at *
                obtain ⟨m0, m1⟩ := put_cells W5.out
                have ca := I5.out.arr.cell sn (by rw [List.length_set, T2.out.1]; exact hsn)
                have fa := I5.out.arr.frozen sn
                go_wp2_with (first
                  | (go_at_call 17; refine (KN.out _).mono ?_; rintro e w7 ⟨rfl, rfl⟩)
                  | fail)
                go_roundw
                case rel => exact ⟨k + 1, by omega, by go_num, putZ zz sn x, (l.set sn 0).set sn x, I5.out.set sn x, T2.out.put1 K2.out.len sn x hsn HK0.out, K2.out.put sn x HX8.out⟩
                case measure => simp [intOf]; omega
            · have hno : ¬ (0 ≤ sq ∧ sq < 81) := by omega
              have HNO := Lib.hid hno
              clear hno
              go_wp2_with (first
                  | (go_at_call 18; refine (PU.out _ I3.out.brd).mono ?_; rintro e w5 ⟨rfl, hbr, hb⟩; have I4 := Lib.hid (I3.out.put hbr hb); have W2 := Lib.hid ((hb.block _ (lt_of_row' W1.out) AM.out.1).trans W1.out); clear hbr hb m0 m1; obtain ⟨m0, m1⟩ := put_cells W2.out)
                  | fail)
              go_roundw
              case rel => exact ⟨k + 1, by omega, by go_num, putZ zz sq x, l, I4.out, T2.out.no sq x HNO.out, K2.out.put sq x HX8.out⟩
              case measure => simp [intOf]; omega
          · have hno : ¬ (0 ≤ sq ∧ sq < 81) := by omega
            have HNO := Lib.hid hno
            clear hno
            go_wp2_with (first
                  | (go_at_call 18; refine (PU.out _ I3.out.brd).mono ?_; rintro e w5 ⟨rfl, hbr, hb⟩; have I4 := Lib.hid (I3.out.put hbr hb); have W2 := Lib.hid ((hb.block _ (lt_of_row' W1.out) AM.out.1).trans W1.out); clear hbr hb m0 m1; obtain ⟨m0, m1⟩ := put_cells W2.out)
                  | fail)
            go_roundw
            case rel => exact ⟨k + 1, by omega, by go_num, putZ zz sq x, l, I4.out, T2.out.no sq x HNO.out, K2.out.put sq x HX8.out⟩
            case measure => simp [intOf]; omega
        · obtain rfl : k = M.length := by omega
          go_wp2_with fail
          go_meet
          exact ⟨zz, l, I2.out, T2.out, K2.out⟩
    case rest =>
      obtain ⟨zz, l, hI, hTo, hKe⟩ := hcut
      have I2 := Lib.hid hI
      have T2 := Lib.hid hTo
      have K2 := Lib.hid hKe
      clear hI hTo hKe I1 T1 K1
      go_upto_block 4 with fail
      have V3 := Lib.hid (var_new wc)
      have I3 := Lib.hid (I2.out.grow (ball (bref wc) (.cells #[.int .u64 0, .int .u64 0] 40)))
      have TV := Lib.hid (show w.heap.size < wc.heap.size ∧ b ≠ wc.heap.size ∧ q ≠ wc.heap.size from ⟨I2.out.pos.lt, by (have := I2.out.brd.lt; omega), by (have := I2.out.arr.lt; omega)⟩)
      generalize wc.heap.size = tv at *
      generalize wc.alloc (.cells #[.int .u64 0, .int .u64 0] 40) = w6 at *
      clear I2
      go_cut [] (fun wx => BInv w wx b q z zz l ∧ Var wx tv (loW (whereN zz nzB 81)) (hiW (whereN zz nzB 81)))
      case first =>
        rename (∀ (a : Act) (w : World), Code.wp _ _ _ a w → _) => hbig
        clear hbig
        go_wp2_with fail
        go_loopw [12] (fun i wr => ∃ k : Nat, k ≤ 81 ∧ i = .int .i64 k ∧ BInv w wr b q z zz l ∧ Var wr tv (loW (whereN zz nzB k)) (hiW (whereN zz nzB k))) (fun i _ => 81 - (intOf i).toNat)
        case atStart => exact ⟨0, Nat.zero_le _, rfl, I3.out, by rw [show whereN zz nzB 0 = 0 from rfl, lo_zero, hi_zero]; exact V3.out⟩
        case round =>
          obtain ⟨k, hk, rfl, hI, hV⟩ := hrel
          have I4 := Lib.hid hI
          have V4 := Lib.hid hV
          clear hI hV I3 V3
          by_cases hlt : (k : Int) < 81
          · have hk81 : k < 81 := by omega
            have hbd : 0 ≤ (k : Int) ∧ (k : Int) < 81 := by omega
            have ca := I4.out.arr.cell k (by rw [T2.out.1]; exact hk81)
            rw [T2.out.2 k hk81] at ca
            have cb := BrdAt.cell I4.out.brd K2.out.len k (by omega)
            have AT := Lib.hid (fun W (h : Brd W b zz) => at_brd b zz k K2.out.len W h)
            rw [if_pos hbd, Int.toNat_natCast] at AT
            have hy8 := K2.out.i8.at k
            have WI := Lib.hid (fun W => with_any (whereN zz nzB k) k (where_sqk zz nzB k hk) W)
            have hw1 := where_one zz nzB k hk81
            have hw0 := where_zero zz nzB k
            generalize hyk : at8 zz k = y at *
            have hwy : wrap64 y = y := by unfold wrap64; omega
            have hwy2 : IntKind.i64.wrap y = y := by rw [IntKind.wrap_i64]; omega
            have HW1 := Lib.hid hw1
            have HW0 := Lib.hid hw0
            clear hyk hw1 hw0 hy8
            have bn : (y != y) = false := by simp
            go_wp2_with fail
            refine wp_region_held_drew (S := fun W => Below wr.heap.size wr W) (by kernel_rfl) ?_ (fun hHeld => ?_)
            · exact (bref wr).drew
            refine wpAnyH_take (i := 0) (v := ?v1) rfl (by kernel_rfl) (by kernel_rfl) (by kernel_rfl) (fun _ _ _ h => h) (Or.inl ⟨by rfl, ?y1⟩) (by assumption) ?r1
            case y1 => (intro w hSw; (go_simp <;> first | with_reducible rfl | (rw [if_pos (by omega)] <;> with_reducible rfl)))
            try simp only [Act.put, List.getElem_toArray, List.getElem_cons_zero, List.getElem_cons_succ, List.setIfInBounds_toArray, List.set_cons_zero, List.set_cons_succ]
            refine wpAnyH_take (i := 1) (v := ?v2) rfl (by kernel_rfl) (by kernel_rfl) (by kernel_rfl) (fun _ _ _ h => h) (Or.inl ⟨by rfl, ?y2⟩) (by assumption) ?r2
            case y2 => (intro w hSw; (go_simp <;> first | with_reducible rfl | (rw [if_pos (by omega)] <;> with_reducible rfl)))
            try simp only [Act.put, List.getElem_toArray, List.getElem_cons_zero, List.getElem_cons_succ, List.setIfInBounds_toArray, List.set_cons_zero, List.set_cons_succ]
            refine wpAnyH_take (i := 4) (v := ?v3) rfl (by kernel_rfl) (by kernel_rfl) (by kernel_rfl) (fun _ _ _ h => h) (Or.inl ⟨by rfl, ?y3⟩) (by assumption) ?r3
            case y3 => (intro w hSw; (go_simp <;> first | with_reducible rfl | (rw [if_pos (by omega)] <;> with_reducible rfl)))
            try simp only [Act.put, List.getElem_toArray, List.getElem_cons_zero, List.getElem_cons_succ, List.setIfInBounds_toArray, List.set_cons_zero, List.set_cons_succ]
            refine wpAnyH_take (i := 5) (v := ?v4) rfl (by kernel_rfl) (by kernel_rfl) (by kernel_rfl) (fun _ _ _ h => h) (Or.inl ⟨by rfl, ?y4⟩) (by assumption) ?r4
            case y4 => (intro w hSw; (go_simp <;> first | with_reducible rfl | (rw [if_pos (by omega)] <;> with_reducible rfl)))
            try simp only [Act.put, List.getElem_toArray, List.getElem_cons_zero, List.getElem_cons_succ, List.setIfInBounds_toArray, List.set_cons_zero, List.set_cons_succ]
            refine wpAnyH_take (i := 6) (v := ?v5) rfl (by kernel_rfl) (by kernel_rfl) (by kernel_rfl) (fun _ _ _ h => h) (Or.inl ⟨by rfl, ?y5⟩) (by assumption) ?r5
            case y5 => (intro w hSw; have ca2 := (hSw.cell (p := ⟨q, k, none⟩) I4.out.arr.lt).trans ca; (go_simp <;> first | with_reducible rfl | (rw [if_pos (by omega)] <;> with_reducible rfl)))
            try simp only [Act.put, List.getElem_toArray, List.getElem_cons_zero, List.getElem_cons_succ, List.setIfInBounds_toArray, List.set_cons_zero, List.set_cons_succ]
            refine wpAnyH_ready (rs := [2]) (by kernel_rfl) (by simp) ?_
            refine AllReadyH.cons rfl (fun K hK => ?_) AllReadyH.nil
            rw [if_pos (by rfl)]
            go_simp
            go_at_call 19
            refine (AT.out _ (I4.out.grow hHeld).brd).mono ?_
            rintro e wn ⟨rfl, rfl⟩
            refine hK.out _ _ (hHeld) (fun hHeld => ?_)
            clear hK K
            try simp only [Act.put, List.getElem_toArray, List.getElem_cons_zero, List.getElem_cons_succ, List.setIfInBounds_toArray, List.set_cons_zero, List.set_cons_succ]
            refine wpAnyH_take (i := 3) (v := ?v6) rfl (by kernel_rfl) (by kernel_rfl) (by kernel_rfl) (fun _ _ _ h => h) (Or.inl ⟨by rfl, ?y6⟩) (by assumption) ?r6
            case y6 => (intro w hSw; (go_simp <;> first | with_reducible rfl | (rw [if_pos (by omega)] <;> with_reducible rfl)))
            try simp only [Act.put, List.getElem_toArray, List.getElem_cons_zero, List.getElem_cons_succ, List.setIfInBounds_toArray, List.set_cons_zero, List.set_cons_succ]
            refine wpAnyH_take (i := 7) (v := ?v7) rfl (by kernel_rfl) (by kernel_rfl) (by kernel_rfl) (fun _ _ _ h => h) (Or.inl ⟨by rfl, ?y7⟩) (by assumption) ?r7
            case y7 => (intro w hSw; (go_simp <;> first | with_reducible rfl | (rw [if_pos (by omega)] <;> with_reducible rfl)))
            try simp only [Act.put, List.getElem_toArray, List.getElem_cons_zero, List.getElem_cons_succ, List.setIfInBounds_toArray, List.set_cons_zero, List.set_cons_succ]
            refine wpAnyH_take (i := 8) (v := ?v8) rfl (by kernel_rfl) (by kernel_rfl) (by kernel_rfl) (fun _ _ _ h => h) (Or.inl ⟨by rfl, ?y8⟩) (by assumption) ?r8
            case y8 => (intro w hSw; (go_simp <;> first | with_reducible rfl | (rw [if_pos (by omega)] <;> with_reducible rfl)))
            try simp only [Act.put, List.getElem_toArray, List.getElem_cons_zero, List.getElem_cons_succ, List.setIfInBounds_toArray, List.set_cons_zero, List.set_cons_succ]
            refine wpAnyH_take (i := 9) (v := ?v9) rfl (by kernel_rfl) (by kernel_rfl) (by kernel_rfl) (fun _ _ _ h => h) (Or.inl ⟨by rfl, ?y9⟩) (by assumption) ?r9
            case y9 => (intro w hSw; (go_simp <;> first | with_reducible rfl | (rw [if_pos (by omega)] <;> with_reducible rfl)))
            try simp only [Act.put, List.getElem_toArray, List.getElem_cons_zero, List.getElem_cons_succ, List.setIfInBounds_toArray, List.set_cons_zero, List.set_cons_succ]
            refine wpAnyH_take (i := 10) (v := ?v10) rfl (by kernel_rfl) (by kernel_rfl) (by kernel_rfl) (fun _ _ _ h => h) (Or.inl ⟨by rfl, ?y10⟩) (by assumption) ?r10
            case y10 => (intro w hSw; (go_simp <;> first | with_reducible rfl | (rw [if_pos (by omega)] <;> with_reducible rfl)))
            try simp only [Act.put, List.getElem_toArray, List.getElem_cons_zero, List.getElem_cons_succ, List.setIfInBounds_toArray, List.set_cons_zero, List.set_cons_succ]
            refine wpAnyH_take (i := 11) (v := ?v11) rfl (by kernel_rfl) (by kernel_rfl) (by kernel_rfl) (fun _ _ _ h => h) (Or.inl ⟨by rfl, ?y11⟩) (by assumption) ?r11
            case y11 => (intro w hSw; (go_simp <;> first | with_reducible rfl | (rw [if_pos (by omega)] <;> with_reducible rfl)))
            try simp only [Act.put, List.getElem_toArray, List.getElem_cons_zero, List.getElem_cons_succ, List.setIfInBounds_toArray, List.set_cons_zero, List.set_cons_succ]
            refine wpAnyH_take (i := 12) (v := ?v12) rfl (by kernel_rfl) (by kernel_rfl) (by kernel_rfl) (fun _ _ _ h => h) (Or.inl ⟨by rfl, ?y12⟩) (by assumption) ?r12
            case y12 => (intro w hSw; (go_simp <;> first | with_reducible rfl | (rw [if_pos (by omega)] <;> with_reducible rfl)))
            try simp only [Act.put, List.getElem_toArray, List.getElem_cons_zero, List.getElem_cons_succ, List.setIfInBounds_toArray, List.set_cons_zero, List.set_cons_succ]
            refine wpAnyH_take (i := 13) (v := ?v13) rfl (by kernel_rfl) (by kernel_rfl) (by kernel_rfl) (fun _ _ _ h => h) (Or.inl ⟨by rfl, ?y13⟩) (by assumption) ?r13
            case y13 => (intro w hSw; (go_simp <;> first | with_reducible rfl | (rw [if_pos (by omega)] <;> with_reducible rfl)))
            try simp only [Act.put, List.getElem_toArray, List.getElem_cons_zero, List.getElem_cons_succ, List.setIfInBounds_toArray, List.set_cons_zero, List.set_cons_succ]
            refine wpAnyH_take (i := 14) (v := ?v14) rfl (by kernel_rfl) (by kernel_rfl) (by kernel_rfl) (fun _ _ _ h => h) (Or.inl ⟨by rfl, ?y14⟩) (by assumption) ?r14
            case y14 => (intro w hSw; (go_simp <;> first | with_reducible rfl | (rw [if_pos (by omega)] <;> with_reducible rfl)))
            try simp only [Act.put, List.getElem_toArray, List.getElem_cons_zero, List.getElem_cons_succ, List.setIfInBounds_toArray, List.set_cons_zero, List.set_cons_succ]
            refine wpAnyH_take (i := 15) (v := ?v15) rfl (by kernel_rfl) (by kernel_rfl) (by kernel_rfl) (fun _ _ _ h => h) (Or.inl ⟨by rfl, ?y15⟩) (by assumption) ?r15
            case y15 => (intro w hSw; have cb2 := (hSw.cell (p := ⟨b, k, none⟩) I4.out.brd.lt).trans cb; (go_simp <;> first | with_reducible rfl | (rw [if_pos (by omega)] <;> with_reducible rfl)))
            try simp only [Act.put, List.getElem_toArray, List.getElem_cons_zero, List.getElem_cons_succ, List.setIfInBounds_toArray, List.set_cons_zero, List.set_cons_succ]
            refine wpAnyH_take (i := 16) (v := ?v16) rfl (by kernel_rfl) (by kernel_rfl) (by kernel_rfl) (fun _ _ _ h => h) (Or.inl ⟨by rfl, ?y16⟩) (by assumption) ?r16
            case y16 => (intro w hSw; (go_simp <;> first | with_reducible rfl | (rw [if_pos (by omega)] <;> with_reducible rfl)))
            try simp only [Act.put, List.getElem_toArray, List.getElem_cons_zero, List.getElem_cons_succ, List.setIfInBounds_toArray, List.set_cons_zero, List.set_cons_succ]
            refine wpAnyH_take (i := 17) (v := ?v17) rfl (by kernel_rfl) (by kernel_rfl) (by kernel_rfl) (fun _ _ _ h => h) (Or.inl ⟨by rfl, ?y17⟩) (by assumption) ?r17
            case y17 => (intro w hSw; (go_simp <;> first | with_reducible rfl | (rw [if_pos (by omega)] <;> with_reducible rfl)))
            try simp only [Act.put, List.getElem_toArray, List.getElem_cons_zero, List.getElem_cons_succ, List.setIfInBounds_toArray, List.set_cons_zero, List.set_cons_succ]
            refine wpAnyH_take (i := 18) (v := ?v18) rfl (by kernel_rfl) (by kernel_rfl) (by kernel_rfl) (fun _ _ _ h => h) (Or.inl ⟨by rfl, ?y18⟩) (by assumption) ?r18
            case y18 => (intro w hSw; (go_simp <;> first | with_reducible rfl | (rw [if_pos (by omega)] <;> with_reducible rfl)))
            try simp only [Act.put, List.getElem_toArray, List.getElem_cons_zero, List.getElem_cons_succ, List.setIfInBounds_toArray, List.set_cons_zero, List.set_cons_succ]
            refine wpAnyH_take (i := 19) (v := ?v19) rfl (by kernel_rfl) (by kernel_rfl) (by kernel_rfl) (fun _ _ _ h => h) (Or.inl ⟨by rfl, ?y19⟩) (by assumption) ?r19
            case y19 => (intro w hSw; have ca2 := (hSw.cell (p := ⟨q, k, none⟩) I4.out.arr.lt).trans ca; (go_simp <;> first | with_reducible rfl | (rw [if_pos (by omega)] <;> with_reducible rfl)))
            try simp only [Act.put, List.getElem_toArray, List.getElem_cons_zero, List.getElem_cons_succ, List.setIfInBounds_toArray, List.set_cons_zero, List.set_cons_succ]
            refine wpAnyH_take (i := 20) (v := ?v20) rfl (by kernel_rfl) (by kernel_rfl) (by kernel_rfl) (fun _ _ _ h => h) (Or.inl ⟨by rfl, ?y20⟩) (by assumption) ?r20
            case y20 => (intro w hSw; (go_simp <;> first | with_reducible rfl | (rw [if_pos (by omega)] <;> with_reducible rfl)))
            try simp only [Act.put, List.getElem_toArray, List.getElem_cons_zero, List.getElem_cons_succ, List.setIfInBounds_toArray, List.set_cons_zero, List.set_cons_succ]
            refine wpAnyH_take (i := 21) (v := ?v21) rfl (by kernel_rfl) (by kernel_rfl) (by kernel_rfl) (fun _ _ _ h => h) (Or.inl ⟨by rfl, ?y21⟩) (by assumption) ?r21
            case y21 => (intro w hSw; (go_simp <;> first | with_reducible rfl | (rw [if_pos (by omega)] <;> with_reducible rfl)))
            try simp only [Act.put, List.getElem_toArray, List.getElem_cons_zero, List.getElem_cons_succ, List.setIfInBounds_toArray, List.set_cons_zero, List.set_cons_succ]
            refine wpAnyH_done (by kernel_rfl) ?_ _
            have I5 := Lib.hid (I4.out.grow hHeld)
            have V5 := Lib.hid (V4.out.grow hHeld)
            have ca5 := (hHeld.cell (p := ⟨q, k, none⟩) I4.out.arr.lt).trans ca
            clear hHeld ca cb bn
            by_cases hy0 : y = 0
            · have by0 : (y != 0) = false := by simpa using hy0
              have HE := Lib.hid (HW0.out (by rw [hy0]; rfl))
              clear hy0
              go_wp2_with fail
              go_roundw
              case rel => exact ⟨k + 1, by omega, by go_num, I5.out, by rw [HE.out]; exact V5.out⟩
              case measure => simp [intOf]; omega
            · have by0 : (y != 0) = true := by simpa using hy0
              have HE := Lib.hid (HW1.out (by unfold nzB; rw [decide_eq_false hy0]; rfl))
              clear hy0
              have v0 := V5.out.lo
              have v1 := V5.out.hi
              have v2 := V5.out.f0
              have v3 := V5.out.f1
              rw [← HE.out] at WI
              go_wp2_with (first
                | (go_at_call 20; refine (WI.out _).mono ?_; rintro e w7 ⟨rfl, hb⟩; have I6 := Lib.hid (I5.out.grow hb); have V6 := Lib.hid (V5.out.grow hb); clear v0 v1 v2 v3 hb; have v0 := V6.out.lo; have v1 := V6.out.hi; have v2 := V6.out.f0; have v3 := V6.out.f1)
                | fail)
              go_roundw
              case rel => exact ⟨k + 1, by omega, by go_num, (I6.out.other TV.out.1 TV.out.2.1 TV.out.2.2 0 _).other TV.out.1 TV.out.2.1 TV.out.2.2 1 _, V6.out.put _ _⟩
              case measure => simp [intOf]; omega
          · obtain rfl : k = 81 := by omega
            go_wp2_with fail
            go_meet
            exact ⟨I4.out, V4.out⟩
      case rest =>
        obtain ⟨hI, hV⟩ := hcut
        have I4 := Lib.hid hI
        have V4 := Lib.hid hV
        clear hI hV I3 V3
        have HTW := Lib.hid (taken_where zz K2.out.clean)
        have V4 := V4.out
        rw [HTW.out] at V4
        have V4 := Lib.hid V4
        have TK := Lib.hid (fun W (h : Brd W b zz) => taken_brd b zz K2.out.len W h)
        generalize loW (takenN zz) = tl at V4 TK
        generalize hiW (takenN zz) = th at V4 TK
        go_upto_block 6 with fail
        go_cut [] (fun wx => BInv w wx b q z zz l ∧ Var wx tv tl th)
        case first =>
          rename (∀ (a : Act) (w : World), Code.wp _ _ _ a w → _) => hbig
          clear hbig
          go_wp2_with fail
          go_loopw [13] (fun i wr => ∃ s : Nat, s ≤ 2 ∧ i = .int .i64 s ∧ BInv w wr b q z zz l ∧ Var wr tv tl th) (fun i _ => 2 - (intOf i).toNat)
          case atStart => exact ⟨0, Nat.zero_le _, rfl, I4.out, V4.out⟩
          case round =>
            obtain ⟨s, hs, rfl, hI, hV⟩ := hrel
            have I5 := Lib.hid hI
            have V5 := Lib.hid hV
            clear hI hV I4 V4
            by_cases hlts : (s : Int) < 2
            · have hs2 : s < 2 := by omega
              go_upto_block 8 with fail
              have A6 := Lib.hid (var_new wr)
              have I6 := Lib.hid (I5.out.grow (ball (bref wr) (.cells #[.int .u64 0, .int .u64 0] 40)))
              have V6 := Lib.hid (V5.out.grow (ball (bref wr) (.cells #[.int .u64 0, .int .u64 0] 40)))
              have TA := Lib.hid (show w.heap.size < wr.heap.size ∧ b ≠ wr.heap.size ∧ q ≠ wr.heap.size ∧ tv ≠ wr.heap.size from ⟨I5.out.pos.lt, by (have := I5.out.brd.lt; omega), by (have := I5.out.arr.lt; omega), by (have := V5.out.lt; omega)⟩)
              clear I5 V5
              generalize wr.heap.size = ta at *
              generalize wr.alloc (.cells #[.int .u64 0, .int .u64 0] 40) = wg at *
              go_cut [] (fun wx => BInv w wx b q z zz l ∧ Var wx tv tl th ∧ Var wx ta (loW (allN zz s 16)) (hiW (allN zz s 16)))
              case first =>
                rename (∀ (a : Act) (w : World), Code.wp _ _ _ a w → _) => hbig
                clear hbig
                go_wp2_with fail
                go_loopw [15] (fun i wr => ∃ k : Nat, 1 ≤ k ∧ k ≤ 16 ∧ i = .int .i64 k ∧ BInv w wr b q z zz l ∧ Var wr tv tl th ∧ Var wr ta (loW (allN zz s k)) (hiW (allN zz s k))) (fun i _ => 16 - (intOf i).toNat)
                case atStart => exact ⟨1, by omega, by omega, rfl, I6.out, V6.out, by rw [allN_one, lo_zero, hi_zero]; exact A6.out⟩
                case round =>
                  obtain ⟨k, hk1, hk, rfl, hI, hV, hA⟩ := hrel
                  have I7 := Lib.hid hI
                  have V7 := Lib.hid hV
                  have A7 := Lib.hid hA
                  clear hI hV hA I6 V6 A6
                  by_cases hltk : (k : Int) ≤ 15
                  · have OF := Lib.hid (fun W (h : Brd W b zz) => of_brd b zz s k (by omega) K2.out.len W h)
                    have hor := fun W => or_any (allN zz s k) (pieceN zz (ofF s k)) (allN_sq _ _ _) (pieceN_sq _ _) W
                    rw [← allN_step zz s k hk1] at hor
                    have OR := Lib.hid hor
                    have FI := Lib.hid (fun W (h : Tab W) => first_any (pieceN zz (ofF s k)) (pieceN_sq _ _) W h)
                    have KI := Lib.hid (fun W (h : Brd W b zz) (hT : Tab W) => king_brd b zz s K2.out.len W h hT)
                    have HKF := Lib.hid (fun h : k = 8 => (show kingF zz s = firstF (pieceN zz (ofF s k)) by rw [h]; rfl))
                    clear hor
                    generalize hpl : loW (pieceN zz (ofF s k)) = pl at OF OR FI
                    generalize hph : hiW (pieceN zz (ofF s k)) = ph at OF OR FI
                    generalize hfs : firstF (pieceN zz (ofF s k)) = fs at FI HKF
                    have HPL := Lib.hid hpl
                    have HPH := Lib.hid hph
                    clear hpl hph hfs
                    generalize hal : loW (allN zz s k) = al at A7 OR
                    generalize hah : hiW (allN zz s k) = ah at A7 OR
                    clear hal hah
                    go_upto_block 10 with (first
                      | (go_at_call 21; refine (OF.out _ I7.out.brd).mono ?_; rintro e wo ⟨rfl, hb⟩; have Ia := Lib.hid (I7.out.grow hb); have Vt := Lib.hid (V7.out.grow hb); have Va := Lib.hid (A7.out.grow hb); clear hb)
                      | fail)
                    have S7 := Lib.hid (var_of wo pl ph)
                    have I7 := Lib.hid (Ia.out.grow (ball (bref wo) (.cells #[.int .u64 pl, .int .u64 ph] 40)))
                    have V7 := Lib.hid (Vt.out.grow (ball (bref wo) (.cells #[.int .u64 pl, .int .u64 ph] 40)))
                    have A7 := Lib.hid (Va.out.grow (ball (bref wo) (.cells #[.int .u64 pl, .int .u64 ph] 40)))
                    clear Ia Vt Va
                    generalize wo.heap.size = ts at *
                    generalize wo.alloc (.cells #[.int .u64 pl, .int .u64 ph] 40) = wp at *
                    go_cut [] (fun wx => BInv w wx b q z zz l ∧ Var wx tv tl th ∧ Var wx ta al ah ∧ Var wx ts pl ph)
                    case first =>
                      rename (∀ (a : Act) (w : World), Code.wp _ _ _ a w → _) => hbig
                      clear hbig
                      go_wp2_with fail
                      go_loopw [17] (fun i wr => ∃ j : Nat, j ≤ 81 ∧ i = .int .i64 j ∧ BInv w wr b q z zz l ∧ Var wr tv tl th ∧ Var wr ta al ah ∧ Var wr ts pl ph) (fun i _ => 81 - (intOf i).toNat)
                      case atStart => exact ⟨0, Nat.zero_le _, rfl, I7.out, V7.out, A7.out, S7.out⟩
                      case round =>
                        obtain ⟨j, hj, rfl, hI, hV, hA, hS⟩ := hrel
                        have I8 := Lib.hid hI
                        have VT := Lib.hid hV
                        have VA := Lib.hid hA
                        have VS := Lib.hid hS
                        clear hI hV hA hS
                        by_cases hltj : (j : Int) < 81
                        · have hj81 : j < 81 := by omega
                          have hbd : 0 ≤ (j : Int) ∧ (j : Int) < 81 := by omega
                          have cj := I8.out.arr.cell j (by rw [T2.out.1]; exact hj81)
                          rw [T2.out.2 j hj81] at cj
                          have HA := Lib.hid (fun W => has_any (pieceN zz (ofF s k)) j (pieceN_sq _ _) W)
                          rw [has_bit zz K2.out.i8 K2.out.clean s k j hs2 (by omega) hk1 hj81, HPL.out, HPH.out] at HA
                          have hw1 : IntKind.i64.wrap (16 * (s : Int)) = 16 * s := by rw [IntKind.wrap_i64]; omega
                          have hw2 : IntKind.i64.wrap (16 * (s : Int) + k) = 16 * s + k := by rw [IntKind.wrap_i64]; omega
                          generalize at8 zz j = y at cj HA
                          by_cases hy0 : y = 0
                          · have by0 : (y != 0) = false := by simpa using hy0
                            rw [decide_eq_true hy0, Bool.not_true, Bool.false_and] at HA
                            clear hy0
                            go_wp2_with fail
                            refine wp_region_held_drew (S := fun W => Below wr.heap.size wr W) (by kernel_rfl) ?_ (fun hHeld => ?_)
                            · exact (bref wr).drew
                            refine wpAnyH_take (i := 0) (v := ?v34) rfl (by kernel_rfl) (by kernel_rfl) (by kernel_rfl) (fun _ _ _ h => h) (Or.inl ⟨by rfl, ?y34⟩) (by assumption) ?r34
                            case y34 => (intro w hSw; have s0 := (VS.out.grow hSw).lo; have s1 := (VS.out.grow hSw).hi; (go_simp <;> first | with_reducible rfl | (rw [if_pos (by omega)] <;> with_reducible rfl)))
                            try simp only [Act.put, List.getElem_toArray, List.getElem_cons_zero, List.getElem_cons_succ, List.setIfInBounds_toArray, List.set_cons_zero, List.set_cons_succ]
                            refine wpAnyH_take (i := 1) (v := ?v35) rfl (by kernel_rfl) (by kernel_rfl) (by kernel_rfl) (fun _ _ _ h => h) (Or.inl ⟨by rfl, ?y35⟩) (by assumption) ?r35
                            case y35 => (intro w hSw; (go_simp <;> first | with_reducible rfl | (rw [if_pos (by omega)] <;> with_reducible rfl)))
                            try simp only [Act.put, List.getElem_toArray, List.getElem_cons_zero, List.getElem_cons_succ, List.setIfInBounds_toArray, List.set_cons_zero, List.set_cons_succ]
                            refine wpAnyH_take (i := 3) (v := ?v36) rfl (by kernel_rfl) (by kernel_rfl) (by kernel_rfl) (fun _ _ _ h => h) (Or.inl ⟨by rfl, ?y36⟩) (by assumption) ?r36
                            case y36 => (intro w hSw; (go_simp <;> first | with_reducible rfl | (rw [if_pos (by omega)] <;> with_reducible rfl)))
                            try simp only [Act.put, List.getElem_toArray, List.getElem_cons_zero, List.getElem_cons_succ, List.setIfInBounds_toArray, List.set_cons_zero, List.set_cons_succ]
                            refine wpAnyH_take (i := 4) (v := ?v37) rfl (by kernel_rfl) (by kernel_rfl) (by kernel_rfl) (fun _ _ _ h => h) (Or.inl ⟨by rfl, ?y37⟩) (by assumption) ?r37
                            case y37 => (intro w hSw; (go_simp <;> first | with_reducible rfl | (rw [if_pos (by omega)] <;> with_reducible rfl)))
                            try simp only [Act.put, List.getElem_toArray, List.getElem_cons_zero, List.getElem_cons_succ, List.setIfInBounds_toArray, List.set_cons_zero, List.set_cons_succ]
                            refine wpAnyH_take (i := 5) (v := ?v38) rfl (by kernel_rfl) (by kernel_rfl) (by kernel_rfl) (fun _ _ _ h => h) (Or.inl ⟨by rfl, ?y38⟩) (by assumption) ?r38
                            case y38 => (intro w hSw; have cj2 := (hSw.cell (p := ⟨q, j, none⟩) I8.out.arr.lt).trans cj; (go_simp <;> first | with_reducible rfl | (rw [if_pos (by omega)] <;> with_reducible rfl)))
                            try simp only [Act.put, List.getElem_toArray, List.getElem_cons_zero, List.getElem_cons_succ, List.setIfInBounds_toArray, List.set_cons_zero, List.set_cons_succ]
                            refine wpAnyH_take (i := 6) (v := ?v39) rfl (by kernel_rfl) (by kernel_rfl) (by kernel_rfl) (fun _ _ _ h => h) (Or.inl ⟨by rfl, ?y39⟩) (by assumption) ?r39
                            case y39 => (intro w hSw; (go_simp <;> first | with_reducible rfl | (rw [if_pos (by omega)] <;> with_reducible rfl)))
                            try simp only [Act.put, List.getElem_toArray, List.getElem_cons_zero, List.getElem_cons_succ, List.setIfInBounds_toArray, List.set_cons_zero, List.set_cons_succ]
                            refine wpAnyH_ready (rs := [2]) (by kernel_rfl) (by simp) ?_
                            refine AllReadyH.cons rfl (fun K hK => ?_) AllReadyH.nil
                            rw [if_pos (by rfl)]
                            go_simp
                            go_at_call 22
                            refine (HA.out _).mono ?_
                            rintro e wn ⟨rfl, hb⟩
                            refine hK.out _ _ (bthen hHeld hb) (fun hHeld => ?_)
                            clear hK K
                            try simp only [Act.put, List.getElem_toArray, List.getElem_cons_zero, List.getElem_cons_succ, List.setIfInBounds_toArray, List.set_cons_zero, List.set_cons_succ]
                            refine wpAnyH_take (i := 7) (v := ?v40) rfl (by kernel_rfl) (by kernel_rfl) (by kernel_rfl) (fun _ _ _ h => h) (Or.inl ⟨by rfl, ?y40⟩) (by assumption) ?r40
                            case y40 => (intro w hSw; (go_simp <;> first | with_reducible rfl | (rw [if_pos (by omega)] <;> with_reducible rfl)))
                            try simp only [Act.put, List.getElem_toArray, List.getElem_cons_zero, List.getElem_cons_succ, List.setIfInBounds_toArray, List.set_cons_zero, List.set_cons_succ]
                            refine wpAnyH_take (i := 8) (v := undef) rfl (by kernel_rfl) (by kernel_rfl) (by kernel_rfl) (fun _ _ _ h => h) (Or.inr ⟨by rfl, rfl⟩) (by assumption) ?_
                            try simp only [Act.put, List.getElem_toArray, List.getElem_cons_zero, List.getElem_cons_succ, List.setIfInBounds_toArray, List.set_cons_zero, List.set_cons_succ]
                            refine wpAnyH_take (i := 9) (v := undef) rfl (by kernel_rfl) (by kernel_rfl) (by kernel_rfl) (fun _ _ _ h => h) (Or.inr ⟨by rfl, rfl⟩) (by assumption) ?_
                            try simp only [Act.put, List.getElem_toArray, List.getElem_cons_zero, List.getElem_cons_succ, List.setIfInBounds_toArray, List.set_cons_zero, List.set_cons_succ]
                            refine wpAnyH_take (i := 10) (v := undef) rfl (by kernel_rfl) (by kernel_rfl) (by kernel_rfl) (fun _ _ _ h => h) (Or.inr ⟨by rfl, rfl⟩) (by assumption) ?_
                            try simp only [Act.put, List.getElem_toArray, List.getElem_cons_zero, List.getElem_cons_succ, List.setIfInBounds_toArray, List.set_cons_zero, List.set_cons_succ]
                            refine wpAnyH_take (i := 11) (v := undef) rfl (by kernel_rfl) (by kernel_rfl) (by kernel_rfl) (fun _ _ _ h => h) (Or.inr ⟨by rfl, rfl⟩) (by assumption) ?_
                            try simp only [Act.put, List.getElem_toArray, List.getElem_cons_zero, List.getElem_cons_succ, List.setIfInBounds_toArray, List.set_cons_zero, List.set_cons_succ]
                            refine wpAnyH_take (i := 12) (v := undef) rfl (by kernel_rfl) (by kernel_rfl) (by kernel_rfl) (fun _ _ _ h => h) (Or.inr ⟨by rfl, rfl⟩) (by assumption) ?_
                            try simp only [Act.put, List.getElem_toArray, List.getElem_cons_zero, List.getElem_cons_succ, List.setIfInBounds_toArray, List.set_cons_zero, List.set_cons_succ]
                            refine wpAnyH_take (i := 13) (v := undef) rfl (by kernel_rfl) (by kernel_rfl) (by kernel_rfl) (fun _ _ _ h => h) (Or.inr ⟨by rfl, rfl⟩) (by assumption) ?_
                            try simp only [Act.put, List.getElem_toArray, List.getElem_cons_zero, List.getElem_cons_succ, List.setIfInBounds_toArray, List.set_cons_zero, List.set_cons_succ]
                            refine wpAnyH_take (i := 14) (v := undef) rfl (by kernel_rfl) (by kernel_rfl) (by kernel_rfl) (fun _ _ _ h => h) (Or.inr ⟨by rfl, rfl⟩) (by assumption) ?_
                            try simp only [Act.put, List.getElem_toArray, List.getElem_cons_zero, List.getElem_cons_succ, List.setIfInBounds_toArray, List.set_cons_zero, List.set_cons_succ]
                            refine wpAnyH_take (i := 15) (v := undef) rfl (by kernel_rfl) (by kernel_rfl) (by kernel_rfl) (fun _ _ _ h => h) (Or.inr ⟨by rfl, rfl⟩) (by assumption) ?_
                            try simp only [Act.put, List.getElem_toArray, List.getElem_cons_zero, List.getElem_cons_succ, List.setIfInBounds_toArray, List.set_cons_zero, List.set_cons_succ]
                            refine wpAnyH_take (i := 16) (v := ?v41) rfl (by kernel_rfl) (by kernel_rfl) (by kernel_rfl) (fun _ _ _ h => h) (Or.inl ⟨by rfl, ?y41⟩) (by assumption) ?r41
                            case y41 => (intro w hSw; (go_simp <;> first | with_reducible rfl | (rw [if_pos (by omega)] <;> with_reducible rfl)))
                            try simp only [Act.put, List.getElem_toArray, List.getElem_cons_zero, List.getElem_cons_succ, List.setIfInBounds_toArray, List.set_cons_zero, List.set_cons_succ]
                            refine wpAnyH_take (i := 17) (v := ?v42) rfl (by kernel_rfl) (by kernel_rfl) (by kernel_rfl) (fun _ _ _ h => h) (Or.inl ⟨by rfl, ?y42⟩) (by assumption) ?r42
                            case y42 => (intro w hSw; (go_simp <;> first | with_reducible rfl | (rw [if_pos (by omega)] <;> with_reducible rfl)))
                            try simp only [Act.put, List.getElem_toArray, List.getElem_cons_zero, List.getElem_cons_succ, List.setIfInBounds_toArray, List.set_cons_zero, List.set_cons_succ]
                            refine wpAnyH_done (by kernel_rfl) ?_ _
                            go_wp2_with fail
                            go_roundw
                            case rel => exact ⟨j + 1, by omega, by go_num, I8.out.grow hHeld, VT.out.grow hHeld, VA.out.grow hHeld, VS.out.grow hHeld⟩
                            case measure => simp [intOf]; omega

                          · have by0 : (y != 0) = true := by simpa using hy0
                            by_cases hyk : y = 16 * (s : Int) + k
                            · have byk : (y == 16 * (s : Int) + k) = true := by simpa using hyk
                              rw [decide_eq_false hy0, decide_eq_true hyk, Bool.not_false, Bool.and_true] at HA
                              clear hy0 hyk
                              go_wp2_with fail
                              refine wp_region_held_drew (S := fun W => Below wr.heap.size wr W) (by kernel_rfl) ?_ (fun hHeld => ?_)
                              · exact (bref wr).drew
                              refine wpAnyH_take (i := 0) (v := ?v43) rfl (by kernel_rfl) (by kernel_rfl) (by kernel_rfl) (fun _ _ _ h => h) (Or.inl ⟨by rfl, ?y43⟩) (by assumption) ?r43
                              case y43 => (intro w hSw; have s0 := (VS.out.grow hSw).lo; have s1 := (VS.out.grow hSw).hi; (go_simp <;> first | with_reducible rfl | (rw [if_pos (by omega)] <;> with_reducible rfl)))
                              try simp only [Act.put, List.getElem_toArray, List.getElem_cons_zero, List.getElem_cons_succ, List.setIfInBounds_toArray, List.set_cons_zero, List.set_cons_succ]
                              refine wpAnyH_take (i := 1) (v := ?v44) rfl (by kernel_rfl) (by kernel_rfl) (by kernel_rfl) (fun _ _ _ h => h) (Or.inl ⟨by rfl, ?y44⟩) (by assumption) ?r44
                              case y44 => (intro w hSw; (go_simp <;> first | with_reducible rfl | (rw [if_pos (by omega)] <;> with_reducible rfl)))
                              try simp only [Act.put, List.getElem_toArray, List.getElem_cons_zero, List.getElem_cons_succ, List.setIfInBounds_toArray, List.set_cons_zero, List.set_cons_succ]
                              refine wpAnyH_take (i := 3) (v := ?v45) rfl (by kernel_rfl) (by kernel_rfl) (by kernel_rfl) (fun _ _ _ h => h) (Or.inl ⟨by rfl, ?y45⟩) (by assumption) ?r45
                              case y45 => (intro w hSw; (go_simp <;> first | with_reducible rfl | (rw [if_pos (by omega)] <;> with_reducible rfl)))
                              try simp only [Act.put, List.getElem_toArray, List.getElem_cons_zero, List.getElem_cons_succ, List.setIfInBounds_toArray, List.set_cons_zero, List.set_cons_succ]
                              refine wpAnyH_take (i := 4) (v := ?v46) rfl (by kernel_rfl) (by kernel_rfl) (by kernel_rfl) (fun _ _ _ h => h) (Or.inl ⟨by rfl, ?y46⟩) (by assumption) ?r46
                              case y46 => (intro w hSw; (go_simp <;> first | with_reducible rfl | (rw [if_pos (by omega)] <;> with_reducible rfl)))
                              try simp only [Act.put, List.getElem_toArray, List.getElem_cons_zero, List.getElem_cons_succ, List.setIfInBounds_toArray, List.set_cons_zero, List.set_cons_succ]
                              refine wpAnyH_take (i := 5) (v := ?v47) rfl (by kernel_rfl) (by kernel_rfl) (by kernel_rfl) (fun _ _ _ h => h) (Or.inl ⟨by rfl, ?y47⟩) (by assumption) ?r47
                              case y47 => (intro w hSw; have cj2 := (hSw.cell (p := ⟨q, j, none⟩) I8.out.arr.lt).trans cj; (go_simp <;> first | with_reducible rfl | (rw [if_pos (by omega)] <;> with_reducible rfl)))
                              try simp only [Act.put, List.getElem_toArray, List.getElem_cons_zero, List.getElem_cons_succ, List.setIfInBounds_toArray, List.set_cons_zero, List.set_cons_succ]
                              refine wpAnyH_take (i := 6) (v := ?v48) rfl (by kernel_rfl) (by kernel_rfl) (by kernel_rfl) (fun _ _ _ h => h) (Or.inl ⟨by rfl, ?y48⟩) (by assumption) ?r48
                              case y48 => (intro w hSw; (go_simp <;> first | with_reducible rfl | (rw [if_pos (by omega)] <;> with_reducible rfl)))
                              try simp only [Act.put, List.getElem_toArray, List.getElem_cons_zero, List.getElem_cons_succ, List.setIfInBounds_toArray, List.set_cons_zero, List.set_cons_succ]
                              refine wpAnyH_ready (rs := [2]) (by kernel_rfl) (by simp) ?_
                              refine AllReadyH.cons rfl (fun K hK => ?_) AllReadyH.nil
                              rw [if_pos (by rfl)]
                              go_simp
                              go_at_call 22
                              refine (HA.out _).mono ?_
                              rintro e wn ⟨rfl, hb⟩
                              refine hK.out _ _ (bthen hHeld hb) (fun hHeld => ?_)
                              clear hK K
                              try simp only [Act.put, List.getElem_toArray, List.getElem_cons_zero, List.getElem_cons_succ, List.setIfInBounds_toArray, List.set_cons_zero, List.set_cons_succ]
                              refine wpAnyH_take (i := 7) (v := ?v49) rfl (by kernel_rfl) (by kernel_rfl) (by kernel_rfl) (fun _ _ _ h => h) (Or.inl ⟨by rfl, ?y49⟩) (by assumption) ?r49
                              case y49 => (intro w hSw; (go_simp <;> first | with_reducible rfl | (rw [if_pos (by omega)] <;> with_reducible rfl)))
                              try simp only [Act.put, List.getElem_toArray, List.getElem_cons_zero, List.getElem_cons_succ, List.setIfInBounds_toArray, List.set_cons_zero, List.set_cons_succ]
                              refine wpAnyH_take (i := 8) (v := ?v50) rfl (by kernel_rfl) (by kernel_rfl) (by kernel_rfl) (fun _ _ _ h => h) (Or.inl ⟨by rfl, ?y50⟩) (by assumption) ?r50
                              case y50 => (intro w hSw; (go_simp <;> first | with_reducible rfl | (rw [if_pos (by omega)] <;> with_reducible rfl)))
                              try simp only [Act.put, List.getElem_toArray, List.getElem_cons_zero, List.getElem_cons_succ, List.setIfInBounds_toArray, List.set_cons_zero, List.set_cons_succ]
                              refine wpAnyH_take (i := 9) (v := ?v51) rfl (by kernel_rfl) (by kernel_rfl) (by kernel_rfl) (fun _ _ _ h => h) (Or.inl ⟨by rfl, ?y51⟩) (by assumption) ?r51
                              case y51 => (intro w hSw; (go_simp <;> first | with_reducible rfl | (rw [if_pos (by omega)] <;> with_reducible rfl)))
                              try simp only [Act.put, List.getElem_toArray, List.getElem_cons_zero, List.getElem_cons_succ, List.setIfInBounds_toArray, List.set_cons_zero, List.set_cons_succ]
                              refine wpAnyH_take (i := 10) (v := ?v52) rfl (by kernel_rfl) (by kernel_rfl) (by kernel_rfl) (fun _ _ _ h => h) (Or.inl ⟨by rfl, ?y52⟩) (by assumption) ?r52
                              case y52 => (intro w hSw; have cj2 := (hSw.cell (p := ⟨q, j, none⟩) I8.out.arr.lt).trans cj; (go_simp <;> first | with_reducible rfl | (rw [if_pos (by omega)] <;> with_reducible rfl)))
                              try simp only [Act.put, List.getElem_toArray, List.getElem_cons_zero, List.getElem_cons_succ, List.setIfInBounds_toArray, List.set_cons_zero, List.set_cons_succ]
                              refine wpAnyH_take (i := 11) (v := ?v53) rfl (by kernel_rfl) (by kernel_rfl) (by kernel_rfl) (fun _ _ _ h => h) (Or.inl ⟨by rfl, ?y53⟩) (by assumption) ?r53
                              case y53 => (intro w hSw; (go_simp <;> first | with_reducible rfl | (rw [if_pos (by omega)] <;> with_reducible rfl)))
                              try simp only [Act.put, List.getElem_toArray, List.getElem_cons_zero, List.getElem_cons_succ, List.setIfInBounds_toArray, List.set_cons_zero, List.set_cons_succ]
                              refine wpAnyH_take (i := 12) (v := ?v54) rfl (by kernel_rfl) (by kernel_rfl) (by kernel_rfl) (fun _ _ _ h => h) (Or.inl ⟨by rfl, ?y54⟩) (by assumption) ?r54
                              case y54 => (intro w hSw; (go_simp <;> first | with_reducible rfl | (rw [if_pos (by omega)] <;> with_reducible rfl)))
                              try simp only [Act.put, List.getElem_toArray, List.getElem_cons_zero, List.getElem_cons_succ, List.setIfInBounds_toArray, List.set_cons_zero, List.set_cons_succ]
                              refine wpAnyH_take (i := 13) (v := ?v55) rfl (by kernel_rfl) (by kernel_rfl) (by kernel_rfl) (fun _ _ _ h => h) (Or.inl ⟨by rfl, ?y55⟩) (by assumption) ?r55
                              case y55 => (intro w hSw; (go_simp <;> first | with_reducible rfl | (rw [if_pos (by omega)] <;> with_reducible rfl)))
                              try simp only [Act.put, List.getElem_toArray, List.getElem_cons_zero, List.getElem_cons_succ, List.setIfInBounds_toArray, List.set_cons_zero, List.set_cons_succ]
                              refine wpAnyH_take (i := 14) (v := ?v56) rfl (by kernel_rfl) (by kernel_rfl) (by kernel_rfl) (fun _ _ _ h => h) (Or.inl ⟨by rfl, ?y56⟩) (by assumption) ?r56
                              case y56 => (intro w hSw; (go_simp <;> first | with_reducible rfl | (rw [if_pos (by omega)] <;> with_reducible rfl)))
                              try simp only [Act.put, List.getElem_toArray, List.getElem_cons_zero, List.getElem_cons_succ, List.setIfInBounds_toArray, List.set_cons_zero, List.set_cons_succ]
                              refine wpAnyH_take (i := 15) (v := ?v57) rfl (by kernel_rfl) (by kernel_rfl) (by kernel_rfl) (fun _ _ _ h => h) (Or.inl ⟨by rfl, ?y57⟩) (by assumption) ?r57
                              case y57 => (intro w hSw; (go_simp <;> first | with_reducible rfl | (rw [if_pos (by omega)] <;> with_reducible rfl)))
                              try simp only [Act.put, List.getElem_toArray, List.getElem_cons_zero, List.getElem_cons_succ, List.setIfInBounds_toArray, List.set_cons_zero, List.set_cons_succ]
                              refine wpAnyH_take (i := 16) (v := ?v58) rfl (by kernel_rfl) (by kernel_rfl) (by kernel_rfl) (fun _ _ _ h => h) (Or.inl ⟨by rfl, ?y58⟩) (by assumption) ?r58
                              case y58 => (intro w hSw; (go_simp <;> first | with_reducible rfl | (rw [if_pos (by omega)] <;> with_reducible rfl)))
                              try simp only [Act.put, List.getElem_toArray, List.getElem_cons_zero, List.getElem_cons_succ, List.setIfInBounds_toArray, List.set_cons_zero, List.set_cons_succ]
                              refine wpAnyH_take (i := 17) (v := ?v59) rfl (by kernel_rfl) (by kernel_rfl) (by kernel_rfl) (fun _ _ _ h => h) (Or.inl ⟨by rfl, ?y59⟩) (by assumption) ?r59
                              case y59 => (intro w hSw; (go_simp <;> first | with_reducible rfl | (rw [if_pos (by omega)] <;> with_reducible rfl)))
                              try simp only [Act.put, List.getElem_toArray, List.getElem_cons_zero, List.getElem_cons_succ, List.setIfInBounds_toArray, List.set_cons_zero, List.set_cons_succ]
                              refine wpAnyH_done (by kernel_rfl) ?_ _
                              go_wp2_with fail
                              go_roundw
                              case rel => exact ⟨j + 1, by omega, by go_num, I8.out.grow hHeld, VT.out.grow hHeld, VA.out.grow hHeld, VS.out.grow hHeld⟩
                              case measure => simp [intOf]; omega

                            · have byk : (y == 16 * (s : Int) + k) = false := by simpa using hyk
                              rw [decide_eq_false hy0, decide_eq_false hyk, Bool.not_false, Bool.and_false] at HA
                              clear hy0 hyk
                              go_wp2_with fail
                              refine wp_region_held_drew (S := fun W => Below wr.heap.size wr W) (by kernel_rfl) ?_ (fun hHeld => ?_)
                              · exact (bref wr).drew
                              refine wpAnyH_take (i := 0) (v := ?v60) rfl (by kernel_rfl) (by kernel_rfl) (by kernel_rfl) (fun _ _ _ h => h) (Or.inl ⟨by rfl, ?y60⟩) (by assumption) ?r60
                              case y60 => (intro w hSw; have s0 := (VS.out.grow hSw).lo; have s1 := (VS.out.grow hSw).hi; (go_simp <;> first | with_reducible rfl | (rw [if_pos (by omega)] <;> with_reducible rfl)))
                              try simp only [Act.put, List.getElem_toArray, List.getElem_cons_zero, List.getElem_cons_succ, List.setIfInBounds_toArray, List.set_cons_zero, List.set_cons_succ]
                              refine wpAnyH_take (i := 1) (v := ?v61) rfl (by kernel_rfl) (by kernel_rfl) (by kernel_rfl) (fun _ _ _ h => h) (Or.inl ⟨by rfl, ?y61⟩) (by assumption) ?r61
                              case y61 => (intro w hSw; (go_simp <;> first | with_reducible rfl | (rw [if_pos (by omega)] <;> with_reducible rfl)))
                              try simp only [Act.put, List.getElem_toArray, List.getElem_cons_zero, List.getElem_cons_succ, List.setIfInBounds_toArray, List.set_cons_zero, List.set_cons_succ]
                              refine wpAnyH_take (i := 3) (v := ?v62) rfl (by kernel_rfl) (by kernel_rfl) (by kernel_rfl) (fun _ _ _ h => h) (Or.inl ⟨by rfl, ?y62⟩) (by assumption) ?r62
                              case y62 => (intro w hSw; (go_simp <;> first | with_reducible rfl | (rw [if_pos (by omega)] <;> with_reducible rfl)))
                              try simp only [Act.put, List.getElem_toArray, List.getElem_cons_zero, List.getElem_cons_succ, List.setIfInBounds_toArray, List.set_cons_zero, List.set_cons_succ]
                              refine wpAnyH_take (i := 4) (v := ?v63) rfl (by kernel_rfl) (by kernel_rfl) (by kernel_rfl) (fun _ _ _ h => h) (Or.inl ⟨by rfl, ?y63⟩) (by assumption) ?r63
                              case y63 => (intro w hSw; (go_simp <;> first | with_reducible rfl | (rw [if_pos (by omega)] <;> with_reducible rfl)))
                              try simp only [Act.put, List.getElem_toArray, List.getElem_cons_zero, List.getElem_cons_succ, List.setIfInBounds_toArray, List.set_cons_zero, List.set_cons_succ]
                              refine wpAnyH_take (i := 5) (v := ?v64) rfl (by kernel_rfl) (by kernel_rfl) (by kernel_rfl) (fun _ _ _ h => h) (Or.inl ⟨by rfl, ?y64⟩) (by assumption) ?r64
                              case y64 => (intro w hSw; have cj2 := (hSw.cell (p := ⟨q, j, none⟩) I8.out.arr.lt).trans cj; (go_simp <;> first | with_reducible rfl | (rw [if_pos (by omega)] <;> with_reducible rfl)))
                              try simp only [Act.put, List.getElem_toArray, List.getElem_cons_zero, List.getElem_cons_succ, List.setIfInBounds_toArray, List.set_cons_zero, List.set_cons_succ]
                              refine wpAnyH_take (i := 6) (v := ?v65) rfl (by kernel_rfl) (by kernel_rfl) (by kernel_rfl) (fun _ _ _ h => h) (Or.inl ⟨by rfl, ?y65⟩) (by assumption) ?r65
                              case y65 => (intro w hSw; (go_simp <;> first | with_reducible rfl | (rw [if_pos (by omega)] <;> with_reducible rfl)))
                              try simp only [Act.put, List.getElem_toArray, List.getElem_cons_zero, List.getElem_cons_succ, List.setIfInBounds_toArray, List.set_cons_zero, List.set_cons_succ]
                              refine wpAnyH_ready (rs := [2]) (by kernel_rfl) (by simp) ?_
                              refine AllReadyH.cons rfl (fun K hK => ?_) AllReadyH.nil
                              rw [if_pos (by rfl)]
                              go_simp
                              go_at_call 22
                              refine (HA.out _).mono ?_
                              rintro e wn ⟨rfl, hb⟩
                              refine hK.out _ _ (bthen hHeld hb) (fun hHeld => ?_)
                              clear hK K
                              try simp only [Act.put, List.getElem_toArray, List.getElem_cons_zero, List.getElem_cons_succ, List.setIfInBounds_toArray, List.set_cons_zero, List.set_cons_succ]
                              refine wpAnyH_take (i := 7) (v := ?v66) rfl (by kernel_rfl) (by kernel_rfl) (by kernel_rfl) (fun _ _ _ h => h) (Or.inl ⟨by rfl, ?y66⟩) (by assumption) ?r66
                              case y66 => (intro w hSw; (go_simp <;> first | with_reducible rfl | (rw [if_pos (by omega)] <;> with_reducible rfl)))
                              try simp only [Act.put, List.getElem_toArray, List.getElem_cons_zero, List.getElem_cons_succ, List.setIfInBounds_toArray, List.set_cons_zero, List.set_cons_succ]
                              refine wpAnyH_take (i := 8) (v := ?v67) rfl (by kernel_rfl) (by kernel_rfl) (by kernel_rfl) (fun _ _ _ h => h) (Or.inl ⟨by rfl, ?y67⟩) (by assumption) ?r67
                              case y67 => (intro w hSw; (go_simp <;> first | with_reducible rfl | (rw [if_pos (by omega)] <;> with_reducible rfl)))
                              try simp only [Act.put, List.getElem_toArray, List.getElem_cons_zero, List.getElem_cons_succ, List.setIfInBounds_toArray, List.set_cons_zero, List.set_cons_succ]
                              refine wpAnyH_take (i := 9) (v := ?v68) rfl (by kernel_rfl) (by kernel_rfl) (by kernel_rfl) (fun _ _ _ h => h) (Or.inl ⟨by rfl, ?y68⟩) (by assumption) ?r68
                              case y68 => (intro w hSw; (go_simp <;> first | with_reducible rfl | (rw [if_pos (by omega)] <;> with_reducible rfl)))
                              try simp only [Act.put, List.getElem_toArray, List.getElem_cons_zero, List.getElem_cons_succ, List.setIfInBounds_toArray, List.set_cons_zero, List.set_cons_succ]
                              refine wpAnyH_take (i := 10) (v := ?v69) rfl (by kernel_rfl) (by kernel_rfl) (by kernel_rfl) (fun _ _ _ h => h) (Or.inl ⟨by rfl, ?y69⟩) (by assumption) ?r69
                              case y69 => (intro w hSw; have cj2 := (hSw.cell (p := ⟨q, j, none⟩) I8.out.arr.lt).trans cj; (go_simp <;> first | with_reducible rfl | (rw [if_pos (by omega)] <;> with_reducible rfl)))
                              try simp only [Act.put, List.getElem_toArray, List.getElem_cons_zero, List.getElem_cons_succ, List.setIfInBounds_toArray, List.set_cons_zero, List.set_cons_succ]
                              refine wpAnyH_take (i := 11) (v := ?v70) rfl (by kernel_rfl) (by kernel_rfl) (by kernel_rfl) (fun _ _ _ h => h) (Or.inl ⟨by rfl, ?y70⟩) (by assumption) ?r70
                              case y70 => (intro w hSw; (go_simp <;> first | with_reducible rfl | (rw [if_pos (by omega)] <;> with_reducible rfl)))
                              try simp only [Act.put, List.getElem_toArray, List.getElem_cons_zero, List.getElem_cons_succ, List.setIfInBounds_toArray, List.set_cons_zero, List.set_cons_succ]
                              refine wpAnyH_take (i := 12) (v := ?v71) rfl (by kernel_rfl) (by kernel_rfl) (by kernel_rfl) (fun _ _ _ h => h) (Or.inl ⟨by rfl, ?y71⟩) (by assumption) ?r71
                              case y71 => (intro w hSw; (go_simp <;> first | with_reducible rfl | (rw [if_pos (by omega)] <;> with_reducible rfl)))
                              try simp only [Act.put, List.getElem_toArray, List.getElem_cons_zero, List.getElem_cons_succ, List.setIfInBounds_toArray, List.set_cons_zero, List.set_cons_succ]
                              refine wpAnyH_take (i := 13) (v := ?v72) rfl (by kernel_rfl) (by kernel_rfl) (by kernel_rfl) (fun _ _ _ h => h) (Or.inl ⟨by rfl, ?y72⟩) (by assumption) ?r72
                              case y72 => (intro w hSw; (go_simp <;> first | with_reducible rfl | (rw [if_pos (by omega)] <;> with_reducible rfl)))
                              try simp only [Act.put, List.getElem_toArray, List.getElem_cons_zero, List.getElem_cons_succ, List.setIfInBounds_toArray, List.set_cons_zero, List.set_cons_succ]
                              refine wpAnyH_take (i := 14) (v := ?v73) rfl (by kernel_rfl) (by kernel_rfl) (by kernel_rfl) (fun _ _ _ h => h) (Or.inl ⟨by rfl, ?y73⟩) (by assumption) ?r73
                              case y73 => (intro w hSw; (go_simp <;> first | with_reducible rfl | (rw [if_pos (by omega)] <;> with_reducible rfl)))
                              try simp only [Act.put, List.getElem_toArray, List.getElem_cons_zero, List.getElem_cons_succ, List.setIfInBounds_toArray, List.set_cons_zero, List.set_cons_succ]
                              refine wpAnyH_take (i := 15) (v := ?v74) rfl (by kernel_rfl) (by kernel_rfl) (by kernel_rfl) (fun _ _ _ h => h) (Or.inl ⟨by rfl, ?y74⟩) (by assumption) ?r74
                              case y74 => (intro w hSw; (go_simp <;> first | with_reducible rfl | (rw [if_pos (by omega)] <;> with_reducible rfl)))
                              try simp only [Act.put, List.getElem_toArray, List.getElem_cons_zero, List.getElem_cons_succ, List.setIfInBounds_toArray, List.set_cons_zero, List.set_cons_succ]
                              refine wpAnyH_take (i := 16) (v := ?v75) rfl (by kernel_rfl) (by kernel_rfl) (by kernel_rfl) (fun _ _ _ h => h) (Or.inl ⟨by rfl, ?y75⟩) (by assumption) ?r75
                              case y75 => (intro w hSw; (go_simp <;> first | with_reducible rfl | (rw [if_pos (by omega)] <;> with_reducible rfl)))
                              try simp only [Act.put, List.getElem_toArray, List.getElem_cons_zero, List.getElem_cons_succ, List.setIfInBounds_toArray, List.set_cons_zero, List.set_cons_succ]
                              refine wpAnyH_take (i := 17) (v := ?v76) rfl (by kernel_rfl) (by kernel_rfl) (by kernel_rfl) (fun _ _ _ h => h) (Or.inl ⟨by rfl, ?y76⟩) (by assumption) ?r76
                              case y76 => (intro w hSw; (go_simp <;> first | with_reducible rfl | (rw [if_pos (by omega)] <;> with_reducible rfl)))
                              try simp only [Act.put, List.getElem_toArray, List.getElem_cons_zero, List.getElem_cons_succ, List.setIfInBounds_toArray, List.set_cons_zero, List.set_cons_succ]
                              refine wpAnyH_done (by kernel_rfl) ?_ _
                              go_wp2_with fail
                              go_roundw
                              case rel => exact ⟨j + 1, by omega, by go_num, I8.out.grow hHeld, VT.out.grow hHeld, VA.out.grow hHeld, VS.out.grow hHeld⟩
                              case measure => simp [intOf]; omega

                        · obtain rfl : j = 81 := by omega
                          go_wp2_with fail
                          go_meet
                          exact ⟨I8.out, VT.out, VA.out, VS.out⟩

                    case rest =>
                      obtain ⟨hI, hV, hA, hS⟩ := hcut
                      have I9 := Lib.hid hI
                      have V8 := Lib.hid hV
                      have A8 := Lib.hid hA
                      have S8 := Lib.hid hS
                      clear hI hV hA hS
                      generalize wc = we at *
                      by_cases h8k : k = 8
                      · have hkf := HKF.out h8k
                        rw [hkf] at KI
                        have b8 : ((k : Int) == 8) = true := by rw [h8k]; rfl
                        have bf : (fs != fs) = false := by simp
                        clear h8k hkf
                        go_wp2_with fail
                        refine wp_region_held_drew (S := fun W => Below we.heap.size we W) (by kernel_rfl) ?_ (fun hHeld => ?_)
                        · exact (bref we).drew
                        refine wpAnyH_take (i := 0) (v := ?v22) rfl (by kernel_rfl) (by kernel_rfl) (by kernel_rfl) (fun _ _ _ h => h) (Or.inl ⟨by rfl, ?y22⟩) (by assumption) ?r22
                        case y22 => (intro w hSw; (go_simp <;> first | with_reducible rfl | (rw [if_pos (by omega)] <;> with_reducible rfl)))
                        try simp only [Act.put, List.getElem_toArray, List.getElem_cons_zero, List.getElem_cons_succ, List.setIfInBounds_toArray, List.set_cons_zero, List.set_cons_succ]
                        refine wpAnyH_take (i := 1) (v := ?v23) rfl (by kernel_rfl) (by kernel_rfl) (by kernel_rfl) (fun _ _ _ h => h) (Or.inl ⟨by rfl, ?y23⟩) (by assumption) ?r23
                        case y23 => (intro w hSw; (go_simp <;> first | with_reducible rfl | (rw [if_pos (by omega)] <;> with_reducible rfl)))
                        try simp only [Act.put, List.getElem_toArray, List.getElem_cons_zero, List.getElem_cons_succ, List.setIfInBounds_toArray, List.set_cons_zero, List.set_cons_succ]
                        refine wpAnyH_take (i := 2) (v := ?v24) rfl (by kernel_rfl) (by kernel_rfl) (by kernel_rfl) (fun _ _ _ h => h) (Or.inl ⟨by rfl, ?y24⟩) (by assumption) ?r24
                        case y24 => (intro w hSw; (go_simp <;> first | with_reducible rfl | (rw [if_pos (by omega)] <;> with_reducible rfl)))
                        try simp only [Act.put, List.getElem_toArray, List.getElem_cons_zero, List.getElem_cons_succ, List.setIfInBounds_toArray, List.set_cons_zero, List.set_cons_succ]
                        refine wpAnyH_take (i := 3) (v := ?v25) rfl (by kernel_rfl) (by kernel_rfl) (by kernel_rfl) (fun _ _ _ h => h) (Or.inl ⟨by rfl, ?y25⟩) (by assumption) ?r25
                        case y25 => (intro w hSw; (go_simp <;> first | with_reducible rfl | (rw [if_pos (by omega)] <;> with_reducible rfl)))
                        try simp only [Act.put, List.getElem_toArray, List.getElem_cons_zero, List.getElem_cons_succ, List.setIfInBounds_toArray, List.set_cons_zero, List.set_cons_succ]
                        refine wpAnyH_take (i := 4) (v := ?v26) rfl (by kernel_rfl) (by kernel_rfl) (by kernel_rfl) (fun _ _ _ h => h) (Or.inl ⟨by rfl, ?y26⟩) (by assumption) ?r26
                        case y26 => (intro w hSw; (go_simp <;> first | with_reducible rfl | (rw [if_pos (by omega)] <;> with_reducible rfl)))
                        try simp only [Act.put, List.getElem_toArray, List.getElem_cons_zero, List.getElem_cons_succ, List.setIfInBounds_toArray, List.set_cons_zero, List.set_cons_succ]
                        refine wpAnyH_take (i := 6) (v := ?v27) rfl (by kernel_rfl) (by kernel_rfl) (by kernel_rfl) (fun _ _ _ h => h) (Or.inl ⟨by rfl, ?y27⟩) (by assumption) ?r27
                        case y27 => (intro w hSw; have s0 := (S8.out.grow hSw).lo; have s1 := (S8.out.grow hSw).hi; (go_simp <;> first | with_reducible rfl | (rw [if_pos (by omega)] <;> with_reducible rfl)))
                        try simp only [Act.put, List.getElem_toArray, List.getElem_cons_zero, List.getElem_cons_succ, List.setIfInBounds_toArray, List.set_cons_zero, List.set_cons_succ]
                        refine wpAnyH_ready (rs := [5]) (by kernel_rfl) (by simp) ?_
                        refine AllReadyH.cons rfl (fun K hK => ?_) AllReadyH.nil
                        rw [if_pos (by rfl)]
                        go_simp
                        go_at_call 23
                        refine (KI.out _ (I9.out.grow hHeld).brd (HT.out.grow (bthen I9.out.low hHeld))).mono ?_
                        rintro e wn ⟨rfl, hb⟩
                        refine hK.out _ _ (bthen hHeld hb) (fun hHeld => ?_)
                        clear hK K
                        try simp only [Act.put, List.getElem_toArray, List.getElem_cons_zero, List.getElem_cons_succ, List.setIfInBounds_toArray, List.set_cons_zero, List.set_cons_succ]
                        refine wpAnyH_ready (rs := [7]) (by kernel_rfl) (by simp) ?_
                        refine AllReadyH.cons rfl (fun K hK => ?_) AllReadyH.nil
                        rw [if_pos (by rfl)]
                        go_simp
                        go_at_call 24
                        refine (FI.out _ (HT.out.grow (bthen I9.out.low hHeld))).mono ?_
                        rintro e wn ⟨rfl, hb⟩
                        refine hK.out _ _ (bthen hHeld hb) (fun hHeld => ?_)
                        clear hK K
                        try simp only [Act.put, List.getElem_toArray, List.getElem_cons_zero, List.getElem_cons_succ, List.setIfInBounds_toArray, List.set_cons_zero, List.set_cons_succ]
                        refine wpAnyH_take (i := 8) (v := ?v28) rfl (by kernel_rfl) (by kernel_rfl) (by kernel_rfl) (fun _ _ _ h => h) (Or.inl ⟨by rfl, ?y28⟩) (by assumption) ?r28
                        case y28 => (intro w hSw; (go_simp <;> first | with_reducible rfl | (rw [if_pos (by omega)] <;> with_reducible rfl)))
                        try simp only [Act.put, List.getElem_toArray, List.getElem_cons_zero, List.getElem_cons_succ, List.setIfInBounds_toArray, List.set_cons_zero, List.set_cons_succ]
                        refine wpAnyH_take (i := 9) (v := ?v29) rfl (by kernel_rfl) (by kernel_rfl) (by kernel_rfl) (fun _ _ _ h => h) (Or.inl ⟨by rfl, ?y29⟩) (by assumption) ?r29
                        case y29 => (intro w hSw; (go_simp <;> first | with_reducible rfl | (rw [if_pos (by omega)] <;> with_reducible rfl)))
                        try simp only [Act.put, List.getElem_toArray, List.getElem_cons_zero, List.getElem_cons_succ, List.setIfInBounds_toArray, List.set_cons_zero, List.set_cons_succ]
                        refine wpAnyH_done (by kernel_rfl) ?_ _
                        have I10 := Lib.hid (I9.out.grow hHeld)
                        have VT10 := Lib.hid (V8.out.grow hHeld)
                        have VA10 := Lib.hid (A8.out.grow hHeld)
                        have VS10 := Lib.hid (S8.out.grow hHeld)
                        have a0 := VA10.out.lo
                        have a1 := VA10.out.hi
                        have a2 := VA10.out.f0
                        have a3 := VA10.out.f1
                        have s0 := VS10.out.lo
                        have s1 := VS10.out.hi
                        go_wp2_with (first
                          | (go_at_call 25; refine (OR.out _).mono ?_; rintro e w9 ⟨rfl, hb⟩; have I11 := Lib.hid (I10.out.grow hb); have VT11 := Lib.hid (VT10.out.grow hb); have VA11 := Lib.hid (VA10.out.grow hb); clear a0 a1 a2 a3 s0 s1 hb; have a0 := VA11.out.lo; have a1 := VA11.out.hi; have a2 := VA11.out.f0; have a3 := VA11.out.f1)
                          | fail)
                        go_roundw
                        case rel => exact ⟨k + 1, by omega, by omega, by go_num, (I11.out.other TA.out.1 TA.out.2.1 TA.out.2.2.1 0 _).other TA.out.1 TA.out.2.1 TA.out.2.2.1 1 _, VT11.out.other (Ne.symm TA.out.2.2.2) _ _, VA11.out.put _ _⟩
                        case measure => simp [intOf]; omega

                      · have b8 : ((k : Int) == 8) = false := by simp; omega
                        go_wp2_with fail
                        refine wp_region_held_drew (S := fun W => Below we.heap.size we W) (by kernel_rfl) ?_ (fun hHeld => ?_)
                        · exact (bref we).drew
                        refine wpAnyH_take (i := 0) (v := ?v30) rfl (by kernel_rfl) (by kernel_rfl) (by kernel_rfl) (fun _ _ _ h => h) (Or.inl ⟨by rfl, ?y30⟩) (by assumption) ?r30
                        case y30 => (intro w hSw; (go_simp <;> first | with_reducible rfl | (rw [if_pos (by omega)] <;> with_reducible rfl)))
                        try simp only [Act.put, List.getElem_toArray, List.getElem_cons_zero, List.getElem_cons_succ, List.setIfInBounds_toArray, List.set_cons_zero, List.set_cons_succ]
                        refine wpAnyH_take (i := 1) (v := ?v31) rfl (by kernel_rfl) (by kernel_rfl) (by kernel_rfl) (fun _ _ _ h => h) (Or.inl ⟨by rfl, ?y31⟩) (by assumption) ?r31
                        case y31 => (intro w hSw; (go_simp <;> first | with_reducible rfl | (rw [if_pos (by omega)] <;> with_reducible rfl)))
                        try simp only [Act.put, List.getElem_toArray, List.getElem_cons_zero, List.getElem_cons_succ, List.setIfInBounds_toArray, List.set_cons_zero, List.set_cons_succ]
                        refine wpAnyH_take (i := 2) (v := ?v32) rfl (by kernel_rfl) (by kernel_rfl) (by kernel_rfl) (fun _ _ _ h => h) (Or.inl ⟨by rfl, ?y32⟩) (by assumption) ?r32
                        case y32 => (intro w hSw; (go_simp <;> first | with_reducible rfl | (rw [if_pos (by omega)] <;> with_reducible rfl)))
                        try simp only [Act.put, List.getElem_toArray, List.getElem_cons_zero, List.getElem_cons_succ, List.setIfInBounds_toArray, List.set_cons_zero, List.set_cons_succ]
                        refine wpAnyH_take (i := 3) (v := undef) rfl (by kernel_rfl) (by kernel_rfl) (by kernel_rfl) (fun _ _ _ h => h) (Or.inr ⟨by rfl, rfl⟩) (by assumption) ?_
                        try simp only [Act.put, List.getElem_toArray, List.getElem_cons_zero, List.getElem_cons_succ, List.setIfInBounds_toArray, List.set_cons_zero, List.set_cons_succ]
                        refine wpAnyH_take (i := 4) (v := undef) rfl (by kernel_rfl) (by kernel_rfl) (by kernel_rfl) (fun _ _ _ h => h) (Or.inr ⟨by rfl, rfl⟩) (by assumption) ?_
                        try simp only [Act.put, List.getElem_toArray, List.getElem_cons_zero, List.getElem_cons_succ, List.setIfInBounds_toArray, List.set_cons_zero, List.set_cons_succ]
                        refine wpAnyH_take (i := 5) (v := undef) rfl (by kernel_rfl) (by kernel_rfl) (by kernel_rfl) (fun _ _ _ h => h) (Or.inr ⟨by rfl, rfl⟩) (by assumption) ?_
                        try simp only [Act.put, List.getElem_toArray, List.getElem_cons_zero, List.getElem_cons_succ, List.setIfInBounds_toArray, List.set_cons_zero, List.set_cons_succ]
                        refine wpAnyH_take (i := 6) (v := undef) rfl (by kernel_rfl) (by kernel_rfl) (by kernel_rfl) (fun _ _ _ h => h) (Or.inr ⟨by rfl, rfl⟩) (by assumption) ?_
                        try simp only [Act.put, List.getElem_toArray, List.getElem_cons_zero, List.getElem_cons_succ, List.setIfInBounds_toArray, List.set_cons_zero, List.set_cons_succ]
                        refine wpAnyH_take (i := 7) (v := undef) rfl (by kernel_rfl) (by kernel_rfl) (by kernel_rfl) (fun _ _ _ h => h) (Or.inr ⟨by rfl, rfl⟩) (by assumption) ?_
                        try simp only [Act.put, List.getElem_toArray, List.getElem_cons_zero, List.getElem_cons_succ, List.setIfInBounds_toArray, List.set_cons_zero, List.set_cons_succ]
                        refine wpAnyH_take (i := 8) (v := undef) rfl (by kernel_rfl) (by kernel_rfl) (by kernel_rfl) (fun _ _ _ h => h) (Or.inr ⟨by rfl, rfl⟩) (by assumption) ?_
                        try simp only [Act.put, List.getElem_toArray, List.getElem_cons_zero, List.getElem_cons_succ, List.setIfInBounds_toArray, List.set_cons_zero, List.set_cons_succ]
                        refine wpAnyH_take (i := 9) (v := ?v33) rfl (by kernel_rfl) (by kernel_rfl) (by kernel_rfl) (fun _ _ _ h => h) (Or.inl ⟨by rfl, ?y33⟩) (by assumption) ?r33
                        case y33 => (intro w hSw; (go_simp <;> first | with_reducible rfl | (rw [if_pos (by omega)] <;> with_reducible rfl)))
                        try simp only [Act.put, List.getElem_toArray, List.getElem_cons_zero, List.getElem_cons_succ, List.setIfInBounds_toArray, List.set_cons_zero, List.set_cons_succ]
                        refine wpAnyH_done (by kernel_rfl) ?_ _
                        have I10 := Lib.hid (I9.out.grow hHeld)
                        have VT10 := Lib.hid (V8.out.grow hHeld)
                        have VA10 := Lib.hid (A8.out.grow hHeld)
                        have VS10 := Lib.hid (S8.out.grow hHeld)
                        have a0 := VA10.out.lo
                        have a1 := VA10.out.hi
                        have a2 := VA10.out.f0
                        have a3 := VA10.out.f1
                        have s0 := VS10.out.lo
                        have s1 := VS10.out.hi
                        go_wp2_with (first
                          | (go_at_call 25; refine (OR.out _).mono ?_; rintro e w9 ⟨rfl, hb⟩; have I11 := Lib.hid (I10.out.grow hb); have VT11 := Lib.hid (VT10.out.grow hb); have VA11 := Lib.hid (VA10.out.grow hb); clear a0 a1 a2 a3 s0 s1 hb; have a0 := VA11.out.lo; have a1 := VA11.out.hi; have a2 := VA11.out.f0; have a3 := VA11.out.f1)
                          | fail)
                        go_roundw
                        case rel => exact ⟨k + 1, by omega, by omega, by go_num, (I11.out.other TA.out.1 TA.out.2.1 TA.out.2.2.1 0 _).other TA.out.1 TA.out.2.1 TA.out.2.2.1 1 _, VT11.out.other (Ne.symm TA.out.2.2.2) _ _, VA11.out.put _ _⟩
                        case measure => simp [intOf]; omega


                  · obtain rfl : k = 16 := by omega
                    go_wp2_with fail
                    go_meet
                    exact ⟨I7.out, V7.out, A7.out⟩

              case rest =>
                obtain ⟨hI, hV, hA⟩ := hcut
                rw [allN_all zz K2.out.i8 s hs2] at hA
                have I9 := Lib.hid hI
                have V9 := Lib.hid hV
                have A9 := Lib.hid hA
                have PI := Lib.hid (fun W (h : Brd W b zz) => pieces_brd b zz s K2.out.len W h)
                rw [if_pos (by omega)] at PI
                generalize loW (sideN zz s) = al at A9 PI
                generalize hiW (sideN zz s) = ah at A9 PI
                clear hI hV hA
                go_wp2_with fail
                refine wp_region_held_drew (S := fun W => Below wc.heap.size wc W) (by kernel_rfl) ?_ (fun hHeld => ?_)
                · exact (bref wc).drew
                refine wpAnyH_take (i := 0) (v := ?v77) rfl (by kernel_rfl) (by kernel_rfl) (by kernel_rfl) (fun _ _ _ h => h) (Or.inl ⟨by rfl, ?y77⟩) (by assumption) ?r77
                case y77 => (intro w hSw; (go_simp <;> first | with_reducible rfl | (rw [if_pos (by omega)] <;> with_reducible rfl)))
                try simp only [Act.put, List.getElem_toArray, List.getElem_cons_zero, List.getElem_cons_succ, List.setIfInBounds_toArray, List.set_cons_zero, List.set_cons_succ]
                refine wpAnyH_take (i := 1) (v := ?v78) rfl (by kernel_rfl) (by kernel_rfl) (by kernel_rfl) (fun _ _ _ h => h) (Or.inl ⟨by rfl, ?y78⟩) (by assumption) ?r78
                case y78 => (intro w hSw; (go_simp <;> first | with_reducible rfl | (rw [if_pos (by omega)] <;> with_reducible rfl)))
                try simp only [Act.put, List.getElem_toArray, List.getElem_cons_zero, List.getElem_cons_succ, List.setIfInBounds_toArray, List.set_cons_zero, List.set_cons_succ]
                refine wpAnyH_take (i := 3) (v := ?v79) rfl (by kernel_rfl) (by kernel_rfl) (by kernel_rfl) (fun _ _ _ h => h) (Or.inl ⟨by rfl, ?y79⟩) (by assumption) ?r79
                case y79 => (intro w hSw; have a0 := (A9.out.grow hSw).lo; have a1 := (A9.out.grow hSw).hi; (go_simp <;> first | with_reducible rfl | (rw [if_pos (by omega)] <;> with_reducible rfl)))
                try simp only [Act.put, List.getElem_toArray, List.getElem_cons_zero, List.getElem_cons_succ, List.setIfInBounds_toArray, List.set_cons_zero, List.set_cons_succ]
                refine wpAnyH_ready (rs := [2]) (by kernel_rfl) (by simp) ?_
                refine AllReadyH.cons rfl (fun K hK => ?_) AllReadyH.nil
                rw [if_pos (by rfl)]
                go_simp
                go_at_call 26
                refine (PI.out _ (I9.out.grow hHeld).brd).mono ?_
                rintro e wn ⟨rfl, hb⟩
                refine hK.out _ _ (bthen hHeld hb) (fun hHeld => ?_)
                clear hK K
                try simp only [Act.put, List.getElem_toArray, List.getElem_cons_zero, List.getElem_cons_succ, List.setIfInBounds_toArray, List.set_cons_zero, List.set_cons_succ]
                refine wpAnyH_take (i := 4) (v := ?v80) rfl (by kernel_rfl) (by kernel_rfl) (by kernel_rfl) (fun _ _ _ h => h) (Or.inl ⟨by rfl, ?y80⟩) (by assumption) ?r80
                case y80 => (intro w hSw; (go_simp <;> first | with_reducible rfl | (rw [if_pos (by omega)] <;> with_reducible rfl)))
                try simp only [Act.put, List.getElem_toArray, List.getElem_cons_zero, List.getElem_cons_succ, List.setIfInBounds_toArray, List.set_cons_zero, List.set_cons_succ]
                refine wpAnyH_done (by kernel_rfl) ?_ _
                have I12 := Lib.hid (I9.out.grow hHeld)
                have V12 := Lib.hid (V9.out.grow hHeld)
                go_wp2_with fail
                go_roundw
                case rel => exact ⟨s + 1, by omega, by go_num, I12.out, V12.out⟩
                case measure => simp [intOf]; omega

            · obtain rfl : s = 2 := by omega
              go_wp2_with fail
              go_meet
              exact ⟨I5.out, V5.out⟩
        case rest =>
          obtain ⟨hI, hV⟩ := hcut
          have I9 := Lib.hid hI
          have V9 := Lib.hid hV
          clear hI hV
          have hhd := kept_hands K2.out HZ.out
          have HRB := fun W (h : Brd W b zz) => hands_rangeB h K2.out.len
          rw [hhd] at HRB
          have HRB := Lib.hid HRB
          have HRP := Lib.hid (fun W (h : PosAt W w.heap.size z) => hands_range h HZ.out)
          have hhl := hz_len z HZ.out
          have HIH := Lib.hid (show (Tryd.prog.info? 26).map (·.size) = some (posC (hz z)).length by rw [posC_len, hhl]; exact infoH16)
          have EQ := hands_self (hz z) hhl
          have c97b := BrdAt.cell I9.out.brd K2.out.len 97 (by omega)
          rw [K2.out.rest 97 (by omega) (by omega)] at c97b
          have c97p := I9.out.pos.cell 97 (by rw [HZ.out]; omega)
          have C97 := Lib.hid (fun W (h : Below wc.heap.size wc W) => (h.cell (p := ⟨w.heap.size, 97, none⟩) I9.out.pos.lt).trans c97p)
          clear hhd hhl
          generalize hz z = hh at *
          generalize at8 z 97 = sd at c97b c97p C97
          have bs : (sd == sd) = true := by simp
          go_wp2_with fail
          refine wp_region_held_drew (S := fun W => Below wc.heap.size wc W) (by kernel_rfl) ?_ (fun hHeld => ?_)
          · exact (bref wc).drew
          refine wpAnyH_take (i := 0) (v := ?v81) rfl (by kernel_rfl) (by kernel_rfl) (by kernel_rfl) (fun _ _ _ h => h) (Or.inl ⟨by rfl, ?y81⟩) (by assumption) ?r81
          case y81 => (intro w hSw; (go_simp <;> first | with_reducible rfl | (rw [if_pos (by omega)] <;> with_reducible rfl)))
          try simp only [Act.put, List.getElem_toArray, List.getElem_cons_zero, List.getElem_cons_succ, List.setIfInBounds_toArray, List.set_cons_zero, List.set_cons_succ]
          refine wpAnyH_take (i := 2) (v := ?v82) rfl (by kernel_rfl) (by kernel_rfl) (by kernel_rfl) (fun _ _ _ h => h) (Or.inl ⟨by rfl, ?y82⟩) (by assumption) ?r82
          case y82 => (intro w hSw; have t0 := (V9.out.grow hSw).lo; have t1 := (V9.out.grow hSw).hi; (go_simp <;> first | with_reducible rfl | (rw [if_pos (by omega)] <;> with_reducible rfl)))
          try simp only [Act.put, List.getElem_toArray, List.getElem_cons_zero, List.getElem_cons_succ, List.setIfInBounds_toArray, List.set_cons_zero, List.set_cons_succ]
          refine wpAnyH_ready (rs := [1]) (by kernel_rfl) (by simp) ?_
          refine AllReadyH.cons rfl (fun K hK => ?_) AllReadyH.nil
          rw [if_pos (by rfl)]
          go_simp
          go_at_call 27
          refine (TK.out _ (I9.out.grow hHeld).brd).mono ?_
          rintro e wn ⟨rfl, hb⟩
          refine hK.out _ _ (bthen hHeld hb) (fun hHeld => ?_)
          clear hK K
          try simp only [Act.put, List.getElem_toArray, List.getElem_cons_zero, List.getElem_cons_succ, List.setIfInBounds_toArray, List.set_cons_zero, List.set_cons_succ]
          refine wpAnyH_take (i := 3) (v := ?v83) rfl (by kernel_rfl) (by kernel_rfl) (by kernel_rfl) (fun _ _ _ h => h) (Or.inl ⟨by rfl, ?y83⟩) (by assumption) ?r83
          case y83 => (intro w hSw; (go_simp <;> first | with_reducible rfl | (rw [if_pos (by omega)] <;> with_reducible rfl)))
          try simp only [Act.put, List.getElem_toArray, List.getElem_cons_zero, List.getElem_cons_succ, List.setIfInBounds_toArray, List.set_cons_zero, List.set_cons_succ]
          refine wpAnyH_take (i := 4) (v := ?v84) rfl (by kernel_rfl) (by kernel_rfl) (by kernel_rfl) (fun _ _ _ h => h) (Or.inl ⟨by rfl, ?y84⟩) (by assumption) ?r84
          case y84 => (intro w hSw; (go_simp <;> first | with_reducible rfl | (rw [if_pos (by omega)] <;> with_reducible rfl)))
          try simp only [Act.put, List.getElem_toArray, List.getElem_cons_zero, List.getElem_cons_succ, List.setIfInBounds_toArray, List.set_cons_zero, List.set_cons_succ]
          refine wpAnyH_take (i := 5) (v := ?v85) rfl (by kernel_rfl) (by kernel_rfl) (by kernel_rfl) (fun _ _ _ h => h) (Or.inl ⟨by rfl, ?y85⟩) (by assumption) ?r85
          case y85 => (intro w hSw; (go_simp <;> first | with_reducible rfl | (rw [if_pos (by omega)] <;> with_reducible rfl)))
          try simp only [Act.put, List.getElem_toArray, List.getElem_cons_zero, List.getElem_cons_succ, List.setIfInBounds_toArray, List.set_cons_zero, List.set_cons_succ]
          refine wpAnyH_take (i := 6) (v := ?v86) rfl (by kernel_rfl) (by kernel_rfl) (by kernel_rfl) (fun _ _ _ h => h) (Or.inl ⟨by rfl, ?y86⟩) (by assumption) ?r86
          case y86 => (intro w hSw; (go_simp <;> first | with_reducible rfl | (rw [if_pos (by omega)] <;> with_reducible rfl)))
          try simp only [Act.put, List.getElem_toArray, List.getElem_cons_zero, List.getElem_cons_succ, List.setIfInBounds_toArray, List.set_cons_zero, List.set_cons_succ]
          refine wpAnyH_take (i := 7) (v := ?v87) rfl (by kernel_rfl) (by kernel_rfl) (by kernel_rfl) (fun _ _ _ h => h) (Or.inl ⟨by rfl, ?y87⟩) (by assumption) ?r87
          case y87 => (intro w hSw; (go_simp <;> first | with_reducible rfl | (rw [if_pos (by omega)] <;> with_reducible rfl)))
          try simp only [Act.put, List.getElem_toArray, List.getElem_cons_zero, List.getElem_cons_succ, List.setIfInBounds_toArray, List.set_cons_zero, List.set_cons_succ]
          refine wpAnyH_take (i := 8) (v := ?v88) rfl (by kernel_rfl) (by kernel_rfl) (by kernel_rfl) (fun _ _ _ h => h) (Or.inl ⟨by rfl, ?y88⟩) (by assumption) ?r88
          case y88 => (intro w hSw; (go_simp <;> first | with_reducible rfl | (rw [if_pos (by omega)] <;> with_reducible rfl)))
          try simp only [Act.put, List.getElem_toArray, List.getElem_cons_zero, List.getElem_cons_succ, List.setIfInBounds_toArray, List.set_cons_zero, List.set_cons_succ]
          refine wpAnyH_take (i := 9) rfl (by kernel_rfl) (by kernel_rfl) (by kernel_rfl) (fun _ _ _ h => h) (yieldsIf_load_mid (by rfl) _ _ rfl _ _ rfl (posC hh) _ (fun w h => (HRB.out _ (I9.out.grow h).brd)) (Tryd.underlying26) rfl (HIH.out)) (by assumption) ?_
          try simp only [Act.put, List.getElem_toArray, List.getElem_cons_zero, List.getElem_cons_succ, List.setIfInBounds_toArray, List.set_cons_zero, List.set_cons_succ]
          refine wpAnyH_take (i := 10) (v := ?v89) rfl (by kernel_rfl) (by kernel_rfl) (by kernel_rfl) (fun _ _ _ h => h) (Or.inl ⟨by rfl, ?y89⟩) (by assumption) ?r89
          case y89 => (intro w hSw; (go_simp <;> first | with_reducible rfl | (rw [if_pos (by omega)] <;> with_reducible rfl)))
          try simp only [Act.put, List.getElem_toArray, List.getElem_cons_zero, List.getElem_cons_succ, List.setIfInBounds_toArray, List.set_cons_zero, List.set_cons_succ]
          refine wpAnyH_take (i := 11) rfl (by kernel_rfl) (by kernel_rfl) (by kernel_rfl) (fun _ _ _ h => h) (yieldsIf_load_mid (by rfl) _ _ rfl _ _ rfl (posC hh) _ (fun w h => (HRP.out _ (I9.out.grow h).pos)) (Tryd.underlying26) rfl (HIH.out)) (by assumption) ?_
          try simp only [Act.put, List.getElem_toArray, List.getElem_cons_zero, List.getElem_cons_succ, List.setIfInBounds_toArray, List.set_cons_zero, List.set_cons_succ]
          refine wpAnyH_take (i := 12) (v := ?v90) rfl (by kernel_rfl) (by kernel_rfl) (by kernel_rfl) (fun _ _ _ h => h) (Or.inl ⟨by rfl, ?y90⟩) (by assumption) ?r90
          case y90 => (intro w hSw; (go_simp <;> first | with_reducible rfl | (rw [if_pos (by omega)] <;> with_reducible rfl)))
          try simp only [Act.put, List.getElem_toArray, List.getElem_cons_zero, List.getElem_cons_succ, List.setIfInBounds_toArray, List.set_cons_zero, List.set_cons_succ]
          refine wpAnyH_take (i := 13) (v := ?v91) rfl (by kernel_rfl) (by kernel_rfl) (by kernel_rfl) (fun _ _ _ h => h) (Or.inl ⟨by rfl, ?y91⟩) (by assumption) ?r91
          case y91 => (intro w hSw; (go_simp <;> first | with_reducible rfl | (rw [if_pos (by omega)] <;> with_reducible rfl)))
          try simp only [Act.put, List.getElem_toArray, List.getElem_cons_zero, List.getElem_cons_succ, List.setIfInBounds_toArray, List.set_cons_zero, List.set_cons_succ]
          refine wpAnyH_take (i := 14) (v := ?v92) rfl (by kernel_rfl) (by kernel_rfl) (by kernel_rfl) (fun _ _ _ h => h) (Or.inl ⟨by rfl, ?y92⟩) (by assumption) ?r92
          case y92 => (intro w hSw; (go_simp <;> first | with_reducible rfl | (rw [if_pos (by omega)] <;> with_reducible rfl)))
          try simp only [Act.put, List.getElem_toArray, List.getElem_cons_zero, List.getElem_cons_succ, List.setIfInBounds_toArray, List.set_cons_zero, List.set_cons_succ]
          refine wpAnyH_take (i := 15) (v := ?v93) rfl (by kernel_rfl) (by kernel_rfl) (by kernel_rfl) (fun _ _ _ h => h) (Or.inl ⟨by rfl, ?y93⟩) (by assumption) ?r93
          case y93 => (intro w hSw; (go_simp <;> first | with_reducible rfl | (rw [if_pos (by omega)] <;> with_reducible rfl)))
          try simp only [Act.put, List.getElem_toArray, List.getElem_cons_zero, List.getElem_cons_succ, List.setIfInBounds_toArray, List.set_cons_zero, List.set_cons_succ]
          refine wpAnyH_take (i := 16) (v := ?v94) rfl (by kernel_rfl) (by kernel_rfl) (by kernel_rfl) (fun _ _ _ h => h) (Or.inl ⟨by rfl, ?y94⟩) (by assumption) ?r94
          case y94 => (intro w hSw; (go_simp <;> first | with_reducible rfl | (rw [if_pos (by omega)] <;> with_reducible rfl)))
          try simp only [Act.put, List.getElem_toArray, List.getElem_cons_zero, List.getElem_cons_succ, List.setIfInBounds_toArray, List.set_cons_zero, List.set_cons_succ]
          refine wpAnyH_take (i := 17) (v := ?v95) rfl (by kernel_rfl) (by kernel_rfl) (by kernel_rfl) (fun _ _ _ h => h) (Or.inl ⟨by rfl, ?y95⟩) (by assumption) ?r95
          case y95 => (intro w hSw; (go_simp <;> first | with_reducible rfl | (rw [if_pos (by omega)] <;> with_reducible rfl)))
          try simp only [Act.put, List.getElem_toArray, List.getElem_cons_zero, List.getElem_cons_succ, List.setIfInBounds_toArray, List.set_cons_zero, List.set_cons_succ]
          refine wpAnyH_take (i := 18) (v := ?v96) rfl (by kernel_rfl) (by kernel_rfl) (by kernel_rfl) (fun _ _ _ h => h) (Or.inl ⟨by rfl, ?y96⟩) (by assumption) ?r96
          case y96 => (intro w hSw; (go_simp <;> first | with_reducible rfl | (rw [if_pos (by omega)] <;> with_reducible rfl)))
          try simp only [Act.put, List.getElem_toArray, List.getElem_cons_zero, List.getElem_cons_succ, List.setIfInBounds_toArray, List.set_cons_zero, List.set_cons_succ]
          refine wpAnyH_take (i := 19) (v := ?v97) rfl (by kernel_rfl) (by kernel_rfl) (by kernel_rfl) (fun _ _ _ h => h) (Or.inl ⟨by rfl, ?y97⟩) (by assumption) ?r97
          case y97 => (intro w hSw; have c2 := (hSw.cell (p := ⟨b, 97, none⟩) I9.out.brd.lt).trans c97b; (go_simp <;> first | with_reducible rfl | (rw [if_pos (by omega)] <;> with_reducible rfl)))
          try simp only [Act.put, List.getElem_toArray, List.getElem_cons_zero, List.getElem_cons_succ, List.setIfInBounds_toArray, List.set_cons_zero, List.set_cons_succ]
          refine wpAnyH_take (i := 20) (v := ?v98) rfl (by kernel_rfl) (by kernel_rfl) (by kernel_rfl) (fun _ _ _ h => h) (Or.inl ⟨by rfl, ?y98⟩) (by assumption) ?r98
          case y98 => (intro w hSw; (go_simp <;> first | with_reducible rfl | (rw [if_pos (by omega)] <;> with_reducible rfl)))
          try simp only [Act.put, List.getElem_toArray, List.getElem_cons_zero, List.getElem_cons_succ, List.setIfInBounds_toArray, List.set_cons_zero, List.set_cons_succ]
          refine wpAnyH_take (i := 21) (v := ?v99) rfl (by kernel_rfl) (by kernel_rfl) (by kernel_rfl) (fun _ _ _ h => h) (Or.inl ⟨by rfl, ?y99⟩) (by assumption) ?r99
          case y99 => (intro w hSw; have c2 := C97.out _ hSw; (go_simp <;> first | with_reducible rfl | (rw [if_pos (by omega)] <;> with_reducible rfl)))
          try simp only [Act.put, List.getElem_toArray, List.getElem_cons_zero, List.getElem_cons_succ, List.setIfInBounds_toArray, List.set_cons_zero, List.set_cons_succ]
          refine wpAnyH_take (i := 22) (v := ?v100) rfl (by kernel_rfl) (by kernel_rfl) (by kernel_rfl) (fun _ _ _ h => h) (Or.inl ⟨by rfl, ?y100⟩) (by assumption) ?r100
          case y100 => (intro w hSw; (go_simp <;> first | with_reducible rfl | (rw [if_pos (by omega)] <;> with_reducible rfl)))
          try simp only [Act.put, List.getElem_toArray, List.getElem_cons_zero, List.getElem_cons_succ, List.setIfInBounds_toArray, List.set_cons_zero, List.set_cons_succ]
          refine wpAnyH_take (i := 23) (v := ?v101) rfl (by kernel_rfl) (by kernel_rfl) (by kernel_rfl) (fun _ _ _ h => h) (Or.inl ⟨by rfl, ?y101⟩) (by assumption) ?r101
          case y101 => (intro w hSw; (go_simp <;> first | with_reducible rfl | (rw [if_pos (by omega)] <;> with_reducible rfl)))
          try simp only [Act.put, List.getElem_toArray, List.getElem_cons_zero, List.getElem_cons_succ, List.setIfInBounds_toArray, List.set_cons_zero, List.set_cons_succ]
          refine wpAnyH_take (i := 24) (v := ?v102) rfl (by kernel_rfl) (by kernel_rfl) (by kernel_rfl) (fun _ _ _ h => h) (Or.inl ⟨by rfl, ?y102⟩) (by assumption) ?r102
          case y102 => (intro w hSw; (go_simp <;> first | with_reducible rfl | (rw [if_pos (by omega)] <;> with_reducible rfl)))
          try simp only [Act.put, List.getElem_toArray, List.getElem_cons_zero, List.getElem_cons_succ, List.setIfInBounds_toArray, List.set_cons_zero, List.set_cons_succ]
          refine wpAnyH_done (by kernel_rfl) ?_ _
          have HF := Lib.hid (bthen I9.out.low hHeld)
          go_wp2_with fail
          go_ret
          exact ⟨rfl, HF.out⟩


/-- THE WALK OF THE LAW. -/
theorem walk (z : List Int) (oa : Option Addr) (cap : Nat) (M : List (Int × Int)) (hz' : z.length = 98) (h8 : I8s z) (hml : M.length ≤ 9223372036854775807) (w : World) (hM : PutsAt w oa M) (hT : Tab w) (hH : Home w) :
    Calls Tryd.prog 3 #[.agg (posC z).toArray, .slice oa M.length cap] w fun e w' => e = .returned (.bool true) ∧ Below w.heap.size w w' := by
  by_cases hln : M.length ≤ 100
  · exact walk_loop z oa cap M hz' h8 hml hln w hM hT hH
  · exact walk_long z oa cap M hz' h8 hml (by omega) w hM hT hH

end Go.Proofs.YtbopbekehccdmaaDoor.boardHolds
