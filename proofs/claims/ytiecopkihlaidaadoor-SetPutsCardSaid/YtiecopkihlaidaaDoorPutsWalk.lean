/-
  The walk of the law SetPuts: for every two lists of numbers it returns true.
-/
import Derived.Test.YtiecopkihlaidaaDoorArrEq
import Derived.Deep.MidRow
namespace Go.Proofs.YtiecopkihlaidaaDoor.setPuts
open Go.RowKit
set_option linter.unusedVariables false
set_option linter.unusedSimpArgs false

theorem range_of {W : World} {g : Nat} {L : List Value} {t : TypeId} {fr : Nat × Nat} (h : W.heap[g]? = some (.cells L.toArray t fr)) : W.rangeAt g 0 L := by
  intro j v hv
  rw [Nat.zero_add, cell_of_row _ _ _ _ _ _ h]
  simpa using hv
theorem heldA_step {wc W w' : World} {s : Nat} {x0 y0 : Value} {L : List Value}
    (h : Below wc.heap.size wc W ∧ s + 1 < W.heap.size ∧ W.cell? ⟨s, 0, none⟩ = some x0 ∧ W.cell? ⟨s, 1, none⟩ = some y0 ∧ W.rangeAt (s + 1) 0 L) (hb : Below W.heap.size W w') :
    Below wc.heap.size wc w' ∧ s + 1 < w'.heap.size ∧ w'.cell? ⟨s, 0, none⟩ = some x0 ∧ w'.cell? ⟨s, 1, none⟩ = some y0 ∧ w'.rangeAt (s + 1) 0 L :=
  ⟨bthen h.1 hb, Nat.lt_of_lt_of_le h.2.1 hb.size, (hb.cell (p := ⟨s, 0, none⟩) (by have := h.2.1; show s < _; omega)).trans h.2.2.1, (hb.cell (p := ⟨s, 1, none⟩) (by have := h.2.1; show s < _; omega)).trans h.2.2.2.1, fun j v hv => (hb.cell (p := ⟨s + 1, 0 + j, none⟩) h.2.1).trans (h.2.2.2.2 j v hv)⟩
theorem heldA_fst {wc W : World} {s : Nat} {x0 y0 : Value} {L : List Value}
    (h : Below wc.heap.size wc W ∧ s + 1 < W.heap.size ∧ W.cell? ⟨s, 0, none⟩ = some x0 ∧ W.cell? ⟨s, 1, none⟩ = some y0 ∧ W.rangeAt (s + 1) 0 L) : Below wc.heap.size wc W := h.1

def arrL (n : Nat) : List Value := (arrP n 81).toList
theorem arrL_eq (n : Nat) : arrP n 81 = (arrL n).toArray := by simp [arrL]
theorem arrL_len (n : Nat) : (arrL n).length = 81 := by simp [arrL, arrP_size]
theorem arrL_one (n : Nat) : ∀ v ∈ arrL n, v.oneCell' = true := by
  intro v hv
  have := arrP_one n 81
  rw [Array.all_eq_true_iff_forall_mem] at this
  exact this v (by simpa [arrL] using hv)
theorem there_grow {w w' : World} {b o n : Nat} (h : w.there b o n) (hb : Below w.heap.size w w') (hlt : b < w.heap.size) : w'.there b o n := fun j hj => by
  obtain ⟨h1, h2⟩ := h j hj
  exact ⟨by rw [hb.cell (p := ⟨b, o + j, none⟩) hlt]; exact h1, by rw [hb.frozen (p := ⟨b, o + j, none⟩) hlt]; exact h2⟩
theorem there_set {w : World} {b o n g q : Nat} {v : Value} (h : w.there b o n) (hg : g ≠ b) : (w.setCell ⟨g, q, none⟩ v).there b o n := fun j hj => by
  have := World.there_setCells h g q [v] j hj
  simpa [World.setCells] using this
theorem range_set {w : World} {b o g q : Nat} {v : Value} {L : List Value} (h : w.rangeAt b o L) (hg : g ≠ b) : (w.setCell ⟨g, q, none⟩ v).rangeAt b o L := fun j u hj => by
  have := World.rangeAt_setCells_apart h g q [v] (.inl (Ne.symm hg)) j u hj
  simpa [World.setCells] using this
theorem below_setCells {B : Nat} {w0 : World} (b : Nat) (hb : B ≤ b) : ∀ (vs : List Value) (o : Nat) (w : World), Below B w0 w → Below B w0 (w.setCells b o vs)
  | [], _, _, h => h
  | v :: vs, o, w, h => below_setCells b hb vs (o + 1) _ (h.setCell hb _)
theorem size_setCells (b : Nat) : ∀ (vs : List Value) (o : Nat) (w : World), (w.setCells b o vs).heap.size = w.heap.size
  | [], _, _ => rfl
  | v :: vs, o, w => (size_setCells b vs (o + 1) _).trans (by simp)
theorem there_of {W : World} {g : Nat} {L : List Value} {t : TypeId} (h : W.heap[g]? = some (.cells L.toArray t (0, 0))) (hl : L.length = 81) : W.there g 0 81 := fun j hj => by
  refine ⟨?_, frozen_of_row _ _ _ _ _ h⟩
  rw [Nat.zero_add, cell_of_row _ _ _ _ _ _ h]
  simp [hl, hj]
theorem range_grow {w w' : World} {b o : Nat} {L : List Value} (h : w.rangeAt b o L) (hb : Below w.heap.size w w') (hlt : b < w.heap.size) : w'.rangeAt b o L := fun j v hv => (hb.cell (p := ⟨b, o + j, none⟩) hlt).trans (h j v hv)
theorem heldB_step {s : Nat} {wc W w' : World} (h : Below s wc W ∧ s + 1 < W.heap.size ∧ W.there (s + 1) 0 81) (hb : Below W.heap.size W w') :
    Below s wc w' ∧ s + 1 < w'.heap.size ∧ w'.there (s + 1) 0 81 :=
  ⟨h.1.trans (hb.mono (by have := h.2.1; omega)), Nat.lt_of_lt_of_le h.2.1 hb.size, there_grow h.2.2 hb h.2.1⟩
theorem heldB_put {s : Nat} {wc W : World} {u v : Value} (h : Below s wc W ∧ s + 1 < W.heap.size ∧ W.there (s + 1) 0 81) :
    Below s wc ((W.setCell ⟨s, 0, none⟩ u).setCell ⟨s, 1, none⟩ v) ∧ s + 1 < ((W.setCell ⟨s, 0, none⟩ u).setCell ⟨s, 1, none⟩ v).heap.size ∧ ((W.setCell ⟨s, 0, none⟩ u).setCell ⟨s, 1, none⟩ v).there (s + 1) 0 81 :=
  ⟨(h.1.setCell (Nat.le_refl _) _).setCell (Nat.le_refl _) _, by simpa using h.2.1, there_set (there_set h.2.2 (by omega)) (by omega)⟩
theorem heldB_arr {s : Nat} {wc W : World} {L : List Value} (h : Below s wc W ∧ s + 1 < W.heap.size ∧ W.there (s + 1) 0 81) :
    Below s wc (W.setCells (s + 1) 0 L) ∧ s + 1 < (W.setCells (s + 1) 0 L).heap.size ∧ (W.setCells (s + 1) 0 L).there (s + 1) 0 81 :=
  ⟨below_setCells _ (Nat.le_succ _) _ _ _ h.1, by rw [size_setCells]; exact h.2.1, World.there_setCells h.2.2 _ _ _⟩
theorem heldB_fst {s : Nat} {wc W : World} (h : Below s wc W ∧ s + 1 < W.heap.size ∧ W.there (s + 1) 0 81) : Below s wc W := h.1
theorem var_cells {w : World} {k b o : Nat} {x y : Int} {vs : List Value} (h : Var w k x y) (hb : k ≠ b) : Var (w.setCells b o vs) k x y :=
  ⟨by rw [size_setCells]; exact h.lt, (World.cell?_setCells_out b vs o w ⟨k, 0, none⟩ (fun e => absurd e hb)).trans h.lo, (World.cell?_setCells_out b vs o w ⟨k, 1, none⟩ (fun e => absurd e hb)).trans h.hi,
    (World.frozen?_setCells b vs o w ⟨k, 0, none⟩).trans h.f0, (World.frozen?_setCells b vs o w ⟨k, 1, none⟩).trans h.f1⟩
theorem there_var {w : World} {k : Nat} {x y : Int} (h : Var w k x y) : w.there k 0 2 := fun j hj => by
  obtain rfl | rfl : j = 0 ∨ j = 1 := by omega
  · exact ⟨by show (w.cell? ⟨k, 0, none⟩).isSome = true; rw [h.lo]; rfl, h.f0⟩
  · exact ⟨by show (w.cell? ⟨k, 1, none⟩).isSome = true; rw [h.hi]; rfl, h.f1⟩
theorem range_var {w : World} {k : Nat} {x y : Int} (h : Var w k x y) : w.rangeAt k 0 [.int .u64 x, .int .u64 y] := fun j v hj => by
  match j, hj with
  | 0, hj => simp at hj; subst hj; exact h.lo
  | 1, hj => simp at hj; subst hj; exact h.hi
  | j + 2, hj => simp at hj
theorem there_len {w : World} {b : Nat} {L : List Value} (hl : L.length = 81) (h : w.there b 0 81) : w.there b 0 L.toArray.size := by
  rw [List.size_toArray, hl]
  exact h
theorem infoSet : (Tryd.prog.info? 26).map (·.size) = some 2 := by kernel_rfl
theorem gone (n o : Nat) : minusN n o &&& o = 0 := by
  apply Nat.eq_of_testBit_eq
  intro i
  rw [Nat.testBit_and, test_minus]
  simp

set_option maxHeartbeats 4000000 in
theorem walk (oa : Option Addr) (ca : Nat) (l : List Int) (ob : Option Addr) (cb : Nat) (m : List Int) (w : World) (hl : l.length ≤ maxLen) (hm : m.length ≤ maxLen) (hA : Ints w oa l) (hB : Ints w ob m) (hT : Tab w) :
    Calls Tryd.prog 3 #[.slice oa l.length ca, .slice ob m.length cb] w fun e w' => e = .returned (.bool true) ∧ Below w.heap.size w w' := by
  have H := Lib.hid (holds_true w hT)
  have OF := Lib.hid (fun (W : World) (hb : Below w.heap.size w W) => of_ints oa ca l W hl (hA.grow hb))
  have sq := ofN_sq l
  have HA := Lib.hid hA
  have HB := Lib.hid hB
  have HL := Lib.hid hl
  have HM := Lib.hid hm
  have hbd := build_arr
  have hz := zero_arr
  clear hA hB hl hm hT
  generalize qx : loW (ofN l) = x at OF
  generalize qy : hiW (ofN l) = y at OF
  have QX := Lib.hid qx
  have QY := Lib.hid qy
  clear qx qy
  go_enter Tryd.func3, Tryd.ntmps3
  go_wp2_with (first
    | (go_at_call 9; refine H.out.mono ?_; rintro e w1 ⟨rfl, hb1⟩)
    | (go_at_call 10; refine (OF.out _ hb1).mono ?_; rintro e w2 ⟨rfl, hb2⟩)
    | (refine wpList_store_row rfl 29 _ _ rfl (w2.heap.size + 1) zA rfl rfl 29 zA ?srow info_arr rfl zA_one ?_))
  case srow => exact heap_alloc2_new w2 _ _
  have hs1 := hb1.size
  have hs2 := hb2.size
  have hB2 : Below w.heap.size w w2 := hb1.trans (hb2.mono hs1)
  have HB2 := Lib.hid hB2
  have hlw : ∀ k : Nat, k < l.length → wrap64 ((k : Int) + 1) = ((k + 1 : Nat) : Int) := by
    intro k hk
    have hm := HL.out
    rw [show maxLen = 9223372036854775807 from rfl] at hm
    unfold wrap64
    omega
  have hmw : ∀ k : Nat, k < m.length → wrap64 ((k : Int) + 1) = ((k + 1 : Nat) : Int) := by
    intro k hk
    have hm := HM.out
    rw [show maxLen = 9223372036854775807 from rfl] at hm
    unfold wrap64
    omega
  have HLW := Lib.hid hlw
  have HMW := Lib.hid hmw
  clear hbd hz hlw hmw hb1 hb2 hB2 H OF
  go_loopw [18] (fun i wr => ∃ k : Nat, k ≤ l.length ∧ i = .int .i64 k ∧ Below w.heap.size w wr ∧ Var wr w2.heap.size x y ∧ wr.heap[w2.heap.size + 1]? = some (.cells (arrP (ofN (l.take k)) 81) 29)) (fun i _ => l.length - (intOf i).toNat)
  case atStart =>
    refine ⟨0, Nat.zero_le _, rfl, ?_, ?_, ?_⟩
    · exact below_setRow (HB2.out.trans ((ball (ball (bref w2) _) _).mono (by omega))) (by omega) _
    · exact Var.row ⟨by simp; omega, by go_simp, by go_simp, by go_simp, by go_simp⟩ (by omega) _
    · rw [setRow_heap _ _ _ _ _ _ (heap_alloc2_new w2 _ _), List.take_zero, show ofN [] = 0 from rfl, arr_none]
  case round =>
    obtain ⟨k, hk, rfl, hW, hV, hR⟩ := hrel
    by_cases hlt : k < l.length
    · obtain ⟨b, off, rfl, hbl, hc⟩ := HA.out (by omega)
      have hcell : wr.cell? ⟨b, off + k, none⟩ = some (.int .i64 l[k]) := (hW.cell (p := ⟨b, off + k, none⟩) hbl).trans (hc k hlt)
      have P := Lib.hid (fun W => put_any (ofN (l.take k)) l[k] true W)
      rw [show putN (ofN (l.take k)) l[k] true = ofN (l.take (k + 1)) from (take_step l k hlt).symm] at P
      have hsA := arrP_size (ofN (l.take k)) 81
      have hsB := arrP_size (ofN (l.take (k + 1))) 81
      have hoB := arrP_one (ofN (l.take (k + 1))) 81
      have hw := HLW.out k hlt
      generalize l[k] = q at P hcell
      generalize arrP (ofN (l.take k)) 81 = A at P hR hsA
      generalize hBq : arrP (ofN (l.take (k + 1))) 81 = B at P hsB hoB
      have hiA : (Tryd.prog.info? 29).map (·.size) = some A.size := by rw [hsA]; exact info_arr
      have hiB : (Tryd.prog.info? 29).map (·.size) = some B.size := by rw [hsB]; exact info_arr
      have hAB : A.size = B.size := by rw [hsA, hsB]
      have hlt2 : w2.heap.size + 1 < wr.heap.size := (Array.getElem?_eq_some_iff.1 hR).1
      have HBq := Lib.hid hBq
      have HW := Lib.hid hW
      have HV := Lib.hid hV
      have HR := Lib.hid hR
      have HIA := Lib.hid hiA
      have HIB := Lib.hid hiB
      have HAB := Lib.hid hAB
      have HOB := Lib.hid hoB
      clear hW hV hR hiA hiB hAB hoB hsA hsB hBq hc HA
      go_wp2_with (first
        | (refine wpList_load_row rfl 29 _ rfl (w2.heap.size + 1) rfl 29 _ _ _ HR.out Tryd.underlying29 rfl HIA.out ?_)
        | (go_at_call 11; refine (P.out _).mono ?_; rintro e w5 ⟨rfl, hb5⟩)
        | (refine wpList_store_row rfl 29 _ _ rfl (w2.heap.size + 1) B rfl rfl 29 A ((hb5.block (w2.heap.size + 1) hlt2).trans HR.out) HIB.out HAB.out HOB.out ?_))
      go_roundw
      case rel =>
        refine ⟨k + 1, by omega, by simp only [hw], ?_, ?_, ?_⟩
        · exact below_setRow (HW.out.trans (hb5.mono HW.out.size)) (by omega) _
        · exact (HV.out.grow hb5).row (by omega) _
        · rw [setRow_heap _ _ _ _ _ _ ((hb5.block (w2.heap.size + 1) hlt2).trans HR.out), HBq.out]
      case measure => rw [hw]; simp [intOf]; omega
    · obtain rfl : k = l.length := by omega
      rw [List.take_length] at hR
      clear HLW HL HA
      have PL := Lib.hid (fun W => plain_any (ofN l) sq W)
      rw [QX.out, QY.out] at PL
      have hsA := arrP_size (ofN l) 81
      have hEq := fun W => arr_eq (ofN l) W
      simp only [arrL_eq] at PL hR hEq
      have hll := arrL_len (ofN l)
      generalize hLq : arrL (ofN l) = L at PL hR hEq hll
      have HLq := Lib.hid hLq
      have HLL := Lib.hid hll
      have hiA : (Tryd.prog.info? 29).map (·.size) = some L.length := by rw [info_arr, hll]
      have l0 := hV.lo
      have l1 := hV.hi
      have hr := range_of hR
      have hz : w2.heap.size + 1 < wr.heap.size := (Array.getElem?_eq_some_iff.1 hR).1
      have HW := Lib.hid hW
      have HV := Lib.hid hV
      have HR := Lib.hid hR
      have hu := Tryd.underlying29
      clear hLq hll hsA hW hV hR
      go_wp2_with fail
      go_region_held3 (fun w' => Below wr.heap.size wr w' ∧ w2.heap.size + 1 < w'.heap.size ∧ w'.cell? ⟨w2.heap.size, 0, none⟩ = some (.int .u64 x) ∧ w'.cell? ⟨w2.heap.size, 1, none⟩ = some (.int .u64 y) ∧ w'.rangeAt (w2.heap.size + 1) 0 L) (first | exact ⟨(bref wr).drew, hz, l0, l1, hr⟩ | exact heldA_step (by assumption) hb)
        (first
          | (go_at_call 12; refine (PL.out _).mono ?_; rintro e wn ⟨rfl, hb⟩))
      have hF : Below wr.heap.size wr wn := heldA_fst (by assumption)
      have hVn := HV.out.grow hF
      have hRn := (hF.block (w2.heap.size + 1) hz).trans HR.out
      have hWn : Below w.heap.size w wn := HW.out.trans (hF.mono HW.out.size)
      rw [← QX.out, ← QY.out] at hVn
      have hrn := range_of hRn
      have htn : wn.there (w2.heap.size + 1) 0 81 := there_of hRn HLL.out
      have HVn := Lib.hid hVn
      have HWn := Lib.hid hWn
      have Hrn := Lib.hid hrn
      have Htn := Lib.hid htn
      have Hzn : Hid (w2.heap.size + 1 < wn.heap.size) := Nat.lt_of_lt_of_le hz hF.size
      clear hVn hRn hWn hrn htn hF hb hu hEq hiA hz hr l0 l1 HW HV HR PL QX QY
      go_wp2_with fail
      go_loopw [32] (fun i wr => ∃ k n : Nat, k ≤ m.length ∧ i = .int .i64 k ∧ Sq n ∧ Hid (Below w.heap.size w wr) ∧ Hid (w2.heap.size + 1 < wr.heap.size) ∧ Hid (Var wr w2.heap.size (loW n) (hiW n)) ∧ Hid (wr.rangeAt (w2.heap.size + 1) 0 (arrL n)) ∧ Hid (wr.there (w2.heap.size + 1) 0 81)) (fun i _ => m.length - (intOf i).toNat)
      case atStart => exact ⟨0, ofN l, Nat.zero_le _, rfl, sq, HWn, Hzn, HVn, by rw [HLq.out]; exact Hrn, Htn⟩
      case round =>
        obtain ⟨k, n, hk, rfl, hn, hW, hs, hV, hR, hT⟩ := hrel
        clear HWn Hrn Htn HVn Hzn HLq HLL
        by_cases hlt : k < m.length
        · obtain ⟨b, off, rfl, hbl, hc⟩ := HB.out (by omega)
          have hcell : wr.cell? ⟨b, off + k, none⟩ = some (.int .i64 m[k]) := (hW.out.cell (p := ⟨b, off + k, none⟩) hbl).trans (hc k hlt)
          generalize m[k] = q at hcell
          have hn2 : Sq (putN n q false) := hn.minus
          have WO := Lib.hid (fun W => without_any n q hn W)
          have PU := Lib.hid (fun W => put_any n q false W)
          have HS := Lib.hid (fun W => has_any (putN n q false) q hn2 W)
          have P2 := Lib.hid (fun W => plain_any (putN n q false) hn2 W)
          have hEq := fun W => arr_eq (putN n q false) W
          rw [show minusN n (oneN q) = putN n q false from rfl] at WO
          rw [show (!decide (putN n q false &&& oneN q = 0)) = false by rw [show putN n q false &&& oneN q = 0 from gone _ _]; rfl] at HS
          simp only [arrL_eq] at PU P2 hEq
          have hw := HMW.out k hlt
          have hl1 := arrL_len n
          have hl2 := arrL_len (putN n q false)
          have ho2 := arrL_one (putN n q false)
          have l0 := hV.out.lo
          have l1 := hV.out.hi
          have hz := hs.out
          have hr : wr.drew.rangeAt (w2.heap.size + 1) 0 (arrL n) := hR.out
          have hu := Tryd.underlying29
          generalize hq2 : putN n q false = n2 at *
          generalize loW n = x1 at *
          generalize hiW n = y1 at *
          generalize hx2 : loW n2 = x2 at *
          generalize hy2 : hiW n2 = y2 at *
          generalize arrL n = L1 at *
          generalize hL2 : arrL n2 = L2 at *
          have hi1 : (Tryd.prog.info? 29).map (·.size) = some L1.length := by rw [info_arr, hl1]
          have hi2 : (Tryd.prog.info? 29).map (·.size) = some L2.length := by rw [info_arr, hl2]
          have HX2 := Lib.hid hx2
          have HY2 := Lib.hid hy2
          have HL2 := Lib.hid hL2
          clear hx2 hy2 hL2 hq2 hn hc HB
          go_wp2_with fail
          have HEQ := Lib.hid hEq
          have HL2' := Lib.hid hl2
          have HI1 := Lib.hid hi1
          have HI2 := Lib.hid hi2
          have HI2s : Hid ((Tryd.prog.info? 29).map (·.size) = some L2.toArray.size) := by simpa [Hid] using hi2
          have HU := Lib.hid hu
          have HO2 := Lib.hid ho2
          have HR0 := Lib.hid hr
          have RV : Hid (wr.drew.rangeAt w2.heap.size 0 [.int .u64 x1, .int .u64 y1]) := (World.rangeAt_drew _ _ _ _).2 (range_var hV.out)
          clear hu hi1 hi2 ho2 hr hEq hl1 hl2 l0 l1
          go_wp2_with fail
          -- region 15 (by genputs.py)
          refine wp_region_any (by kernel_rfl) ?_
          change wpAny _ _ _ _ _ _ _ (World.drew _)
          refine wpAny_take (i := 1) (v := ?_) rfl (by kernel_rfl) (by kernel_rfl) (by kernel_rfl) (fun _ _ _ h => h) (Or.inl ⟨by rfl, ?_⟩) ?_
          rotate_left 1
          · intro w; go_simp; with_reducible rfl
          simp only [Act.put, List.setIfInBounds_toArray, List.set_cons_zero, List.set_cons_succ, List.toList_toArray]
          refine wpAny_take (i := 4) (v := ?_) rfl (by kernel_rfl) (by kernel_rfl) (by kernel_rfl) (fun _ _ _ h => h) (Or.inl ⟨by rfl, ?_⟩) ?_
          rotate_left 1
          · intro w; go_simp; with_reducible rfl
          simp only [Act.put, List.setIfInBounds_toArray, List.set_cons_zero, List.set_cons_succ, List.toList_toArray]
          refine wpAny_ready (rs := [0, 3]) (by kernel_rfl) (by simp) ?_
          refine AllReady.cons rfl (fun K hK => ?_) (AllReady.cons rfl (fun K hK => ?_) AllReady.nil)
          focus
            rw [if_pos (by rfl)]
            refine wp_load_mid _ _ rfl _ _ rfl [.int .u64 x1, .int .u64 y1] _ RV.out Tryd.underlying26 rfl infoSet ?_
            refine hK _ _ ?_
            clear hK K
            simp only [Act.put, List.setIfInBounds_toArray, List.set_cons_zero, List.set_cons_succ, List.toList_toArray]
            refine wpAny_ready (rs := [2, 3]) (by kernel_rfl) (by simp) ?_
            refine AllReady.cons rfl (fun K hK => ?_) (AllReady.cons rfl (fun K hK => ?_) AllReady.nil)
            focus
              go_simp
              go_wp2_with (go_at_call 13; refine (WO.out _).mono ?_; rintro e wa ⟨rfl, hb⟩; have hba : Hid (Below wr.heap.size wr wa) := (bref wr).drew.trans hb; have hra := Lib.hid (range_grow hR.out hba.out hs.out); have hva := Lib.hid (hV.out.grow hba.out); have hta := Lib.hid (there_grow hT.out hba.out hs.out); have hza : Hid (w2.heap.size + 1 < wa.heap.size) := Nat.lt_of_lt_of_le hs.out hba.out.size; clear hb)
              refine wpAny_ready (rs := [3]) (by kernel_rfl) (by simp) ?_
              refine AllReady.cons rfl (fun K hK => ?_) AllReady.nil
              rw [if_pos (by rfl)]
              refine wp_load_mid _ _ rfl _ _ rfl L1 _ hra.out HU.out rfl HI1.out ?_
              refine hK _ _ ?_
              clear hK K
              simp only [Act.put, List.setIfInBounds_toArray, List.set_cons_zero, List.set_cons_succ, List.toList_toArray]
              refine wpAny_ready (rs := [5]) (by kernel_rfl) (by simp) ?_
              refine AllReady.cons rfl (fun K hK => ?_) AllReady.nil
              go_simp
              go_wp2_with (go_at_call 11; refine (PU.out _).mono ?_; rintro e wp ⟨rfl, hb⟩; have hbp : Hid (Below wa.heap.size wa wp) := hb; have hvp := Lib.hid (hva.out.grow hbp.out); have htp := Lib.hid (there_grow hta.out hbp.out hza.out); clear hb)
              refine wpAny_ready (rs := [6]) (by kernel_rfl) (by simp) ?_
              refine AllReady.cons rfl (fun K hK => ?_) AllReady.nil
              rw [if_pos (by rfl)]
              refine wp_store_mid _ _ _ rfl w2.heap.size 0 #[.int .u64 x2, .int .u64 y2] rfl rfl (there_var hvp.out) infoSet (by simp [Value.oneCell']) ?_
              refine hK _ _ ?_
              clear hK K
              simp only [Act.put, List.setIfInBounds_toArray, List.set_cons_zero, List.set_cons_succ, List.toList_toArray]
              refine wpAny_ready (rs := [7]) (by kernel_rfl) (by simp) ?_
              refine AllReady.cons rfl (fun K hK => ?_) AllReady.nil
              rw [if_pos (by rfl)]
              refine wp_store_mid _ _ _ rfl (w2.heap.size + 1) 0 L2.toArray rfl rfl (there_len HL2'.out (World.there_setCells htp.out _ _ _)) HI2s.out (all_oneCell_toArray HO2.out) ?_
              refine hK _ _ ?_
              clear hK K
              simp only [Act.put, List.setIfInBounds_toArray, List.set_cons_zero, List.set_cons_succ, List.toList_toArray]
              refine wpAny_done (by kernel_rfl) ?_ _
            rotate_left 1
            focus
              rw [if_pos (by rfl)]
              refine wp_load_mid _ _ rfl _ _ rfl L1 _ HR0.out HU.out rfl HI1.out ?_
              refine hK _ _ ?_
              clear hK K
              simp only [Act.put, List.setIfInBounds_toArray, List.set_cons_zero, List.set_cons_succ, List.toList_toArray]
              refine wpAny_ready (rs := [2]) (by kernel_rfl) (by simp) ?_
              refine AllReady.cons rfl (fun K hK => ?_) AllReady.nil
              go_simp
              go_wp2_with (go_at_call 13; refine (WO.out _).mono ?_; rintro e wa ⟨rfl, hb⟩; have hba : Hid (Below wr.heap.size wr wa) := (bref wr).drew.trans hb; have hra := Lib.hid (range_grow hR.out hba.out hs.out); have hva := Lib.hid (hV.out.grow hba.out); have hta := Lib.hid (there_grow hT.out hba.out hs.out); have hza : Hid (w2.heap.size + 1 < wa.heap.size) := Nat.lt_of_lt_of_le hs.out hba.out.size; clear hb)
              refine wpAny_ready (rs := [5]) (by kernel_rfl) (by simp) ?_
              refine AllReady.cons rfl (fun K hK => ?_) AllReady.nil
              go_simp
              go_wp2_with (go_at_call 11; refine (PU.out _).mono ?_; rintro e wp ⟨rfl, hb⟩; have hbp : Hid (Below wa.heap.size wa wp) := hb; have hvp := Lib.hid (hva.out.grow hbp.out); have htp := Lib.hid (there_grow hta.out hbp.out hza.out); clear hb)
              refine wpAny_ready (rs := [6]) (by kernel_rfl) (by simp) ?_
              refine AllReady.cons rfl (fun K hK => ?_) AllReady.nil
              rw [if_pos (by rfl)]
              refine wp_store_mid _ _ _ rfl w2.heap.size 0 #[.int .u64 x2, .int .u64 y2] rfl rfl (there_var hvp.out) infoSet (by simp [Value.oneCell']) ?_
              refine hK _ _ ?_
              clear hK K
              simp only [Act.put, List.setIfInBounds_toArray, List.set_cons_zero, List.set_cons_succ, List.toList_toArray]
              refine wpAny_ready (rs := [7]) (by kernel_rfl) (by simp) ?_
              refine AllReady.cons rfl (fun K hK => ?_) AllReady.nil
              rw [if_pos (by rfl)]
              refine wp_store_mid _ _ _ rfl (w2.heap.size + 1) 0 L2.toArray rfl rfl (there_len HL2'.out (World.there_setCells htp.out _ _ _)) HI2s.out (all_oneCell_toArray HO2.out) ?_
              refine hK _ _ ?_
              clear hK K
              simp only [Act.put, List.setIfInBounds_toArray, List.set_cons_zero, List.set_cons_succ, List.toList_toArray]
              refine wpAny_done (by kernel_rfl) ?_ _
          rotate_left 2
          focus
            rw [if_pos (by rfl)]
            refine wp_load_mid _ _ rfl _ _ rfl L1 _ HR0.out HU.out rfl HI1.out ?_
            refine hK _ _ ?_
            clear hK K
            simp only [Act.put, List.setIfInBounds_toArray, List.set_cons_zero, List.set_cons_succ, List.toList_toArray]
            refine wpAny_ready (rs := [0]) (by kernel_rfl) (by simp) ?_
            refine AllReady.cons rfl (fun K hK => ?_) AllReady.nil
            rw [if_pos (by rfl)]
            refine wp_load_mid _ _ rfl _ _ rfl [.int .u64 x1, .int .u64 y1] _ RV.out Tryd.underlying26 rfl infoSet ?_
            refine hK _ _ ?_
            clear hK K
            simp only [Act.put, List.setIfInBounds_toArray, List.set_cons_zero, List.set_cons_succ, List.toList_toArray]
            refine wpAny_ready (rs := [2]) (by kernel_rfl) (by simp) ?_
            refine AllReady.cons rfl (fun K hK => ?_) AllReady.nil
            go_simp
            go_wp2_with (go_at_call 13; refine (WO.out _).mono ?_; rintro e wa ⟨rfl, hb⟩; have hba : Hid (Below wr.heap.size wr wa) := (bref wr).drew.trans hb; have hra := Lib.hid (range_grow hR.out hba.out hs.out); have hva := Lib.hid (hV.out.grow hba.out); have hta := Lib.hid (there_grow hT.out hba.out hs.out); have hza : Hid (w2.heap.size + 1 < wa.heap.size) := Nat.lt_of_lt_of_le hs.out hba.out.size; clear hb)
            refine wpAny_ready (rs := [5]) (by kernel_rfl) (by simp) ?_
            refine AllReady.cons rfl (fun K hK => ?_) AllReady.nil
            go_simp
            go_wp2_with (go_at_call 11; refine (PU.out _).mono ?_; rintro e wp ⟨rfl, hb⟩; have hbp : Hid (Below wa.heap.size wa wp) := hb; have hvp := Lib.hid (hva.out.grow hbp.out); have htp := Lib.hid (there_grow hta.out hbp.out hza.out); clear hb)
            refine wpAny_ready (rs := [6]) (by kernel_rfl) (by simp) ?_
            refine AllReady.cons rfl (fun K hK => ?_) AllReady.nil
            rw [if_pos (by rfl)]
            refine wp_store_mid _ _ _ rfl w2.heap.size 0 #[.int .u64 x2, .int .u64 y2] rfl rfl (there_var hvp.out) infoSet (by simp [Value.oneCell']) ?_
            refine hK _ _ ?_
            clear hK K
            simp only [Act.put, List.setIfInBounds_toArray, List.set_cons_zero, List.set_cons_succ, List.toList_toArray]
            refine wpAny_ready (rs := [7]) (by kernel_rfl) (by simp) ?_
            refine AllReady.cons rfl (fun K hK => ?_) AllReady.nil
            rw [if_pos (by rfl)]
            refine wp_store_mid _ _ _ rfl (w2.heap.size + 1) 0 L2.toArray rfl rfl (there_len HL2'.out (World.there_setCells htp.out _ _ _)) HI2s.out (all_oneCell_toArray HO2.out) ?_
            refine hK _ _ ?_
            clear hK K
            simp only [Act.put, List.setIfInBounds_toArray, List.set_cons_zero, List.set_cons_succ, List.toList_toArray]
            refine wpAny_done (by kernel_rfl) ?_ _
          all_goals
            have D0 : Below wr.heap.size wr wp := bthen hba.out hbp.out
            have D1 : Below w.heap.size w ((wp.setCells w2.heap.size 0 [.int .u64 x2, .int .u64 y2]).setCells (w2.heap.size + 1) 0 L2) := below_setCells _ (by omega) _ _ _ (below_setCells _ (by omega) _ _ _ (hW.out.trans (D0.mono hW.out.size)))
            have D2 : ((wp.setCells w2.heap.size 0 [.int .u64 x2, .int .u64 y2]).setCells (w2.heap.size + 1) 0 L2).rangeAt (w2.heap.size + 1) 0 L2 := World.rangeAt_setCells_same _ _ _ _ (by rw [HL2'.out]; exact World.there_setCells htp.out _ _ _)
            have D3 : ((wp.setCells w2.heap.size 0 [.int .u64 x2, .int .u64 y2]).setCells (w2.heap.size + 1) 0 L2).there (w2.heap.size + 1) 0 81 := World.there_setCells (World.there_setCells htp.out _ _ _) _ _ _
            have D4 : Var ((wp.setCells w2.heap.size 0 [.int .u64 x2, .int .u64 y2]).setCells (w2.heap.size + 1) 0 L2) w2.heap.size x2 y2 := var_cells (Var.put hvp.out x2 y2) (by omega)
            have D5 : w2.heap.size + 1 < ((wp.setCells w2.heap.size 0 [.int .u64 x2, .int .u64 y2]).setCells (w2.heap.size + 1) 0 L2).heap.size := by
              rw [size_setCells, size_setCells]
              have e1 := D0.size
              have e2 := hs.out
              omega
            generalize (wp.setCells w2.heap.size 0 [.int .u64 x2, .int .u64 y2]).setCells (w2.heap.size + 1) 0 L2 = wz at D1 D2 D3 D4 D5 ⊢
            clear D0 hba hra hva hta hza hbp hvp htp HR0 RV hV hR hT hs hW WO PU HI1 HO2 HI2s hcell
            have HD1 := Lib.hid D1
            have HD3 := Lib.hid D3
            have HD4 := Lib.hid D4
            have l0 := D4.lo
            have l1 := D4.hi
            have hEq := HEQ.out
            have hi2 := HI2.out
            have hu := HU.out
            clear D1 D3 D4 HEQ HI2 HU
            go_wp2_with fail
            go_region_held3 (fun w' => Below wz.heap.size wz w' ∧ w2.heap.size + 1 < w'.heap.size ∧ w'.cell? ⟨w2.heap.size, 0, none⟩ = some (.int .u64 x2) ∧ w'.cell? ⟨w2.heap.size, 1, none⟩ = some (.int .u64 y2) ∧ w'.rangeAt (w2.heap.size + 1) 0 L2) (first | exact ⟨(bref wz).drew, D5, l0, l1, D2⟩ | exact heldA_step (by assumption) hb)
              (first
                | (go_at_call 14; refine (HS.out _).mono ?_; rintro e wn ⟨rfl, hb⟩)
                | (go_at_call 12; refine (P2.out _).mono ?_; rintro e wn ⟨rfl, hb⟩))
            have hF : Below wz.heap.size wz wn := heldA_fst (by assumption)
            have HF := Lib.hid hF
            clear hF hEq hi2 hu l0 l1
            go_wp2
            go_roundw
            case rel => exact ⟨k + 1, n2, by omega, by simp only [hw], hn2, HD1.out.trans (HF.out.mono HD1.out.size), Nat.lt_of_lt_of_le D5 HF.out.size, by rw [HX2.out, HY2.out]; exact HD4.out.grow HF.out, by rw [HL2.out]; exact range_grow D2 HF.out D5, there_grow HD3.out HF.out D5⟩
            case measure => rw [hw]; simp [intOf]; omega
        · obtain rfl : k = m.length := by omega
          go_wp2
          go_ret
          exact ⟨rfl, hW.out⟩
end Go.Proofs.YtiecopkihlaidaaDoor.setPuts
