/-
  The walk of the law DeedTwice: for every position and all moves it returns true.
-/
import Derived.Test.YtbopbekehccdmaaDoorDmRefs
import Derived.Test.YtbopbekehccdmaaDoorMakes
import Derived.Test.YtbopbekehccdmaaDoorRefChk
import Derived.Test.YtbopbekehccdmaaDoorGmHist
import Derived.OpenShut
import Derived.Deep.CutBlock
namespace Go.Proofs.YtbopbekehccdmaaDoor.deedTwice
open Go.RowKit
set_option linter.unusedVariables false
set_option linter.unusedSimpArgs false

/-- The position that was handed over. -/
def RP (w : World) (z : List Int) (W : World) : Prop := PosAt W w.heap.size z ∧ Below w.heap.size w W
theorem RP.start (w : World) (z : List Int) : RP w z (w.alloc (.cells (posC z).toArray 28)) := ⟨PosAt.new w z, ball (bref w) _⟩
theorem RP.grow {w W W' : World} {z : List Int} (h : RP w z W) (hb : Below W.heap.size W W') : RP w z W' := ⟨h.1.grow hb, bthen h.2 hb⟩
theorem RP.setRow {w W : World} {z z' : List Int} (h : RP w z W) : RP w z' (W.setRow w.heap.size (posC z').toArray) := ⟨setRow_heap _ _ _ _ _ _ h.1, below_row h.2 (Nat.le_refl _) _⟩
theorem RP.lt {w W : World} {z : List Int} (h : RP w z W) : w.heap.size < W.heap.size := h.1.lt
theorem RP.drew {w W : World} {z : List Int} (h : RP w z W) : RP w z W.drew := ⟨h.1, h.2.drew⟩

theorem RP.but3 {w W W' : World} {z : List Int} {g b : Nat} {r : Option Nat} (h : RP w z W) (hb : But3 g b r W W') (hg : w.heap.size + 1 ≤ g) (hbb : w.heap.size + 1 ≤ b) (hr : ∀ k, r = some k → w.heap.size + 1 ≤ k) : RP w z W' :=
  ⟨hb.row h.1 (by omega) (by omega) (fun e => by have := hr _ e.symm; omega), h.2.trans (hb.below (by omega) (by omega) (fun k e => by have := hr k e; omega) h.2.size)⟩
theorem hdrew {W : World} {B g b : Nat} {z0 z : List Int} {H : List (List Int × Mv)} {v : Value} (h : HInv W B g b z0 H z v) : HInv W.drew B g b z0 H z v := ⟨h.gk.drew, ⟨own_drew h.past.1, h.past.2⟩, h.hist⟩
/-- A game goes on as it was while another one, apart from it, is turned. -/
theorem happart {W W' : World} {B ga ba gb bb : Nat} {z0 za zb : List Int} {Ha Hb : List (List Int × Mv)} {va vb : Value} (ha : HInv W B ga ba z0 Ha za va) (hb : HInv W B gb bb z0 Hb zb vb)
    (n1 : ga ≠ gb) (n2 : ga ≠ bb) (n3 : ba ≠ gb) (n4 : ba ≠ bb) {r : Option Nat} (hr : r = none ∨ (r = va.ownBlock ∧ (va.ownBlock = none ∨ va.ownBlock ≠ vb.ownBlock))) (k : But3 ga ba r W W') : HInv W' B gb bb z0 Hb zb vb := by
  have r1 : some gb ≠ r := by
    rcases hr with rfl | ⟨rfl, _⟩
    · simp
    · exact Ne.symm (own_ne ha.past.1 hb.gk.1 game_ne)
  have r2 : some bb ≠ r := by
    rcases hr with rfl | ⟨rfl, _⟩
    · simp
    · exact Ne.symm (own_ne ha.past.1 hb.gk.2.1 board_ne)
  refine ⟨⟨k.row hb.gk.1 (Ne.symm n1) (Ne.symm n3) r1, k.row hb.gk.2.1 (Ne.symm n2) (Ne.symm n4) r2, hb.gk.2.2⟩, ⟨own_keep hb.past.1 fun j o e hj => ?_, hb.past.2⟩, hb.hist⟩
  refine k.row hj (fun q => own_ne hb.past.1 ha.gk.1 game_ne (by rw [e, q])) (fun q => own_ne hb.past.1 ha.gk.2.1 board_ne (by rw [e, q])) (fun q => ?_)
  rcases hr with rfl | ⟨rfl, n | n⟩
  · simp at q
  · rw [n] at q; simp at q
  · exact n (by rw [e, ← q])
/-- Two games apart. -/
structure Two (W : World) (B ga ba gb bb : Nat) (z0 : List Int) (Ha : List (List Int × Mv)) (za : List Int) (va : Value) (Hb : List (List Int × Mv)) (zb : List Int) (vb : Value) : Prop where
  a : HInv W B ga ba z0 Ha za va
  b : HInv W B gb bb z0 Hb zb vb
  n1 : ga ≠ gb
  n2 : ga ≠ bb
  n3 : ba ≠ gb
  n4 : ba ≠ bb
  ap : va.ownBlock = none ∨ va.ownBlock ≠ vb.ownBlock
theorem Two.grow {W W' : World} {B ga ba gb bb : Nat} {z0 za zb : List Int} {Ha Hb : List (List Int × Mv)} {va vb : Value} (h : Two W B ga ba gb bb z0 Ha za va Hb zb vb) (hb : Below W.heap.size W W') : Two W' B ga ba gb bb z0 Ha za va Hb zb vb := ⟨h.a.grow hb, h.b.grow hb, h.n1, h.n2, h.n3, h.n4, h.ap⟩
theorem Two.makeA {W W' : World} {B ga ba gb bb : Nat} {z0 za zb z1 : List Int} {Ha Hb H1 : List (List Int × Mv)} {va vb v1 : Value} (h : Two W B ga ba gb bb z0 Ha za va Hb zb vb) (k : HInv W' B ga ba z0 H1 z1 v1) (hb : But4 ga ba va v1 W W') : Two W' B ga ba gb bb z0 H1 z1 v1 Hb zb vb :=
  ⟨k, happart h.a h.b h.n1 h.n2 h.n3 h.n4 (.inr ⟨rfl, h.ap⟩) hb.b3, h.n1, h.n2, h.n3, h.n4, by
    rcases hb.fr with e | ⟨j, e, hj⟩
    · rw [e]; exact h.ap
    · right
      intro q
      have := (h.b.lt.2.2 j (by rw [← q, e])).2
      omega⟩
theorem Two.makeB {W W' : World} {B ga ba gb bb : Nat} {z0 za zb z1 : List Int} {Ha Hb H1 : List (List Int × Mv)} {va vb v1 : Value} (h : Two W B ga ba gb bb z0 Ha za va Hb zb vb) (k : HInv W' B gb bb z0 H1 z1 v1) (hb : But4 gb bb vb v1 W W') : Two W' B ga ba gb bb z0 Ha za va H1 z1 v1 := by
  have ap' : vb.ownBlock = none ∨ vb.ownBlock ≠ va.ownBlock := by
    rcases h.ap with e | e
    · cases q : vb.ownBlock with
      | none => exact .inl rfl
      | some j => rw [e]; exact .inr (by simp)
    · exact .inr (Ne.symm e)
  refine ⟨happart h.b h.a (Ne.symm h.n1) (Ne.symm h.n3) (Ne.symm h.n2) (Ne.symm h.n4) (.inr ⟨rfl, ap'⟩) hb.b3, k, h.n1, h.n2, h.n3, h.n4, ?_⟩
  rcases hb.fr with e | ⟨j, e, hj⟩
  · rw [e]; exact h.ap
  · cases q : va.ownBlock with
    | none => exact .inl rfl
    | some i =>
      right
      rw [e]
      intro q2
      have := (h.a.lt.2.2 i q).2
      have : i = j := by simpa using q2
      omega
theorem hmade_yes4 (B g b : Nat) (n : Int) (z0 : List Int) (H : List (List Int × Mv)) (z : List Int) (v : Value) (m : Mv) (hz : PosOk z0 n) (hn : n + H.length ≤ 126) (hL : H.length ≤ 1000) (W : World) (hB : B ≤ W.heap.size) (h : HInv W B g b z0 H z v) (hcan : canF z m.f m.t m.d m.p = true) :
    Calls Tryd.prog 33 #[.pointer (some ⟨g, 0, none⟩), .agg #[.int .i64 m.f, .int .i64 m.t, .int .i64 m.d, .bool m.p]] W fun e w' => e = .returned (.bool true) ∧ ∃ v', HInv w' B g b z0 (H ++ [(z, m)]) (afterZ z m.f m.t m.d m.p) v' ∧ But4 g b v v' W w' := by
  have o := hist_ok hz h.hist (by omega)
  refine (make_yes4 B g b z v (H.map mdH) m.f m.t m.d m.p o.len o.i8 o.clean (fun j a b => ⟨(o.hand j a b).1, Int.le_trans (o.hand j a b).2 hn⟩) (by rw [List.length_map]; exact hL) W hB h.gk h.past hcan).mono ?_
  rintro e w' ⟨rfl, v', hG, hP, hBu⟩
  exact ⟨rfl, v', ⟨hG, by rw [List.map_append]; exact hP, .snoc h.hist hcan⟩, hBu⟩
def lenA (W : World) (g : Nat) : Nat := match W.cell? ⟨g, 2, none⟩ with | some (.slice _ n _) => n | _ => 0
theorem len_of {W : World} {B g b : Nat} {z0 z : List Int} {H : List (List Int × Mv)} {v : Value} (h : HInv W B g b z0 H z v) : lenA W g = H.length := by
  obtain ⟨a, cap, hv⟩ := past_size h.past
  obtain ⟨_, _, c2⟩ := h.gk.1.cells
  rw [List.length_map] at hv
  unfold lenA
  rw [c2, hv]
/-- A move turns the position. -/
theorem after_ne {z : List Int} {f t d : Int} {p : Bool} (hz : PosOk z 126) (h : canF z f t d p = true) : z ≠ afterZ z f t d p := by
  obtain ⟨s, tq, hs2, hs, -⟩ := can_cases hz h
  have h97 := (afterZ_ok hz (Int.le_refl _) h).2
  intro e
  rw [← e, hs] at h97
  omega

set_option maxRecDepth 100000 in
set_option maxHeartbeats 8000000 in
theorem walk_no (z : List Int) (oa : Option Addr) (cap : Nat) (M : List Mv) (hz' : z.length = 98) (h8 : I8s z) (hml : M.length ≤ 9223372036854775807) (hc : checkF (newZ z) ≠ 0) (w : World) (hM : MvsAt w oa M) (hH : Home w) :
    Calls Tryd.prog 8 #[.agg (posC z).toArray, .slice oa M.length cap] w fun e w' => e = .returned (.bool true) ∧ Below w.heap.size w w' := by
  have R := Lib.hid (RP.start w z)
  have MT := Lib.hid (fun W (hH : Home W) => makes_true W hH)
  have CL := Lib.hid (fun W => clean_any z hz' h8 W)
  have hzc := newZ_len z hz'
  have h8c := newZ_8 z h8
  have hcc := newZ_clean z hz'
  have CK := Lib.hid (fun W => refCheck_any (newZ z) hzc h8c W)
  have HINF := Lib.hid (show (Tryd.prog.info? 28).map (·.size) = some (posC z).length by rw [posC_len, hz']; exact infoPos)
  have HINFC := Lib.hid (show (Tryd.prog.info? 28).map (·.size) = some (posC (newZ z)).length by rw [posC_len, hzc]; exact infoPos)
  have HSC := Lib.hid (show (posC z).toArray.size = (posC (newZ z)).toArray.size by rw [List.size_toArray, List.size_toArray, posC_len, posC_len, hz', hzc])
  have HH := Lib.hid hH
  have HM := Lib.hid hM
  have bc : (checkF (newZ z) != 0) = true := by simpa using hc
  clear hH hz' h8 hM
  clear hc hzc h8c hcc
  generalize checkF (newZ z) = c at *
  generalize newZ z = zc at *
  go_enter Tryd.func8, Tryd.ntmps8
  go_upto_region 1 with fail
  generalize w.alloc (.cells (posC z).toArray 28) = w0 at *
  go_upto_region 4 with (first
    | (go_at_call 28; refine (MT.out _ (HH.out.grow R.out.2)).mono ?_; rintro e w1 ⟨rfl, hb⟩; have R := Lib.hid (R.out.grow hb); clear hb)
    | (refine wpList_load_mid rfl 28 _ rfl w.heap.size 0 rfl (posC z) _ R.out.1.range Tryd.underlying28 rfl HINF.out ?_)
    | (go_at_call 29; refine (CL.out _).mono ?_; rintro e w2 ⟨rfl, hb⟩; have R := Lib.hid (R.out.grow hb); clear hb)
    | (refine wpList_store_row rfl 28 _ _ rfl w.heap.size (posC zc).toArray rfl rfl 28 _ R.out.1 (by rw [List.size_toArray]; exact HINFC.out) HSC.out (posC_one zc) ?_))
  have R := Lib.hid (R.out.setRow (z' := zc))
  generalize w2.setRow w.heap.size (posC zc).toArray = w3 at *
  go_wp2_with (first
    | (refine load_row_want (by rfl) 28 _ rfl w.heap.size rfl 28 _ _ _ R.out.1 Tryd.underlying28 rfl (by rw [List.size_toArray]; exact HINFC.out) ?_)
    | (refine wpList_load_mid rfl 28 _ rfl w.heap.size 0 rfl (posC zc) _ R.out.1.range Tryd.underlying28 rfl HINFC.out ?_)
    | (go_at_call 38; refine (CK.out _).mono ?_; rintro e w4 ⟨rfl, hb⟩; have R := Lib.hid (R.out.grow hb); clear hb)
    | fail)
  go_ret
  exact ⟨rfl, R.out.2⟩
set_option maxRecDepth 100000 in
set_option maxHeartbeats 8000000 in
theorem walk_long (z : List Int) (oa : Option Addr) (cap : Nat) (M : List Mv) (hz' : z.length = 98) (h8 : I8s z) (hml : M.length ≤ 9223372036854775807) (hc : checkF (newZ z) = 0) (hln : 40 < M.length) (w : World) (hM : MvsAt w oa M) (hH : Home w) :
    Calls Tryd.prog 8 #[.agg (posC z).toArray, .slice oa M.length cap] w fun e w' => e = .returned (.bool true) ∧ Below w.heap.size w w' := by
  have R := Lib.hid (RP.start w z)
  have MT := Lib.hid (fun W (hH : Home W) => makes_true W hH)
  have CL := Lib.hid (fun W => clean_any z hz' h8 W)
  have hzc := newZ_len z hz'
  have h8c := newZ_8 z h8
  have hcc := newZ_clean z hz'
  have CK := Lib.hid (fun W => refCheck_any (newZ z) hzc h8c W)
  have HINF := Lib.hid (show (Tryd.prog.info? 28).map (·.size) = some (posC z).length by rw [posC_len, hz']; exact infoPos)
  have HINFC := Lib.hid (show (Tryd.prog.info? 28).map (·.size) = some (posC (newZ z)).length by rw [posC_len, hzc]; exact infoPos)
  have HSC := Lib.hid (show (posC z).toArray.size = (posC (newZ z)).toArray.size by rw [List.size_toArray, List.size_toArray, posC_len, posC_len, hz', hzc])
  have HH := Lib.hid hH
  have HM := Lib.hid hM
  rw [hc] at CK
  have bl : ((40 : Nat) : Int) < (M.length : Int) := by omega
  clear hH hz' h8 hM
  clear hc hzc h8c hcc
  generalize newZ z = zc at *
  go_enter Tryd.func8, Tryd.ntmps8
  go_upto_region 1 with fail
  generalize w.alloc (.cells (posC z).toArray 28) = w0 at *
  go_upto_region 4 with (first
    | (go_at_call 28; refine (MT.out _ (HH.out.grow R.out.2)).mono ?_; rintro e w1 ⟨rfl, hb⟩; have R := Lib.hid (R.out.grow hb); clear hb)
    | (refine wpList_load_mid rfl 28 _ rfl w.heap.size 0 rfl (posC z) _ R.out.1.range Tryd.underlying28 rfl HINF.out ?_)
    | (go_at_call 29; refine (CL.out _).mono ?_; rintro e w2 ⟨rfl, hb⟩; have R := Lib.hid (R.out.grow hb); clear hb)
    | (refine wpList_store_row rfl 28 _ _ rfl w.heap.size (posC zc).toArray rfl rfl 28 _ R.out.1 (by rw [List.size_toArray]; exact HINFC.out) HSC.out (posC_one zc) ?_))
  have R := Lib.hid (R.out.setRow (z' := zc))
  generalize w2.setRow w.heap.size (posC zc).toArray = w3 at *
  go_wp2_with (first
    | (refine load_row_want (by rfl) 28 _ rfl w.heap.size rfl 28 _ _ _ R.out.1 Tryd.underlying28 rfl (by rw [List.size_toArray]; exact HINFC.out) ?_)
    | (refine wpList_load_mid rfl 28 _ rfl w.heap.size 0 rfl (posC zc) _ R.out.1.range Tryd.underlying28 rfl HINFC.out ?_)
    | (go_at_call 38; refine (CK.out _).mono ?_; rintro e w4 ⟨rfl, hb⟩; have R := Lib.hid (R.out.grow hb); clear hb)
    | fail)
  go_ret
  exact ⟨rfl, R.out.2⟩

set_option maxRecDepth 100000 in
set_option maxHeartbeats 8000000 in
theorem walk_loop (z : List Int) (oa : Option Addr) (cap : Nat) (M : List Mv) (hz' : z.length = 98) (h8 : I8s z) (hml : M.length ≤ 9223372036854775807) (hc : checkF (newZ z) = 0) (hln : M.length ≤ 40) (w : World) (hM : MvsAt w oa M) (hH : Home w) :
    Calls Tryd.prog 8 #[.agg (posC z).toArray, .slice oa M.length cap] w fun e w' => e = .returned (.bool true) ∧ Below w.heap.size w w' := by
  have R := Lib.hid (RP.start w z)
  have MT := Lib.hid (fun W (hH : Home W) => makes_true W hH)
  have CL := Lib.hid (fun W => clean_any z hz' h8 W)
  have hzc := newZ_len z hz'
  have h8c := newZ_8 z h8
  have hcc := newZ_clean z hz'
  have CK := Lib.hid (fun W => refCheck_any (newZ z) hzc h8c W)
  have HINF := Lib.hid (show (Tryd.prog.info? 28).map (·.size) = some (posC z).length by rw [posC_len, hz']; exact infoPos)
  have HINFC := Lib.hid (show (Tryd.prog.info? 28).map (·.size) = some (posC (newZ z)).length by rw [posC_len, hzc]; exact infoPos)
  have HSC := Lib.hid (show (posC z).toArray.size = (posC (newZ z)).toArray.size by rw [List.size_toArray, List.size_toArray, posC_len, posC_len, hz', hzc])
  have HH := Lib.hid hH
  have HM := Lib.hid hM
  rw [hc] at CK
  have bl : ¬ (40 : Int) < (M.length : Int) := by omega
  have hpos : PosOk (newZ z) 18 := ⟨hzc, h8c, hcc, chk_hands (newZ z) h8c hc⟩
  have HPO := Lib.hid hpos
  have NE := Lib.hid (fun W => newGame_any (newZ z) hzc h8c W)
  rw [newZ_self (newZ z) hzc hcc] at NE
  have HLN := Lib.hid hln
  have HZC := Lib.hid hzc
  have EQC := pos_eq (newZ z) hzc
  clear hH hz' h8 hM
  clear hc hzc h8c hcc hpos
  generalize newZ z = zc at *
  go_enter Tryd.func8, Tryd.ntmps8
  go_upto_region 1 with fail
  generalize w.alloc (.cells (posC z).toArray 28) = w0 at *
  go_upto_region 4 with (first
    | (go_at_call 28; refine (MT.out _ (HH.out.grow R.out.2)).mono ?_; rintro e w1 ⟨rfl, hb⟩; have R := Lib.hid (R.out.grow hb); clear hb)
    | (refine wpList_load_mid rfl 28 _ rfl w.heap.size 0 rfl (posC z) _ R.out.1.range Tryd.underlying28 rfl HINF.out ?_)
    | (go_at_call 29; refine (CL.out _).mono ?_; rintro e w2 ⟨rfl, hb⟩; have R := Lib.hid (R.out.grow hb); clear hb)
    | (refine wpList_store_row rfl 28 _ _ rfl w.heap.size (posC zc).toArray rfl rfl 28 _ R.out.1 (by rw [List.size_toArray]; exact HINFC.out) HSC.out (posC_one zc) ?_))
  have R := Lib.hid (R.out.setRow (z' := zc))
  generalize w2.setRow w.heap.size (posC zc).toArray = w3 at *
  go_upto_region 6 with (first
    | (refine load_row_want (by rfl) 28 _ rfl w.heap.size rfl 28 _ _ _ R.out.1 Tryd.underlying28 rfl (by rw [List.size_toArray]; exact HINFC.out) ?_)
    | (refine wpList_load_mid rfl 28 _ rfl w.heap.size 0 rfl (posC zc) _ R.out.1.range Tryd.underlying28 rfl HINFC.out ?_)
    | (go_at_call 38; refine (CK.out _).mono ?_; rintro e w4 ⟨rfl, hb⟩; have R := Lib.hid (R.out.grow hb); clear hb)
    | fail)
  go_wp2_with fail
  refine wp_region_held_drew (S := fun W => RP w zc W ∧ Below w4.heap.size w4 W) (by kernel_rfl) ?_ (fun hHeld => ?_)
  · exact ⟨R.out.drew, (bref w4).drew⟩
  refine wpAnyH_take (i := 0) rfl (by kernel_rfl) (by kernel_rfl) (by kernel_rfl) (fun _ _ _ h => h) (yieldsIf_load_mid (by rfl) _ _ rfl _ _ rfl (posC zc) _ (fun w h => h.1.1.range) (Tryd.underlying28) rfl (HINFC.out)) (by assumption) ?_
  try simp only [Act.put, List.getElem_toArray, List.getElem_cons_zero, List.getElem_cons_succ, List.setIfInBounds_toArray, List.set_cons_zero, List.set_cons_succ]
  refine wpAnyH_take (i := 2) rfl (by kernel_rfl) (by kernel_rfl) (by kernel_rfl) (fun _ _ _ h => h) (yieldsIf_load_mid (by rfl) _ _ rfl _ _ rfl (posC zc) _ (fun w h => h.1.1.range) (Tryd.underlying28) rfl (HINFC.out)) (by assumption) ?_
  try simp only [Act.put, List.getElem_toArray, List.getElem_cons_zero, List.getElem_cons_succ, List.setIfInBounds_toArray, List.set_cons_zero, List.set_cons_succ]
  refine wpAnyH_ready (rs := [1]) (by kernel_rfl) (by simp) ?_
  refine AllReadyH.cons rfl (fun K hK => ?_) AllReadyH.nil
  rw [if_pos (by rfl)]
  go_simp
  go_at_call 31
  have hHeld0 := Lib.hid hHeld
  refine (NE.out _).mono ?_
  rintro e wn ⟨ga, ba, rfl, hga, hba, hGa, hb⟩
  refine hK.out _ _ (⟨hHeld.1.grow hb, bthen hHeld.2 hb⟩) (fun hHeld => ?_)
  clear hK K
  have KA := Lib.hid (And.intro (Nat.le_trans hHeld0.out.1.lt hga) (Nat.le_trans hHeld0.out.1.lt hba))
  have LA := Lib.hid (And.intro hGa.1.lt hGa.2.1.lt)
  refine wpAnyH_mono (S' := fun W => (RP w zc W ∧ Below w4.heap.size w4 W) ∧ Gk W ga ba zc (.slice none 0 0) ∧ wn.heap.size ≤ W.heap.size) (fun _ h => h.1) ?_
  have hHeld := And.intro hHeld (And.intro hGa (Nat.le_refl wn.heap.size))
  try simp only [Act.put, List.getElem_toArray, List.getElem_cons_zero, List.getElem_cons_succ, List.setIfInBounds_toArray, List.set_cons_zero, List.set_cons_succ]
  refine wpAnyH_ready (rs := [3]) (by kernel_rfl) (by simp) ?_
  refine AllReadyH.cons rfl (fun K hK => ?_) AllReadyH.nil
  rw [if_pos (by rfl)]
  go_simp
  go_at_call 31
  have hHeldA := Lib.hid hHeld
  refine (NE.out _).mono ?_
  rintro e wm ⟨gb, bb, rfl, hgb, hbb, hGb, hb⟩
  refine hK.out _ _ (⟨⟨hHeld.1.1.grow hb, bthen hHeld.1.2 hb⟩, hHeld.2.1.grow hb, Nat.le_trans hHeld.2.2 hb.size⟩) (fun hHeld => ?_)
  clear hK K
  have KB := Lib.hid (And.intro (Nat.le_trans hHeldA.out.2.2 hgb) (Nat.le_trans hHeldA.out.2.2 hbb))
  try simp only [Act.put, List.getElem_toArray, List.getElem_cons_zero, List.getElem_cons_succ, List.setIfInBounds_toArray, List.set_cons_zero, List.set_cons_succ]
  refine wpAnyH_take (i := 4) (v := ?v1) rfl (by kernel_rfl) (by kernel_rfl) (by kernel_rfl) (fun _ _ _ h => h) (Or.inl ⟨by rfl, ?y1⟩) (by assumption) ?r1
  case y1 => (intro w hSw; (go_simp <;> first | with_reducible rfl | (rw [if_pos (by omega)] <;> with_reducible rfl)))
  try simp only [Act.put, List.getElem_toArray, List.getElem_cons_zero, List.getElem_cons_succ, List.setIfInBounds_toArray, List.set_cons_zero, List.set_cons_succ]
  refine wpAnyH_take (i := 5) (v := ?v2) rfl (by kernel_rfl) (by kernel_rfl) (by kernel_rfl) (fun _ _ _ h => h) (Or.inl ⟨by rfl, ?y2⟩) (by assumption) ?r2
  case y2 => (intro w hSw; (go_simp <;> first | with_reducible rfl | (rw [if_pos (by omega)] <;> with_reducible rfl)))
  try simp only [Act.put, List.getElem_toArray, List.getElem_cons_zero, List.getElem_cons_succ, List.setIfInBounds_toArray, List.set_cons_zero, List.set_cons_succ]
  refine wpAnyH_done (by kernel_rfl) ?_ _
  have HT0 := Lib.hid (show Two wm (w.heap.size + 1) ga ba gb bb zc [] zc (.slice none 0 0) [] zc (.slice none 0 0) from ⟨⟨hHeld.2.1, past_none _ _ _ _, .nil⟩, ⟨hGb, past_none _ _ _ _, .nil⟩, by (have := LA.out.1; have := KB.out.1; omega), by (have := LA.out.1; have := KB.out.2; omega), by (have := LA.out.2; have := KB.out.1; omega), by (have := LA.out.2; have := KB.out.2; omega), .inl rfl⟩)
  have HR0 := Lib.hid hHeld.1.1
  have KB' := Lib.hid (show w.heap.size + 1 ≤ gb ∧ w.heap.size + 1 ≤ bb by (have := LA.out; have := KA.out; have := KB.out; omega))
  clear hHeld hGb bl hgb hbb hga hba hGa KB LA
  go_wp2_with fail
  go_loopw [28] (fun i wr => ∃ k : Nat, k ≤ M.length ∧ i = .int .i64 k ∧ ∃ H z va vb, Two wr (w.heap.size + 1) ga ba gb bb zc H z va H z vb ∧ H.length ≤ k ∧ RP w zc wr) (fun i _ => M.length - (intOf i).toNat)
  case atStart => exact ⟨0, Nat.zero_le _, rfl, [], zc, _, _, HT0.out, Nat.le_refl _, HR0.out⟩
  case round =>
    obtain ⟨k, hk, rfl, H0, z0, va0, vb0, hT, hL, hR⟩ := hrel
    have HT := Lib.hid hT
    have HR := Lib.hid hR
    have HL := Lib.hid hL
    have HO := Lib.hid (hist_ok HPO.out hT.a.hist (by (have := HLN.out; omega)))
    clear hT hR hL
    by_cases hlt : (k : Int) < (M.length : Int)
    · obtain ⟨m, hm⟩ : ∃ m, M[k]? = some m := ⟨_, List.getElem?_eq_getElem (by omega)⟩
      obtain ⟨bm, om, hoa, hblt, hRg⟩ := HM.out.grow HR.out.2 k m hm
      subst hoa
      have HRg := Lib.hid hRg
      clear hRg hm
      have W1 := Lib.hid (fresh_mv wr m)
      have hBa := below_row (ball (bref wr) (.cells #[.int .i64 0, .int .i64 0, .int .i64 0, .bool false] 64)) (Nat.le_refl _) m.cells.toArray
      have HT1 := Lib.hid (HT.out.grow hBa)
      have HR1 := Lib.hid (HR.out.grow hBa)
      have HI4 := Lib.hid (show (Tryd.prog.info? 64).map (·.size) = some m.cells.length from infoMv)
      have hol := HO.out.len
      have ho8 := HO.out.i8
      have CB := Lib.hid (fun W (h : Gk W gb bb z0 vb0) => can_any gb bb z0 (ofK z0) vb0 m.f m.t m.d m.p hol ho8 W h)
      have EQ0 := pos_eq z0 hol
      have HI0 := Lib.hid (show (Tryd.prog.info? 28).map (·.size) = some (posC z0).length by rw [posC_len, hol]; exact infoPos)
      have HZ0 := Lib.hid hol
      have AMX := Lib.hid (And.intro HT.out.a.lt HT.out.b.lt)
      clear hBa hol ho8
      go_upto_region 10 with (first
        | (refine wpList_load_mid rfl 64 _ rfl bm (om + k * 4) rfl m.cells _ HRg.out Tryd.underlying64 rfl HI4.out ?_)
        | (refine wpList_store_row rfl 64 _ _ rfl wr.heap.size m.cells.toArray rfl rfl 64 #[.int .i64 0, .int .i64 0, .int .i64 0, .bool false] (heap_alloc_new wr _) (by rw [List.size_toArray]; exact HI4.out) rfl (mv_one m) ?_)
        | fail)
      have HAM := Lib.hid (show wr.heap.size ≠ gb ∧ wr.heap.size ≠ bb ∧ vb0.ownBlock ≠ some wr.heap.size from ⟨by (have := AMX.out.2.1; omega), by (have := AMX.out.2.2.1; omega), fun e => by (have := AMX.out.2.2.2 _ e; omega)⟩)
      have HAMA := Lib.hid (show wr.heap.size ≠ ga ∧ wr.heap.size ≠ ba ∧ va0.ownBlock ≠ some wr.heap.size from ⟨by (have := AMX.out.1.1; omega), by (have := AMX.out.1.2.1; omega), fun e => by (have := AMX.out.1.2.2 _ e; omega)⟩)
      clear AMX
      generalize ham : wr.heap.size = am at *
      generalize (wr.alloc (.cells #[.int .i64 0, .int .i64 0, .int .i64 0, .bool false] 64)).setRow am m.cells.toArray = w1 at *
      clear ham
      obtain ⟨m0, m1, m2, m3⟩ := mv_cells' W1.out
      cases hcan : canF z0 m.f m.t m.d m.p
      · skip
        rw [hcan] at CB
        have MA := Lib.hid (fun W (h : HInv W (w.heap.size + 1) ga ba zc H0 z0 va0) => hmade_no (w.heap.size + 1) ga ba 18 zc H0 z0 va0 m HPO.out (by (have := HLN.out; have := HL.out; omega)) W h hcan)
        have MB := Lib.hid (fun W (h : HInv W (w.heap.size + 1) gb bb zc H0 z0 vb0) => hmade_no (w.heap.size + 1) gb bb 18 zc H0 z0 vb0 m HPO.out (by (have := HLN.out; have := HL.out; omega)) W h hcan)
        clear hcan
        go_upto_region 13 with (first
          | (go_at_call 41; refine (CB.out _ HT1.out.b.gk).mono ?_; rintro e wx ⟨rfl, hb⟩; have HTx := Lib.hid (HT1.out.grow hb); have HRx := Lib.hid (HR1.out.grow hb); have Wx := Lib.hid ((hb.block _ (lt_of_row' W1.out)).trans W1.out); clear hb m0 m1 m2 m3; obtain ⟨m0, m1, m2, m3⟩ := mv_cells' Wx.out)
          | (go_at_call 33; refine (MA.out _ HTx.out.a).mono ?_; rintro e w2 ⟨rfl, hb⟩; have HT2 := Lib.hid (HTx.out.grow hb); have HR2 := Lib.hid (HRx.out.grow hb); have W2 := Lib.hid ((hb.block _ (lt_of_row' Wx.out)).trans Wx.out); clear hb m0 m1 m2 m3)
          | fail)
        have KA2 := Lib.hid (fun W (h : Gk W ga ba z0 va0) => keyG_any ga ba z0 va0 W h)
        have KB2 := Lib.hid (fun W (h : Gk W gb bb z0 vb0) => keyG_any gb bb z0 vb0 W h)
        have LA2 := Lib.hid (fun W (h : HInv W (w.heap.size + 1) ga ba zc H0 z0 va0) => hlen (w.heap.size + 1) ga ba zc z0 H0 va0 W h)
        have LB2 := Lib.hid (fun W (h : HInv W (w.heap.size + 1) gb bb zc H0 z0 vb0) => hlen (w.heap.size + 1) gb bb zc z0 H0 vb0 W h)
        generalize ofK z0 = KK at KA2 KB2
        generalize hhl : H0.length = hl at LA2 LB2
        have HHL := Lib.hid hhl
        clear hhl
        have bn : ((KK : Int) != (KK : Int)) = false := by simp
        have bl : ((hl : Int) != (hl : Int)) = false := by simp
        go_wp2_with fail
        refine wp_region_held_drew (S := fun W => Below w2.heap.size w2 W) (by kernel_rfl) ?_ (fun hHeld => ?_)
        · exact (bref w2).drew
        refine wpAnyH_take (i := 0) (v := ?v3) rfl (by kernel_rfl) (by kernel_rfl) (by kernel_rfl) (fun _ _ _ h => h) (Or.inl ⟨by rfl, ?y3⟩) (by assumption) ?r3
        case y3 => (intro w hSw; (go_simp <;> first | with_reducible rfl | (rw [if_pos (by omega)] <;> with_reducible rfl)))
        try simp only [Act.put, List.getElem_toArray, List.getElem_cons_zero, List.getElem_cons_succ, List.setIfInBounds_toArray, List.set_cons_zero, List.set_cons_succ]
        refine wpAnyH_take (i := 1) (v := ?v4) rfl (by kernel_rfl) (by kernel_rfl) (by kernel_rfl) (fun _ _ _ h => h) (Or.inl ⟨by rfl, ?y4⟩) (by assumption) ?r4
        case y4 => (intro w hSw; (go_simp <;> first | with_reducible rfl | (rw [if_pos (by omega)] <;> with_reducible rfl)))
        try simp only [Act.put, List.getElem_toArray, List.getElem_cons_zero, List.getElem_cons_succ, List.setIfInBounds_toArray, List.set_cons_zero, List.set_cons_succ]
        refine wpAnyH_take (i := 2) (v := undef) rfl (by kernel_rfl) (by kernel_rfl) (by kernel_rfl) (fun _ _ _ h => h) (Or.inr ⟨by rfl, rfl⟩) (by assumption) ?_
        try simp only [Act.put, List.getElem_toArray, List.getElem_cons_zero, List.getElem_cons_succ, List.setIfInBounds_toArray, List.set_cons_zero, List.set_cons_succ]
        refine wpAnyH_take (i := 3) (v := undef) rfl (by kernel_rfl) (by kernel_rfl) (by kernel_rfl) (fun _ _ _ h => h) (Or.inr ⟨by rfl, rfl⟩) (by assumption) ?_
        try simp only [Act.put, List.getElem_toArray, List.getElem_cons_zero, List.getElem_cons_succ, List.setIfInBounds_toArray, List.set_cons_zero, List.set_cons_succ]
        refine wpAnyH_take (i := 4) (v := undef) rfl (by kernel_rfl) (by kernel_rfl) (by kernel_rfl) (fun _ _ _ h => h) (Or.inr ⟨by rfl, rfl⟩) (by assumption) ?_
        try simp only [Act.put, List.getElem_toArray, List.getElem_cons_zero, List.getElem_cons_succ, List.setIfInBounds_toArray, List.set_cons_zero, List.set_cons_succ]
        refine wpAnyH_take (i := 5) (v := undef) rfl (by kernel_rfl) (by kernel_rfl) (by kernel_rfl) (fun _ _ _ h => h) (Or.inr ⟨by rfl, rfl⟩) (by assumption) ?_
        try simp only [Act.put, List.getElem_toArray, List.getElem_cons_zero, List.getElem_cons_succ, List.setIfInBounds_toArray, List.set_cons_zero, List.set_cons_succ]
        refine wpAnyH_take (i := 6) (v := undef) rfl (by kernel_rfl) (by kernel_rfl) (by kernel_rfl) (fun _ _ _ h => h) (Or.inr ⟨by rfl, rfl⟩) (by assumption) ?_
        try simp only [Act.put, List.getElem_toArray, List.getElem_cons_zero, List.getElem_cons_succ, List.setIfInBounds_toArray, List.set_cons_zero, List.set_cons_succ]
        refine wpAnyH_take (i := 7) (v := undef) rfl (by kernel_rfl) (by kernel_rfl) (by kernel_rfl) (fun _ _ _ h => h) (Or.inr ⟨by rfl, rfl⟩) (by assumption) ?_
        try simp only [Act.put, List.getElem_toArray, List.getElem_cons_zero, List.getElem_cons_succ, List.setIfInBounds_toArray, List.set_cons_zero, List.set_cons_succ]
        refine wpAnyH_take (i := 8) (v := undef) rfl (by kernel_rfl) (by kernel_rfl) (by kernel_rfl) (fun _ _ _ h => h) (Or.inr ⟨by rfl, rfl⟩) (by assumption) ?_
        try simp only [Act.put, List.getElem_toArray, List.getElem_cons_zero, List.getElem_cons_succ, List.setIfInBounds_toArray, List.set_cons_zero, List.set_cons_succ]
        refine wpAnyH_take (i := 9) (v := undef) rfl (by kernel_rfl) (by kernel_rfl) (by kernel_rfl) (fun _ _ _ h => h) (Or.inr ⟨by rfl, rfl⟩) (by assumption) ?_
        try simp only [Act.put, List.getElem_toArray, List.getElem_cons_zero, List.getElem_cons_succ, List.setIfInBounds_toArray, List.set_cons_zero, List.set_cons_succ]
        refine wpAnyH_take (i := 10) (v := undef) rfl (by kernel_rfl) (by kernel_rfl) (by kernel_rfl) (fun _ _ _ h => h) (Or.inr ⟨by rfl, rfl⟩) (by assumption) ?_
        try simp only [Act.put, List.getElem_toArray, List.getElem_cons_zero, List.getElem_cons_succ, List.setIfInBounds_toArray, List.set_cons_zero, List.set_cons_succ]
        refine wpAnyH_take (i := 11) (v := undef) rfl (by kernel_rfl) (by kernel_rfl) (by kernel_rfl) (fun _ _ _ h => h) (Or.inr ⟨by rfl, rfl⟩) (by assumption) ?_
        try simp only [Act.put, List.getElem_toArray, List.getElem_cons_zero, List.getElem_cons_succ, List.setIfInBounds_toArray, List.set_cons_zero, List.set_cons_succ]
        refine wpAnyH_take (i := 12) (v := undef) rfl (by kernel_rfl) (by kernel_rfl) (by kernel_rfl) (fun _ _ _ h => h) (Or.inr ⟨by rfl, rfl⟩) (by assumption) ?_
        try simp only [Act.put, List.getElem_toArray, List.getElem_cons_zero, List.getElem_cons_succ, List.setIfInBounds_toArray, List.set_cons_zero, List.set_cons_succ]
        refine wpAnyH_take (i := 13) (v := undef) rfl (by kernel_rfl) (by kernel_rfl) (by kernel_rfl) (fun _ _ _ h => h) (Or.inr ⟨by rfl, rfl⟩) (by assumption) ?_
        try simp only [Act.put, List.getElem_toArray, List.getElem_cons_zero, List.getElem_cons_succ, List.setIfInBounds_toArray, List.set_cons_zero, List.set_cons_succ]
        refine wpAnyH_take (i := 14) (v := undef) rfl (by kernel_rfl) (by kernel_rfl) (by kernel_rfl) (fun _ _ _ h => h) (Or.inr ⟨by rfl, rfl⟩) (by assumption) ?_
        try simp only [Act.put, List.getElem_toArray, List.getElem_cons_zero, List.getElem_cons_succ, List.setIfInBounds_toArray, List.set_cons_zero, List.set_cons_succ]
        refine wpAnyH_take (i := 15) (v := undef) rfl (by kernel_rfl) (by kernel_rfl) (by kernel_rfl) (fun _ _ _ h => h) (Or.inr ⟨by rfl, rfl⟩) (by assumption) ?_
        try simp only [Act.put, List.getElem_toArray, List.getElem_cons_zero, List.getElem_cons_succ, List.setIfInBounds_toArray, List.set_cons_zero, List.set_cons_succ]
        refine wpAnyH_take (i := 16) (v := undef) rfl (by kernel_rfl) (by kernel_rfl) (by kernel_rfl) (fun _ _ _ h => h) (Or.inr ⟨by rfl, rfl⟩) (by assumption) ?_
        try simp only [Act.put, List.getElem_toArray, List.getElem_cons_zero, List.getElem_cons_succ, List.setIfInBounds_toArray, List.set_cons_zero, List.set_cons_succ]
        refine wpAnyH_take (i := 17) (v := ?v5) rfl (by kernel_rfl) (by kernel_rfl) (by kernel_rfl) (fun _ _ _ h => h) (Or.inl ⟨by rfl, ?y5⟩) (by assumption) ?r5
        case y5 => (intro w hSw; (go_simp <;> first | with_reducible rfl | (rw [if_pos (by omega)] <;> with_reducible rfl)))
        try simp only [Act.put, List.getElem_toArray, List.getElem_cons_zero, List.getElem_cons_succ, List.setIfInBounds_toArray, List.set_cons_zero, List.set_cons_succ]
        refine wpAnyH_take (i := 18) (v := ?v6) rfl (by kernel_rfl) (by kernel_rfl) (by kernel_rfl) (fun _ _ _ h => h) (Or.inl ⟨by rfl, ?y6⟩) (by assumption) ?r6
        case y6 => (intro w hSw; (go_simp <;> first | with_reducible rfl | (rw [if_pos (by omega)] <;> with_reducible rfl)))
        try simp only [Act.put, List.getElem_toArray, List.getElem_cons_zero, List.getElem_cons_succ, List.setIfInBounds_toArray, List.set_cons_zero, List.set_cons_succ]
        refine wpAnyH_take (i := 19) (v := ?v7) rfl (by kernel_rfl) (by kernel_rfl) (by kernel_rfl) (fun _ _ _ h => h) (Or.inl ⟨by rfl, ?y7⟩) (by assumption) ?r7
        case y7 => (intro w hSw; (go_simp <;> first | with_reducible rfl | (rw [if_pos (by omega)] <;> with_reducible rfl)))
        try simp only [Act.put, List.getElem_toArray, List.getElem_cons_zero, List.getElem_cons_succ, List.setIfInBounds_toArray, List.set_cons_zero, List.set_cons_succ]
        refine wpAnyH_take (i := 20) (v := ?v8) rfl (by kernel_rfl) (by kernel_rfl) (by kernel_rfl) (fun _ _ _ h => h) (Or.inl ⟨by rfl, ?y8⟩) (by assumption) ?r8
        case y8 => (intro w hSw; obtain ⟨m0, m1, m2, m3⟩ := mv_cells' ((hSw.block _ (lt_of_row' W2.out)).trans W2.out); (go_simp <;> first | with_reducible rfl | (rw [if_pos (by omega)] <;> with_reducible rfl)))
        try simp only [Act.put, List.getElem_toArray, List.getElem_cons_zero, List.getElem_cons_succ, List.setIfInBounds_toArray, List.set_cons_zero, List.set_cons_succ]
        refine wpAnyH_take (i := 22) (v := ?v9) rfl (by kernel_rfl) (by kernel_rfl) (by kernel_rfl) (fun _ _ _ h => h) (Or.inl ⟨by rfl, ?y9⟩) (by assumption) ?r9
        case y9 => (intro w hSw; (go_simp <;> first | with_reducible rfl | (rw [if_pos (by omega)] <;> with_reducible rfl)))
        try simp only [Act.put, List.getElem_toArray, List.getElem_cons_zero, List.getElem_cons_succ, List.setIfInBounds_toArray, List.set_cons_zero, List.set_cons_succ]
        refine wpAnyH_ready (rs := [21]) (by kernel_rfl) (by simp) ?_
        refine AllReadyH.cons rfl (fun K hK => ?_) AllReadyH.nil
        rw [if_pos (by rfl)]
        go_simp
        go_at_call 33
        refine (MB.out _ (HT2.out.b.grow hHeld)).mono ?_
        rintro e wq ⟨rfl, hb⟩
        refine hK.out _ _ (bthen hHeld hb) (fun hHeld => ?_)
        clear hK K
        try simp only [Act.put, List.getElem_toArray, List.getElem_cons_zero, List.getElem_cons_succ, List.setIfInBounds_toArray, List.set_cons_zero, List.set_cons_succ]
        refine wpAnyH_take (i := 23) (v := ?v10) rfl (by kernel_rfl) (by kernel_rfl) (by kernel_rfl) (fun _ _ _ h => h) (Or.inl ⟨by rfl, ?y10⟩) (by assumption) ?r10
        case y10 => (intro w hSw; (go_simp <;> first | with_reducible rfl | (rw [if_pos (by omega)] <;> with_reducible rfl)))
        try simp only [Act.put, List.getElem_toArray, List.getElem_cons_zero, List.getElem_cons_succ, List.setIfInBounds_toArray, List.set_cons_zero, List.set_cons_succ]
        refine wpAnyH_take (i := 24) (v := ?v11) rfl (by kernel_rfl) (by kernel_rfl) (by kernel_rfl) (fun _ _ _ h => h) (Or.inl ⟨by rfl, ?y11⟩) (by assumption) ?r11
        case y11 => (intro w hSw; (go_simp <;> first | with_reducible rfl | (rw [if_pos (by omega)] <;> with_reducible rfl)))
        try simp only [Act.put, List.getElem_toArray, List.getElem_cons_zero, List.getElem_cons_succ, List.setIfInBounds_toArray, List.set_cons_zero, List.set_cons_succ]
        refine wpAnyH_take (i := 25) (v := ?v12) rfl (by kernel_rfl) (by kernel_rfl) (by kernel_rfl) (fun _ _ _ h => h) (Or.inl ⟨by rfl, ?y12⟩) (by assumption) ?r12
        case y12 => (intro w hSw; (go_simp <;> first | with_reducible rfl | (rw [if_pos (by omega)] <;> with_reducible rfl)))
        try simp only [Act.put, List.getElem_toArray, List.getElem_cons_zero, List.getElem_cons_succ, List.setIfInBounds_toArray, List.set_cons_zero, List.set_cons_succ]
        refine wpAnyH_take (i := 26) (v := ?v13) rfl (by kernel_rfl) (by kernel_rfl) (by kernel_rfl) (fun _ _ _ h => h) (Or.inl ⟨by rfl, ?y13⟩) (by assumption) ?r13
        case y13 => (intro w hSw; (go_simp <;> first | with_reducible rfl | (rw [if_pos (by omega)] <;> with_reducible rfl)))
        try simp only [Act.put, List.getElem_toArray, List.getElem_cons_zero, List.getElem_cons_succ, List.setIfInBounds_toArray, List.set_cons_zero, List.set_cons_succ]
        refine wpAnyH_take (i := 27) (v := ?v14) rfl (by kernel_rfl) (by kernel_rfl) (by kernel_rfl) (fun _ _ _ h => h) (Or.inl ⟨by rfl, ?y14⟩) (by assumption) ?r14
        case y14 => (intro w hSw; (go_simp <;> first | with_reducible rfl | (rw [if_pos (by omega)] <;> with_reducible rfl)))
        try simp only [Act.put, List.getElem_toArray, List.getElem_cons_zero, List.getElem_cons_succ, List.setIfInBounds_toArray, List.set_cons_zero, List.set_cons_succ]
        refine wpAnyH_take (i := 28) (v := ?v15) rfl (by kernel_rfl) (by kernel_rfl) (by kernel_rfl) (fun _ _ _ h => h) (Or.inl ⟨by rfl, ?y15⟩) (by assumption) ?r15
        case y15 => (intro w hSw; (go_simp <;> first | with_reducible rfl | (rw [if_pos (by omega)] <;> with_reducible rfl)))
        try simp only [Act.put, List.getElem_toArray, List.getElem_cons_zero, List.getElem_cons_succ, List.setIfInBounds_toArray, List.set_cons_zero, List.set_cons_succ]
        refine wpAnyH_take (i := 29) (v := ?v16) rfl (by kernel_rfl) (by kernel_rfl) (by kernel_rfl) (fun _ _ _ h => h) (Or.inl ⟨by rfl, ?y16⟩) (by assumption) ?r16
        case y16 => (intro w hSw; obtain ⟨x0, x1, x2⟩ := (HT2.out.a.gk.grow hSw).1.cells; (go_simp <;> first | with_reducible rfl | (rw [if_pos (by omega)] <;> with_reducible rfl)))
        try simp only [Act.put, List.getElem_toArray, List.getElem_cons_zero, List.getElem_cons_succ, List.setIfInBounds_toArray, List.set_cons_zero, List.set_cons_succ]
        refine wpAnyH_take (i := 30) (v := ?v17) rfl (by kernel_rfl) (by kernel_rfl) (by kernel_rfl) (fun _ _ _ h => h) (Or.inl ⟨by rfl, ?y17⟩) (by assumption) ?r17
        case y17 => (intro w hSw; (go_simp <;> first | with_reducible rfl | (rw [if_pos (by omega)] <;> with_reducible rfl)))
        try simp only [Act.put, List.getElem_toArray, List.getElem_cons_zero, List.getElem_cons_succ, List.setIfInBounds_toArray, List.set_cons_zero, List.set_cons_succ]
        refine wpAnyH_take (i := 31) (v := ?v18) rfl (by kernel_rfl) (by kernel_rfl) (by kernel_rfl) (fun _ _ _ h => h) (Or.inl ⟨by rfl, ?y18⟩) (by assumption) ?r18
        case y18 => (intro w hSw; (go_simp <;> first | with_reducible rfl | (rw [if_pos (by omega)] <;> with_reducible rfl)))
        try simp only [Act.put, List.getElem_toArray, List.getElem_cons_zero, List.getElem_cons_succ, List.setIfInBounds_toArray, List.set_cons_zero, List.set_cons_succ]
        refine wpAnyH_take (i := 32) rfl (by kernel_rfl) (by kernel_rfl) (by kernel_rfl) (fun _ _ _ h => h) (yieldsIf_load_mid (by rfl) _ _ rfl _ _ rfl (posC z0) _ (fun w h => posRangeB (HT2.out.a.gk.grow h).2.1 HZ0.out) (Tryd.underlying28) rfl (HI0.out)) (by assumption) ?_
        try simp only [Act.put, List.getElem_toArray, List.getElem_cons_zero, List.getElem_cons_succ, List.setIfInBounds_toArray, List.set_cons_zero, List.set_cons_succ]
        refine wpAnyH_take (i := 33) (v := ?v19) rfl (by kernel_rfl) (by kernel_rfl) (by kernel_rfl) (fun _ _ _ h => h) (Or.inl ⟨by rfl, ?y19⟩) (by assumption) ?r19
        case y19 => (intro w hSw; (go_simp <;> first | with_reducible rfl | (rw [if_pos (by omega)] <;> with_reducible rfl)))
        try simp only [Act.put, List.getElem_toArray, List.getElem_cons_zero, List.getElem_cons_succ, List.setIfInBounds_toArray, List.set_cons_zero, List.set_cons_succ]
        refine wpAnyH_take (i := 34) (v := ?v20) rfl (by kernel_rfl) (by kernel_rfl) (by kernel_rfl) (fun _ _ _ h => h) (Or.inl ⟨by rfl, ?y20⟩) (by assumption) ?r20
        case y20 => (intro w hSw; (go_simp <;> first | with_reducible rfl | (rw [if_pos (by omega)] <;> with_reducible rfl)))
        try simp only [Act.put, List.getElem_toArray, List.getElem_cons_zero, List.getElem_cons_succ, List.setIfInBounds_toArray, List.set_cons_zero, List.set_cons_succ]
        refine wpAnyH_take (i := 35) (v := ?v21) rfl (by kernel_rfl) (by kernel_rfl) (by kernel_rfl) (fun _ _ _ h => h) (Or.inl ⟨by rfl, ?y21⟩) (by assumption) ?r21
        case y21 => (intro w hSw; (go_simp <;> first | with_reducible rfl | (rw [if_pos (by omega)] <;> with_reducible rfl)))
        try simp only [Act.put, List.getElem_toArray, List.getElem_cons_zero, List.getElem_cons_succ, List.setIfInBounds_toArray, List.set_cons_zero, List.set_cons_succ]
        refine wpAnyH_take (i := 36) (v := ?v22) rfl (by kernel_rfl) (by kernel_rfl) (by kernel_rfl) (fun _ _ _ h => h) (Or.inl ⟨by rfl, ?y22⟩) (by assumption) ?r22
        case y22 => (intro w hSw; obtain ⟨y0, y1, y2⟩ := (HT2.out.b.gk.grow hSw).1.cells; (go_simp <;> first | with_reducible rfl | (rw [if_pos (by omega)] <;> with_reducible rfl)))
        try simp only [Act.put, List.getElem_toArray, List.getElem_cons_zero, List.getElem_cons_succ, List.setIfInBounds_toArray, List.set_cons_zero, List.set_cons_succ]
        refine wpAnyH_take (i := 37) (v := ?v23) rfl (by kernel_rfl) (by kernel_rfl) (by kernel_rfl) (fun _ _ _ h => h) (Or.inl ⟨by rfl, ?y23⟩) (by assumption) ?r23
        case y23 => (intro w hSw; (go_simp <;> first | with_reducible rfl | (rw [if_pos (by omega)] <;> with_reducible rfl)))
        try simp only [Act.put, List.getElem_toArray, List.getElem_cons_zero, List.getElem_cons_succ, List.setIfInBounds_toArray, List.set_cons_zero, List.set_cons_succ]
        refine wpAnyH_take (i := 38) (v := ?v24) rfl (by kernel_rfl) (by kernel_rfl) (by kernel_rfl) (fun _ _ _ h => h) (Or.inl ⟨by rfl, ?y24⟩) (by assumption) ?r24
        case y24 => (intro w hSw; (go_simp <;> first | with_reducible rfl | (rw [if_pos (by omega)] <;> with_reducible rfl)))
        try simp only [Act.put, List.getElem_toArray, List.getElem_cons_zero, List.getElem_cons_succ, List.setIfInBounds_toArray, List.set_cons_zero, List.set_cons_succ]
        refine wpAnyH_take (i := 39) rfl (by kernel_rfl) (by kernel_rfl) (by kernel_rfl) (fun _ _ _ h => h) (yieldsIf_load_mid (by rfl) _ _ rfl _ _ rfl (posC z0) _ (fun w h => posRangeB (HT2.out.b.gk.grow h).2.1 HZ0.out) (Tryd.underlying28) rfl (HI0.out)) (by assumption) ?_
        try simp only [Act.put, List.getElem_toArray, List.getElem_cons_zero, List.getElem_cons_succ, List.setIfInBounds_toArray, List.set_cons_zero, List.set_cons_succ]
        refine wpAnyH_take (i := 40) (v := ?v25) rfl (by kernel_rfl) (by kernel_rfl) (by kernel_rfl) (fun _ _ _ h => h) (Or.inl ⟨by rfl, ?y25⟩) (by assumption) ?r25
        case y25 => (intro w hSw; (go_simp <;> first | with_reducible rfl | (rw [if_pos (by omega)] <;> with_reducible rfl)))
        try simp only [Act.put, List.getElem_toArray, List.getElem_cons_zero, List.getElem_cons_succ, List.setIfInBounds_toArray, List.set_cons_zero, List.set_cons_succ]
        refine wpAnyH_take (i := 41) (v := ?v26) rfl (by kernel_rfl) (by kernel_rfl) (by kernel_rfl) (fun _ _ _ h => h) (Or.inl ⟨by rfl, ?y26⟩) (by assumption) ?r26
        case y26 => (intro w hSw; (go_simp <;> first | with_reducible rfl | (rw [if_pos (by omega)] <;> with_reducible rfl)))
        try simp only [Act.put, List.getElem_toArray, List.getElem_cons_zero, List.getElem_cons_succ, List.setIfInBounds_toArray, List.set_cons_zero, List.set_cons_succ]
        refine wpAnyH_take (i := 42) (v := ?v27) rfl (by kernel_rfl) (by kernel_rfl) (by kernel_rfl) (fun _ _ _ h => h) (Or.inl ⟨by rfl, ?y27⟩) (by assumption) ?r27
        case y27 => (intro w hSw; (go_simp <;> first | with_reducible rfl | (rw [if_pos (by omega)] <;> with_reducible rfl)))
        try simp only [Act.put, List.getElem_toArray, List.getElem_cons_zero, List.getElem_cons_succ, List.setIfInBounds_toArray, List.set_cons_zero, List.set_cons_succ]
        refine wpAnyH_take (i := 43) (v := ?v28) rfl (by kernel_rfl) (by kernel_rfl) (by kernel_rfl) (fun _ _ _ h => h) (Or.inl ⟨by rfl, ?y28⟩) (by assumption) ?r28
        case y28 => (intro w hSw; (go_simp <;> first | with_reducible rfl | (rw [if_pos (by omega)] <;> with_reducible rfl)))
        try simp only [Act.put, List.getElem_toArray, List.getElem_cons_zero, List.getElem_cons_succ, List.setIfInBounds_toArray, List.set_cons_zero, List.set_cons_succ]
        refine wpAnyH_take (i := 45) (v := ?v29) rfl (by kernel_rfl) (by kernel_rfl) (by kernel_rfl) (fun _ _ _ h => h) (Or.inl ⟨by rfl, ?y29⟩) (by assumption) ?r29
        case y29 => (intro w hSw; (go_simp <;> first | with_reducible rfl | (rw [if_pos (by omega)] <;> with_reducible rfl)))
        try simp only [Act.put, List.getElem_toArray, List.getElem_cons_zero, List.getElem_cons_succ, List.setIfInBounds_toArray, List.set_cons_zero, List.set_cons_succ]
        refine wpAnyH_ready (rs := [44]) (by kernel_rfl) (by simp) ?_
        refine AllReadyH.cons rfl (fun K hK => ?_) AllReadyH.nil
        rw [if_pos (by rfl)]
        go_simp
        go_at_call 35
        refine (KA2.out _ (HT2.out.a.gk.grow hHeld)).mono ?_
        rintro e wq ⟨rfl, rfl⟩
        refine hK.out _ _ (hHeld) (fun hHeld => ?_)
        clear hK K
        try simp only [Act.put, List.getElem_toArray, List.getElem_cons_zero, List.getElem_cons_succ, List.setIfInBounds_toArray, List.set_cons_zero, List.set_cons_succ]
        refine wpAnyH_ready (rs := [46]) (by kernel_rfl) (by simp) ?_
        refine AllReadyH.cons rfl (fun K hK => ?_) AllReadyH.nil
        rw [if_pos (by rfl)]
        go_simp
        go_at_call 35
        refine (KB2.out _ (HT2.out.b.gk.grow hHeld)).mono ?_
        rintro e wq ⟨rfl, rfl⟩
        refine hK.out _ _ (hHeld) (fun hHeld => ?_)
        clear hK K
        try simp only [Act.put, List.getElem_toArray, List.getElem_cons_zero, List.getElem_cons_succ, List.setIfInBounds_toArray, List.set_cons_zero, List.set_cons_succ]
        refine wpAnyH_take (i := 47) (v := ?v30) rfl (by kernel_rfl) (by kernel_rfl) (by kernel_rfl) (fun _ _ _ h => h) (Or.inl ⟨by rfl, ?y30⟩) (by assumption) ?r30
        case y30 => (intro w hSw; (go_simp <;> first | with_reducible rfl | (rw [if_pos (by omega)] <;> with_reducible rfl)))
        try simp only [Act.put, List.getElem_toArray, List.getElem_cons_zero, List.getElem_cons_succ, List.setIfInBounds_toArray, List.set_cons_zero, List.set_cons_succ]
        refine wpAnyH_take (i := 48) (v := ?v31) rfl (by kernel_rfl) (by kernel_rfl) (by kernel_rfl) (fun _ _ _ h => h) (Or.inl ⟨by rfl, ?y31⟩) (by assumption) ?r31
        case y31 => (intro w hSw; (go_simp <;> first | with_reducible rfl | (rw [if_pos (by omega)] <;> with_reducible rfl)))
        try simp only [Act.put, List.getElem_toArray, List.getElem_cons_zero, List.getElem_cons_succ, List.setIfInBounds_toArray, List.set_cons_zero, List.set_cons_succ]
        refine wpAnyH_take (i := 49) (v := ?v32) rfl (by kernel_rfl) (by kernel_rfl) (by kernel_rfl) (fun _ _ _ h => h) (Or.inl ⟨by rfl, ?y32⟩) (by assumption) ?r32
        case y32 => (intro w hSw; (go_simp <;> first | with_reducible rfl | (rw [if_pos (by omega)] <;> with_reducible rfl)))
        try simp only [Act.put, List.getElem_toArray, List.getElem_cons_zero, List.getElem_cons_succ, List.setIfInBounds_toArray, List.set_cons_zero, List.set_cons_succ]
        refine wpAnyH_take (i := 50) (v := ?v33) rfl (by kernel_rfl) (by kernel_rfl) (by kernel_rfl) (fun _ _ _ h => h) (Or.inl ⟨by rfl, ?y33⟩) (by assumption) ?r33
        case y33 => (intro w hSw; (go_simp <;> first | with_reducible rfl | (rw [if_pos (by omega)] <;> with_reducible rfl)))
        try simp only [Act.put, List.getElem_toArray, List.getElem_cons_zero, List.getElem_cons_succ, List.setIfInBounds_toArray, List.set_cons_zero, List.set_cons_succ]
        refine wpAnyH_take (i := 52) (v := ?v34) rfl (by kernel_rfl) (by kernel_rfl) (by kernel_rfl) (fun _ _ _ h => h) (Or.inl ⟨by rfl, ?y34⟩) (by assumption) ?r34
        case y34 => (intro w hSw; (go_simp <;> first | with_reducible rfl | (rw [if_pos (by omega)] <;> with_reducible rfl)))
        try simp only [Act.put, List.getElem_toArray, List.getElem_cons_zero, List.getElem_cons_succ, List.setIfInBounds_toArray, List.set_cons_zero, List.set_cons_succ]
        refine wpAnyH_ready (rs := [51]) (by kernel_rfl) (by simp) ?_
        refine AllReadyH.cons rfl (fun K hK => ?_) AllReadyH.nil
        rw [if_pos (by rfl)]
        go_simp
        go_at_call 34
        refine (LA2.out _ (HT2.out.a.grow hHeld)).mono ?_
        rintro e wq ⟨rfl, rfl⟩
        refine hK.out _ _ (hHeld) (fun hHeld => ?_)
        clear hK K
        try simp only [Act.put, List.getElem_toArray, List.getElem_cons_zero, List.getElem_cons_succ, List.setIfInBounds_toArray, List.set_cons_zero, List.set_cons_succ]
        refine wpAnyH_ready (rs := [53]) (by kernel_rfl) (by simp) ?_
        refine AllReadyH.cons rfl (fun K hK => ?_) AllReadyH.nil
        rw [if_pos (by rfl)]
        go_simp
        go_at_call 34
        refine (LB2.out _ (HT2.out.b.grow hHeld)).mono ?_
        rintro e wq ⟨rfl, rfl⟩
        refine hK.out _ _ (hHeld) (fun hHeld => ?_)
        clear hK K
        try simp only [Act.put, List.getElem_toArray, List.getElem_cons_zero, List.getElem_cons_succ, List.setIfInBounds_toArray, List.set_cons_zero, List.set_cons_succ]
        refine wpAnyH_take (i := 54) (v := ?v35) rfl (by kernel_rfl) (by kernel_rfl) (by kernel_rfl) (fun _ _ _ h => h) (Or.inl ⟨by rfl, ?y35⟩) (by assumption) ?r35
        case y35 => (intro w hSw; (go_simp <;> first | with_reducible rfl | (rw [if_pos (by omega)] <;> with_reducible rfl)))
        try simp only [Act.put, List.getElem_toArray, List.getElem_cons_zero, List.getElem_cons_succ, List.setIfInBounds_toArray, List.set_cons_zero, List.set_cons_succ]
        refine wpAnyH_take (i := 55) (v := ?v36) rfl (by kernel_rfl) (by kernel_rfl) (by kernel_rfl) (fun _ _ _ h => h) (Or.inl ⟨by rfl, ?y36⟩) (by assumption) ?r36
        case y36 => (intro w hSw; (go_simp <;> first | with_reducible rfl | (rw [if_pos (by omega)] <;> with_reducible rfl)))
        try simp only [Act.put, List.getElem_toArray, List.getElem_cons_zero, List.getElem_cons_succ, List.setIfInBounds_toArray, List.set_cons_zero, List.set_cons_succ]
        refine wpAnyH_done (by kernel_rfl) ?_ _
        have HT4 := Lib.hid (HT2.out.grow hHeld)
        have HR4 := Lib.hid (HR2.out.grow hHeld)
        go_wp2_with fail
        go_roundw
        case rel => exact ⟨k + 1, by omega, by go_num, H0, z0, va0, vb0, HT4.out, by (have := HL.out; omega), HR4.out⟩
        case measure => simp [intOf]; omega
      · skip
        rw [hcan] at CB
        have MA := Lib.hid (fun W (hB : w.heap.size + 1 ≤ W.heap.size) (h : HInv W (w.heap.size + 1) ga ba zc H0 z0 va0) => hmade_yes4 (w.heap.size + 1) ga ba 18 zc H0 z0 va0 m HPO.out (by (have := HLN.out; have := HL.out; omega)) (by (have := HLN.out; have := HL.out; omega)) W hB h hcan)
        have MB := Lib.hid (fun W (hB : w.heap.size + 1 ≤ W.heap.size) (h : HInv W (w.heap.size + 1) gb bb zc H0 z0 vb0) => hmade_yes4 (w.heap.size + 1) gb bb 18 zc H0 z0 vb0 m HPO.out (by (have := HLN.out; have := HL.out; omega)) (by (have := HLN.out; have := HL.out; omega)) W hB h hcan)
        have hzl := afterZ_len z0 m.f m.t m.d m.p HZ0.out
        have HI1 := Lib.hid (show (Tryd.prog.info? 28).map (·.size) = some (posC (afterZ z0 m.f m.t m.d m.p)).length by rw [posC_len, hzl]; exact infoPos)
        have HZ1 := Lib.hid hzl
        have EQ1 := pos_eq _ hzl
        have EQN := pos_dec z0 _ HZ0.out hzl
        rw [decide_eq_false (after_ne (HO.out.mono (by (have := HLN.out; have := HL.out; omega))) hcan)] at EQN
        clear hcan hzl
        generalize hH1 : H0 ++ [(z0, m)] = H1 at *
        have HH1 := Lib.hid hH1
        clear hH1
        generalize afterZ z0 m.f m.t m.d m.p = z1 at *
        go_upto_region 13 with (first
          | (go_at_call 41; refine (CB.out _ HT1.out.b.gk).mono ?_; rintro e wx ⟨rfl, hb⟩; have HTx := Lib.hid (HT1.out.grow hb); have HRx := Lib.hid (HR1.out.grow hb); have Wx := Lib.hid ((hb.block _ (lt_of_row' W1.out)).trans W1.out); clear hb m0 m1 m2 m3; obtain ⟨m0, m1, m2, m3⟩ := mv_cells' Wx.out)
          | (go_at_call 33; refine (MA.out _ (Nat.le_trans KA.out.1 (Nat.le_of_lt HTx.out.a.lt.1)) HTx.out.a).mono ?_; rintro e w2 ⟨rfl, va1, hGa, hbu⟩; have HT2 := Lib.hid (HTx.out.makeA hGa hbu); have HR2 := Lib.hid (HRx.out.but3 hbu.b3 KA.out.1 KA.out.2 (fun k e => (HTx.out.a.lt.2.2 k e).1)); have W2 := Lib.hid (hbu.b3.row Wx.out HAMA.out.1 HAMA.out.2.1 (fun e => HAMA.out.2.2 e.symm)); clear hGa hbu m0 m1 m2 m3)
          | fail)
        have HTd := Lib.hid (show Two w2.drew (w.heap.size + 1) ga ba gb bb zc H1 z1 va1 H0 z0 vb0 from ⟨hdrew HT2.out.a, hdrew HT2.out.b, HT2.out.n1, HT2.out.n2, HT2.out.n3, HT2.out.n4, HT2.out.ap⟩)
        have KA2 := Lib.hid (fun W (h : Gk W ga ba z1 va1) => keyG_any ga ba z1 va1 W h)
        have KB2 := Lib.hid (fun v W (h : Gk W gb bb z1 v) => keyG_any gb bb z1 v W h)
        have LA2 := Lib.hid (fun W (h : HInv W (w.heap.size + 1) ga ba zc H1 z1 va1) => hlen (w.heap.size + 1) ga ba zc z1 H1 va1 W h)
        have LB2 := Lib.hid (fun v W (h : HInv W (w.heap.size + 1) gb bb zc H1 z1 v) => hlen (w.heap.size + 1) gb bb zc z1 H1 v W h)
        have HLE := Lib.hid (show H1.length ≤ k + 1 by (rw [← HH1.out, List.length_append]; have := HL.out; simp; omega))
        generalize ofK z1 = KK at KA2 KB2
        generalize hhl : H1.length = hl at LA2 LB2 HLE
        have HHL := Lib.hid hhl
        clear hhl
        have bn : ((KK : Int) != (KK : Int)) = false := by simp
        have bl : ((hl : Int) != (hl : Int)) = false := by simp
        go_wp2_with fail
        refine wp_region_held_drew (S := fun W => Gk W ga ba z1 va1 ∧ W.cell? ⟨gb, 0, none⟩ = some (.pointer (some ⟨bb, 0, none⟩)) ∧ W.heap[am]? = some (.cells #[.int .i64 m.f, .int .i64 m.t, .int .i64 m.d, .bool m.p] 64)) (by kernel_rfl) ?_ (fun hHeld => ?_)
        · exact ⟨HT2.out.a.gk.drew, HTd.out.b.gk.1.cells.1, W2.out⟩
        refine wpAnyH_take (i := 0) (v := ?v37) rfl (by kernel_rfl) (by kernel_rfl) (by kernel_rfl) (fun _ _ _ h => h) (Or.inl ⟨by rfl, ?y37⟩) (by assumption) ?r37
        case y37 => (intro w hSw; (go_simp <;> first | with_reducible rfl | (rw [if_pos (by omega)] <;> with_reducible rfl)))
        try simp only [Act.put, List.getElem_toArray, List.getElem_cons_zero, List.getElem_cons_succ, List.setIfInBounds_toArray, List.set_cons_zero, List.set_cons_succ]
        refine wpAnyH_take (i := 1) (v := ?v38) rfl (by kernel_rfl) (by kernel_rfl) (by kernel_rfl) (fun _ _ _ h => h) (Or.inl ⟨by rfl, ?y38⟩) (by assumption) ?r38
        case y38 => (intro w hSw; (go_simp <;> first | with_reducible rfl | (rw [if_pos (by omega)] <;> with_reducible rfl)))
        try simp only [Act.put, List.getElem_toArray, List.getElem_cons_zero, List.getElem_cons_succ, List.setIfInBounds_toArray, List.set_cons_zero, List.set_cons_succ]
        refine wpAnyH_take (i := 2) (v := ?v39) rfl (by kernel_rfl) (by kernel_rfl) (by kernel_rfl) (fun _ _ _ h => h) (Or.inl ⟨by rfl, ?y39⟩) (by assumption) ?r39
        case y39 => (intro w hSw; (go_simp <;> first | with_reducible rfl | (rw [if_pos (by omega)] <;> with_reducible rfl)))
        try simp only [Act.put, List.getElem_toArray, List.getElem_cons_zero, List.getElem_cons_succ, List.setIfInBounds_toArray, List.set_cons_zero, List.set_cons_succ]
        refine wpAnyH_take (i := 3) (v := ?v40) rfl (by kernel_rfl) (by kernel_rfl) (by kernel_rfl) (fun _ _ _ h => h) (Or.inl ⟨by rfl, ?y40⟩) (by assumption) ?r40
        case y40 => (intro w hSw; (go_simp <;> first | with_reducible rfl | (rw [if_pos (by omega)] <;> with_reducible rfl)))
        try simp only [Act.put, List.getElem_toArray, List.getElem_cons_zero, List.getElem_cons_succ, List.setIfInBounds_toArray, List.set_cons_zero, List.set_cons_succ]
        refine wpAnyH_take (i := 4) (v := ?v41) rfl (by kernel_rfl) (by kernel_rfl) (by kernel_rfl) (fun _ _ _ h => h) (Or.inl ⟨by rfl, ?y41⟩) (by assumption) ?r41
        case y41 => (intro w hSw; (go_simp <;> first | with_reducible rfl | (rw [if_pos (by omega)] <;> with_reducible rfl)))
        try simp only [Act.put, List.getElem_toArray, List.getElem_cons_zero, List.getElem_cons_succ, List.setIfInBounds_toArray, List.set_cons_zero, List.set_cons_succ]
        refine wpAnyH_take (i := 5) (v := ?v42) rfl (by kernel_rfl) (by kernel_rfl) (by kernel_rfl) (fun _ _ _ h => h) (Or.inl ⟨by rfl, ?y42⟩) (by assumption) ?r42
        case y42 => (intro w hSw; obtain ⟨_, y0, _⟩ := hSw; (go_simp <;> first | with_reducible rfl | (rw [if_pos (by omega)] <;> with_reducible rfl)))
        try simp only [Act.put, List.getElem_toArray, List.getElem_cons_zero, List.getElem_cons_succ, List.setIfInBounds_toArray, List.set_cons_zero, List.set_cons_succ]
        refine wpAnyH_take (i := 6) (v := ?v43) rfl (by kernel_rfl) (by kernel_rfl) (by kernel_rfl) (fun _ _ _ h => h) (Or.inl ⟨by rfl, ?y43⟩) (by assumption) ?r43
        case y43 => (intro w hSw; (go_simp <;> first | with_reducible rfl | (rw [if_pos (by omega)] <;> with_reducible rfl)))
        try simp only [Act.put, List.getElem_toArray, List.getElem_cons_zero, List.getElem_cons_succ, List.setIfInBounds_toArray, List.set_cons_zero, List.set_cons_succ]
        refine wpAnyH_take (i := 7) (v := ?v44) rfl (by kernel_rfl) (by kernel_rfl) (by kernel_rfl) (fun _ _ _ h => h) (Or.inl ⟨by rfl, ?y44⟩) (by assumption) ?r44
        case y44 => (intro w hSw; (go_simp <;> first | with_reducible rfl | (rw [if_pos (by omega)] <;> with_reducible rfl)))
        try simp only [Act.put, List.getElem_toArray, List.getElem_cons_zero, List.getElem_cons_succ, List.setIfInBounds_toArray, List.set_cons_zero, List.set_cons_succ]
        refine wpAnyH_take (i := 9) (v := ?v45) rfl (by kernel_rfl) (by kernel_rfl) (by kernel_rfl) (fun _ _ _ h => h) (Or.inl ⟨by rfl, ?y45⟩) (by assumption) ?r45
        case y45 => (intro w hSw; (go_simp <;> first | with_reducible rfl | (rw [if_pos (by omega)] <;> with_reducible rfl)))
        try simp only [Act.put, List.getElem_toArray, List.getElem_cons_zero, List.getElem_cons_succ, List.setIfInBounds_toArray, List.set_cons_zero, List.set_cons_succ]
        refine wpAnyH_take (i := 10) (v := ?v46) rfl (by kernel_rfl) (by kernel_rfl) (by kernel_rfl) (fun _ _ _ h => h) (Or.inl ⟨by rfl, ?y46⟩) (by assumption) ?r46
        case y46 => (intro w hSw; (go_simp <;> first | with_reducible rfl | (rw [if_pos (by omega)] <;> with_reducible rfl)))
        try simp only [Act.put, List.getElem_toArray, List.getElem_cons_zero, List.getElem_cons_succ, List.setIfInBounds_toArray, List.set_cons_zero, List.set_cons_succ]
        refine wpAnyH_take (i := 11) (v := ?v47) rfl (by kernel_rfl) (by kernel_rfl) (by kernel_rfl) (fun _ _ _ h => h) (Or.inl ⟨by rfl, ?y47⟩) (by assumption) ?r47
        case y47 => (intro w hSw; (go_simp <;> first | with_reducible rfl | (rw [if_pos (by omega)] <;> with_reducible rfl)))
        try simp only [Act.put, List.getElem_toArray, List.getElem_cons_zero, List.getElem_cons_succ, List.setIfInBounds_toArray, List.set_cons_zero, List.set_cons_succ]
        refine wpAnyH_take (i := 12) (v := ?v48) rfl (by kernel_rfl) (by kernel_rfl) (by kernel_rfl) (fun _ _ _ h => h) (Or.inl ⟨by rfl, ?y48⟩) (by assumption) ?r48
        case y48 => (intro w hSw; obtain ⟨x0, x1, x2⟩ := hSw.1.1.cells; (go_simp <;> first | with_reducible rfl | (rw [if_pos (by omega)] <;> with_reducible rfl)))
        try simp only [Act.put, List.getElem_toArray, List.getElem_cons_zero, List.getElem_cons_succ, List.setIfInBounds_toArray, List.set_cons_zero, List.set_cons_succ]
        refine wpAnyH_take (i := 13) (v := ?v49) rfl (by kernel_rfl) (by kernel_rfl) (by kernel_rfl) (fun _ _ _ h => h) (Or.inl ⟨by rfl, ?y49⟩) (by assumption) ?r49
        case y49 => (intro w hSw; (go_simp <;> first | with_reducible rfl | (rw [if_pos (by omega)] <;> with_reducible rfl)))
        try simp only [Act.put, List.getElem_toArray, List.getElem_cons_zero, List.getElem_cons_succ, List.setIfInBounds_toArray, List.set_cons_zero, List.set_cons_succ]
        refine wpAnyH_take (i := 14) (v := ?v50) rfl (by kernel_rfl) (by kernel_rfl) (by kernel_rfl) (fun _ _ _ h => h) (Or.inl ⟨by rfl, ?y50⟩) (by assumption) ?r50
        case y50 => (intro w hSw; (go_simp <;> first | with_reducible rfl | (rw [if_pos (by omega)] <;> with_reducible rfl)))
        try simp only [Act.put, List.getElem_toArray, List.getElem_cons_zero, List.getElem_cons_succ, List.setIfInBounds_toArray, List.set_cons_zero, List.set_cons_succ]
        refine wpAnyH_take (i := 15) rfl (by kernel_rfl) (by kernel_rfl) (by kernel_rfl) (fun _ _ _ h => h) (yieldsIf_load_mid (by rfl) _ _ rfl _ _ rfl (posC z1) _ (fun w h => posRangeB h.1.2.1 HZ1.out) (Tryd.underlying28) rfl (HI1.out)) (by assumption) ?_
        try simp only [Act.put, List.getElem_toArray, List.getElem_cons_zero, List.getElem_cons_succ, List.setIfInBounds_toArray, List.set_cons_zero, List.set_cons_succ]
        refine wpAnyH_ready (rs := [8]) (by kernel_rfl) (by simp) ?_
        refine AllReadyH.cons rfl (fun K hK => ?_) AllReadyH.nil
        rw [if_pos (by rfl)]
        refine wp_load_mid _ _ rfl _ _ rfl (posC z0) _ (posRangeB HTd.out.b.gk.2.1 HZ0.out) Tryd.underlying28 rfl HI0.out ?_
        refine hK.out _ _ (hHeld) (fun hHeld => ?_)
        clear hK K
        try simp only [Act.put, List.getElem_toArray, List.getElem_cons_zero, List.getElem_cons_succ, List.setIfInBounds_toArray, List.set_cons_zero, List.set_cons_succ]
        refine wpAnyH_take (i := 16) (v := ?v51) rfl (by kernel_rfl) (by kernel_rfl) (by kernel_rfl) (fun _ _ _ h => h) (Or.inl ⟨by rfl, ?y51⟩) (by assumption) ?r51
        case y51 => (intro w hSw; (go_simp <;> first | with_reducible rfl | (rw [if_pos (by omega)] <;> with_reducible rfl)))
        try simp only [Act.put, List.getElem_toArray, List.getElem_cons_zero, List.getElem_cons_succ, List.setIfInBounds_toArray, List.set_cons_zero, List.set_cons_succ]
        refine wpAnyH_take (i := 17) (v := ?v52) rfl (by kernel_rfl) (by kernel_rfl) (by kernel_rfl) (fun _ _ _ h => h) (Or.inl ⟨by rfl, ?y52⟩) (by assumption) ?r52
        case y52 => (intro w hSw; (go_simp <;> first | with_reducible rfl | (rw [if_pos (by omega)] <;> with_reducible rfl)))
        try simp only [Act.put, List.getElem_toArray, List.getElem_cons_zero, List.getElem_cons_succ, List.setIfInBounds_toArray, List.set_cons_zero, List.set_cons_succ]
        refine wpAnyH_take (i := 18) (v := ?v53) rfl (by kernel_rfl) (by kernel_rfl) (by kernel_rfl) (fun _ _ _ h => h) (Or.inl ⟨by rfl, ?y53⟩) (by assumption) ?r53
        case y53 => (intro w hSw; (go_simp <;> first | with_reducible rfl | (rw [if_pos (by omega)] <;> with_reducible rfl)))
        try simp only [Act.put, List.getElem_toArray, List.getElem_cons_zero, List.getElem_cons_succ, List.setIfInBounds_toArray, List.set_cons_zero, List.set_cons_succ]
        refine wpAnyH_take (i := 19) (v := ?v54) rfl (by kernel_rfl) (by kernel_rfl) (by kernel_rfl) (fun _ _ _ h => h) (Or.inl ⟨by rfl, ?y54⟩) (by assumption) ?r54
        case y54 => (intro w hSw; (go_simp <;> first | with_reducible rfl | (rw [if_pos (by omega)] <;> with_reducible rfl)))
        try simp only [Act.put, List.getElem_toArray, List.getElem_cons_zero, List.getElem_cons_succ, List.setIfInBounds_toArray, List.set_cons_zero, List.set_cons_succ]
        refine wpAnyH_take (i := 20) (v := ?v55) rfl (by kernel_rfl) (by kernel_rfl) (by kernel_rfl) (fun _ _ _ h => h) (Or.inl ⟨by rfl, ?y55⟩) (by assumption) ?r55
        case y55 => (intro w hSw; obtain ⟨m0, m1, m2, m3⟩ := mv_cells' hSw.2.2; (go_simp <;> first | with_reducible rfl | (rw [if_pos (by omega)] <;> with_reducible rfl)))
        try simp only [Act.put, List.getElem_toArray, List.getElem_cons_zero, List.getElem_cons_succ, List.setIfInBounds_toArray, List.set_cons_zero, List.set_cons_succ]
        refine wpAnyH_take (i := 22) (v := ?v56) rfl (by kernel_rfl) (by kernel_rfl) (by kernel_rfl) (fun _ _ _ h => h) (Or.inl ⟨by rfl, ?y56⟩) (by assumption) ?r56
        case y56 => (intro w hSw; (go_simp <;> first | with_reducible rfl | (rw [if_pos (by omega)] <;> with_reducible rfl)))
        try simp only [Act.put, List.getElem_toArray, List.getElem_cons_zero, List.getElem_cons_succ, List.setIfInBounds_toArray, List.set_cons_zero, List.set_cons_succ]
        refine wpAnyH_ready (rs := [21]) (by kernel_rfl) (by simp) ?_
        refine AllReadyH.cons rfl (fun K hK => ?_) AllReadyH.nil
        rw [if_pos (by rfl)]
        go_simp
        go_at_call 33
        refine (MB.out _ (by (have := HT2.out.a.lt.1; have := KA.out.1; simp; omega)) HTd.out.b).mono ?_
        rintro e wq ⟨rfl, vb1, hGb, hbu⟩
        have HT3 := Lib.hid (HTd.out.makeB hGb hbu)
        refine hK.out _ _ (⟨HT3.out.a.gk, HT3.out.b.gk.1.cells.1, hbu.b3.row hHeld.2.2 (by (have := HAM.out; omega)) (by (have := HAM.out; omega)) (fun e => HAM.out.2.2 e.symm)⟩) (fun hHeld => ?_)
        clear hK K
        refine wpAnyH_mono (S' := fun W => Below wq.heap.size wq W) (fun W h => ⟨HT3.out.a.gk.grow h, (HT3.out.b.gk.grow h).1.cells.1, (h.block _ (lt_of_row' hHeld.2.2)).trans hHeld.2.2⟩) ?_
        have HR3 := Lib.hid (RP.but3 (RP.drew HR2.out) hbu.b3 KB'.out.1 KB'.out.2 (fun k e => (HTd.out.b.lt.2.2 k e).1))
        have hHeld := bref wq
        clear hGb hbu
        try simp only [Act.put, List.getElem_toArray, List.getElem_cons_zero, List.getElem_cons_succ, List.setIfInBounds_toArray, List.set_cons_zero, List.set_cons_succ]
        refine wpAnyH_take (i := 23) (v := ?v57) rfl (by kernel_rfl) (by kernel_rfl) (by kernel_rfl) (fun _ _ _ h => h) (Or.inl ⟨by rfl, ?y57⟩) (by assumption) ?r57
        case y57 => (intro w hSw; (go_simp <;> first | with_reducible rfl | (rw [if_pos (by omega)] <;> with_reducible rfl)))
        try simp only [Act.put, List.getElem_toArray, List.getElem_cons_zero, List.getElem_cons_succ, List.setIfInBounds_toArray, List.set_cons_zero, List.set_cons_succ]
        refine wpAnyH_take (i := 24) (v := ?v58) rfl (by kernel_rfl) (by kernel_rfl) (by kernel_rfl) (fun _ _ _ h => h) (Or.inl ⟨by rfl, ?y58⟩) (by assumption) ?r58
        case y58 => (intro w hSw; (go_simp <;> first | with_reducible rfl | (rw [if_pos (by omega)] <;> with_reducible rfl)))
        try simp only [Act.put, List.getElem_toArray, List.getElem_cons_zero, List.getElem_cons_succ, List.setIfInBounds_toArray, List.set_cons_zero, List.set_cons_succ]
        refine wpAnyH_take (i := 25) (v := ?v59) rfl (by kernel_rfl) (by kernel_rfl) (by kernel_rfl) (fun _ _ _ h => h) (Or.inl ⟨by rfl, ?y59⟩) (by assumption) ?r59
        case y59 => (intro w hSw; (go_simp <;> first | with_reducible rfl | (rw [if_pos (by omega)] <;> with_reducible rfl)))
        try simp only [Act.put, List.getElem_toArray, List.getElem_cons_zero, List.getElem_cons_succ, List.setIfInBounds_toArray, List.set_cons_zero, List.set_cons_succ]
        refine wpAnyH_take (i := 26) (v := ?v60) rfl (by kernel_rfl) (by kernel_rfl) (by kernel_rfl) (fun _ _ _ h => h) (Or.inl ⟨by rfl, ?y60⟩) (by assumption) ?r60
        case y60 => (intro w hSw; (go_simp <;> first | with_reducible rfl | (rw [if_pos (by omega)] <;> with_reducible rfl)))
        try simp only [Act.put, List.getElem_toArray, List.getElem_cons_zero, List.getElem_cons_succ, List.setIfInBounds_toArray, List.set_cons_zero, List.set_cons_succ]
        refine wpAnyH_take (i := 27) (v := ?v61) rfl (by kernel_rfl) (by kernel_rfl) (by kernel_rfl) (fun _ _ _ h => h) (Or.inl ⟨by rfl, ?y61⟩) (by assumption) ?r61
        case y61 => (intro w hSw; (go_simp <;> first | with_reducible rfl | (rw [if_pos (by omega)] <;> with_reducible rfl)))
        try simp only [Act.put, List.getElem_toArray, List.getElem_cons_zero, List.getElem_cons_succ, List.setIfInBounds_toArray, List.set_cons_zero, List.set_cons_succ]
        refine wpAnyH_take (i := 28) (v := ?v62) rfl (by kernel_rfl) (by kernel_rfl) (by kernel_rfl) (fun _ _ _ h => h) (Or.inl ⟨by rfl, ?y62⟩) (by assumption) ?r62
        case y62 => (intro w hSw; (go_simp <;> first | with_reducible rfl | (rw [if_pos (by omega)] <;> with_reducible rfl)))
        try simp only [Act.put, List.getElem_toArray, List.getElem_cons_zero, List.getElem_cons_succ, List.setIfInBounds_toArray, List.set_cons_zero, List.set_cons_succ]
        refine wpAnyH_take (i := 29) (v := ?v63) rfl (by kernel_rfl) (by kernel_rfl) (by kernel_rfl) (fun _ _ _ h => h) (Or.inl ⟨by rfl, ?y63⟩) (by assumption) ?r63
        case y63 => (intro w hSw; obtain ⟨x0, x1, x2⟩ := (HT3.out.a.gk.grow hSw).1.cells; (go_simp <;> first | with_reducible rfl | (rw [if_pos (by omega)] <;> with_reducible rfl)))
        try simp only [Act.put, List.getElem_toArray, List.getElem_cons_zero, List.getElem_cons_succ, List.setIfInBounds_toArray, List.set_cons_zero, List.set_cons_succ]
        refine wpAnyH_take (i := 30) (v := ?v64) rfl (by kernel_rfl) (by kernel_rfl) (by kernel_rfl) (fun _ _ _ h => h) (Or.inl ⟨by rfl, ?y64⟩) (by assumption) ?r64
        case y64 => (intro w hSw; (go_simp <;> first | with_reducible rfl | (rw [if_pos (by omega)] <;> with_reducible rfl)))
        try simp only [Act.put, List.getElem_toArray, List.getElem_cons_zero, List.getElem_cons_succ, List.setIfInBounds_toArray, List.set_cons_zero, List.set_cons_succ]
        refine wpAnyH_take (i := 31) (v := ?v65) rfl (by kernel_rfl) (by kernel_rfl) (by kernel_rfl) (fun _ _ _ h => h) (Or.inl ⟨by rfl, ?y65⟩) (by assumption) ?r65
        case y65 => (intro w hSw; (go_simp <;> first | with_reducible rfl | (rw [if_pos (by omega)] <;> with_reducible rfl)))
        try simp only [Act.put, List.getElem_toArray, List.getElem_cons_zero, List.getElem_cons_succ, List.setIfInBounds_toArray, List.set_cons_zero, List.set_cons_succ]
        refine wpAnyH_take (i := 32) rfl (by kernel_rfl) (by kernel_rfl) (by kernel_rfl) (fun _ _ _ h => h) (yieldsIf_load_mid (by rfl) _ _ rfl _ _ rfl (posC z1) _ (fun w h => posRangeB (HT3.out.a.gk.grow h).2.1 HZ1.out) (Tryd.underlying28) rfl (HI1.out)) (by assumption) ?_
        try simp only [Act.put, List.getElem_toArray, List.getElem_cons_zero, List.getElem_cons_succ, List.setIfInBounds_toArray, List.set_cons_zero, List.set_cons_succ]
        refine wpAnyH_take (i := 33) (v := ?v66) rfl (by kernel_rfl) (by kernel_rfl) (by kernel_rfl) (fun _ _ _ h => h) (Or.inl ⟨by rfl, ?y66⟩) (by assumption) ?r66
        case y66 => (intro w hSw; (go_simp <;> first | with_reducible rfl | (rw [if_pos (by omega)] <;> with_reducible rfl)))
        try simp only [Act.put, List.getElem_toArray, List.getElem_cons_zero, List.getElem_cons_succ, List.setIfInBounds_toArray, List.set_cons_zero, List.set_cons_succ]
        refine wpAnyH_take (i := 34) (v := ?v67) rfl (by kernel_rfl) (by kernel_rfl) (by kernel_rfl) (fun _ _ _ h => h) (Or.inl ⟨by rfl, ?y67⟩) (by assumption) ?r67
        case y67 => (intro w hSw; (go_simp <;> first | with_reducible rfl | (rw [if_pos (by omega)] <;> with_reducible rfl)))
        try simp only [Act.put, List.getElem_toArray, List.getElem_cons_zero, List.getElem_cons_succ, List.setIfInBounds_toArray, List.set_cons_zero, List.set_cons_succ]
        refine wpAnyH_take (i := 35) (v := ?v68) rfl (by kernel_rfl) (by kernel_rfl) (by kernel_rfl) (fun _ _ _ h => h) (Or.inl ⟨by rfl, ?y68⟩) (by assumption) ?r68
        case y68 => (intro w hSw; (go_simp <;> first | with_reducible rfl | (rw [if_pos (by omega)] <;> with_reducible rfl)))
        try simp only [Act.put, List.getElem_toArray, List.getElem_cons_zero, List.getElem_cons_succ, List.setIfInBounds_toArray, List.set_cons_zero, List.set_cons_succ]
        refine wpAnyH_take (i := 36) (v := ?v69) rfl (by kernel_rfl) (by kernel_rfl) (by kernel_rfl) (fun _ _ _ h => h) (Or.inl ⟨by rfl, ?y69⟩) (by assumption) ?r69
        case y69 => (intro w hSw; obtain ⟨y0, y1, y2⟩ := (HT3.out.b.gk.grow hSw).1.cells; (go_simp <;> first | with_reducible rfl | (rw [if_pos (by omega)] <;> with_reducible rfl)))
        try simp only [Act.put, List.getElem_toArray, List.getElem_cons_zero, List.getElem_cons_succ, List.setIfInBounds_toArray, List.set_cons_zero, List.set_cons_succ]
        refine wpAnyH_take (i := 37) (v := ?v70) rfl (by kernel_rfl) (by kernel_rfl) (by kernel_rfl) (fun _ _ _ h => h) (Or.inl ⟨by rfl, ?y70⟩) (by assumption) ?r70
        case y70 => (intro w hSw; (go_simp <;> first | with_reducible rfl | (rw [if_pos (by omega)] <;> with_reducible rfl)))
        try simp only [Act.put, List.getElem_toArray, List.getElem_cons_zero, List.getElem_cons_succ, List.setIfInBounds_toArray, List.set_cons_zero, List.set_cons_succ]
        refine wpAnyH_take (i := 38) (v := ?v71) rfl (by kernel_rfl) (by kernel_rfl) (by kernel_rfl) (fun _ _ _ h => h) (Or.inl ⟨by rfl, ?y71⟩) (by assumption) ?r71
        case y71 => (intro w hSw; (go_simp <;> first | with_reducible rfl | (rw [if_pos (by omega)] <;> with_reducible rfl)))
        try simp only [Act.put, List.getElem_toArray, List.getElem_cons_zero, List.getElem_cons_succ, List.setIfInBounds_toArray, List.set_cons_zero, List.set_cons_succ]
        refine wpAnyH_take (i := 39) rfl (by kernel_rfl) (by kernel_rfl) (by kernel_rfl) (fun _ _ _ h => h) (yieldsIf_load_mid (by rfl) _ _ rfl _ _ rfl (posC z1) _ (fun w h => posRangeB (HT3.out.b.gk.grow h).2.1 HZ1.out) (Tryd.underlying28) rfl (HI1.out)) (by assumption) ?_
        try simp only [Act.put, List.getElem_toArray, List.getElem_cons_zero, List.getElem_cons_succ, List.setIfInBounds_toArray, List.set_cons_zero, List.set_cons_succ]
        refine wpAnyH_take (i := 40) (v := ?v72) rfl (by kernel_rfl) (by kernel_rfl) (by kernel_rfl) (fun _ _ _ h => h) (Or.inl ⟨by rfl, ?y72⟩) (by assumption) ?r72
        case y72 => (intro w hSw; (go_simp <;> first | with_reducible rfl | (rw [if_pos (by omega)] <;> with_reducible rfl)))
        try simp only [Act.put, List.getElem_toArray, List.getElem_cons_zero, List.getElem_cons_succ, List.setIfInBounds_toArray, List.set_cons_zero, List.set_cons_succ]
        refine wpAnyH_take (i := 41) (v := ?v73) rfl (by kernel_rfl) (by kernel_rfl) (by kernel_rfl) (fun _ _ _ h => h) (Or.inl ⟨by rfl, ?y73⟩) (by assumption) ?r73
        case y73 => (intro w hSw; (go_simp <;> first | with_reducible rfl | (rw [if_pos (by omega)] <;> with_reducible rfl)))
        try simp only [Act.put, List.getElem_toArray, List.getElem_cons_zero, List.getElem_cons_succ, List.setIfInBounds_toArray, List.set_cons_zero, List.set_cons_succ]
        refine wpAnyH_take (i := 42) (v := ?v74) rfl (by kernel_rfl) (by kernel_rfl) (by kernel_rfl) (fun _ _ _ h => h) (Or.inl ⟨by rfl, ?y74⟩) (by assumption) ?r74
        case y74 => (intro w hSw; (go_simp <;> first | with_reducible rfl | (rw [if_pos (by omega)] <;> with_reducible rfl)))
        try simp only [Act.put, List.getElem_toArray, List.getElem_cons_zero, List.getElem_cons_succ, List.setIfInBounds_toArray, List.set_cons_zero, List.set_cons_succ]
        refine wpAnyH_take (i := 43) (v := ?v75) rfl (by kernel_rfl) (by kernel_rfl) (by kernel_rfl) (fun _ _ _ h => h) (Or.inl ⟨by rfl, ?y75⟩) (by assumption) ?r75
        case y75 => (intro w hSw; (go_simp <;> first | with_reducible rfl | (rw [if_pos (by omega)] <;> with_reducible rfl)))
        try simp only [Act.put, List.getElem_toArray, List.getElem_cons_zero, List.getElem_cons_succ, List.setIfInBounds_toArray, List.set_cons_zero, List.set_cons_succ]
        refine wpAnyH_take (i := 45) (v := ?v76) rfl (by kernel_rfl) (by kernel_rfl) (by kernel_rfl) (fun _ _ _ h => h) (Or.inl ⟨by rfl, ?y76⟩) (by assumption) ?r76
        case y76 => (intro w hSw; (go_simp <;> first | with_reducible rfl | (rw [if_pos (by omega)] <;> with_reducible rfl)))
        try simp only [Act.put, List.getElem_toArray, List.getElem_cons_zero, List.getElem_cons_succ, List.setIfInBounds_toArray, List.set_cons_zero, List.set_cons_succ]
        refine wpAnyH_ready (rs := [44]) (by kernel_rfl) (by simp) ?_
        refine AllReadyH.cons rfl (fun K hK => ?_) AllReadyH.nil
        rw [if_pos (by rfl)]
        go_simp
        go_at_call 35
        refine (KA2.out _ (HT3.out.a.gk.grow hHeld)).mono ?_
        rintro e wq ⟨rfl, rfl⟩
        refine hK.out _ _ (hHeld) (fun hHeld => ?_)
        clear hK K
        try simp only [Act.put, List.getElem_toArray, List.getElem_cons_zero, List.getElem_cons_succ, List.setIfInBounds_toArray, List.set_cons_zero, List.set_cons_succ]
        refine wpAnyH_ready (rs := [46]) (by kernel_rfl) (by simp) ?_
        refine AllReadyH.cons rfl (fun K hK => ?_) AllReadyH.nil
        rw [if_pos (by rfl)]
        go_simp
        go_at_call 35
        refine (KB2.out _ _ (HT3.out.b.gk.grow hHeld)).mono ?_
        rintro e wq ⟨rfl, rfl⟩
        refine hK.out _ _ (hHeld) (fun hHeld => ?_)
        clear hK K
        try simp only [Act.put, List.getElem_toArray, List.getElem_cons_zero, List.getElem_cons_succ, List.setIfInBounds_toArray, List.set_cons_zero, List.set_cons_succ]
        refine wpAnyH_take (i := 47) (v := ?v77) rfl (by kernel_rfl) (by kernel_rfl) (by kernel_rfl) (fun _ _ _ h => h) (Or.inl ⟨by rfl, ?y77⟩) (by assumption) ?r77
        case y77 => (intro w hSw; (go_simp <;> first | with_reducible rfl | (rw [if_pos (by omega)] <;> with_reducible rfl)))
        try simp only [Act.put, List.getElem_toArray, List.getElem_cons_zero, List.getElem_cons_succ, List.setIfInBounds_toArray, List.set_cons_zero, List.set_cons_succ]
        refine wpAnyH_take (i := 48) (v := ?v78) rfl (by kernel_rfl) (by kernel_rfl) (by kernel_rfl) (fun _ _ _ h => h) (Or.inl ⟨by rfl, ?y78⟩) (by assumption) ?r78
        case y78 => (intro w hSw; (go_simp <;> first | with_reducible rfl | (rw [if_pos (by omega)] <;> with_reducible rfl)))
        try simp only [Act.put, List.getElem_toArray, List.getElem_cons_zero, List.getElem_cons_succ, List.setIfInBounds_toArray, List.set_cons_zero, List.set_cons_succ]
        refine wpAnyH_take (i := 49) (v := ?v79) rfl (by kernel_rfl) (by kernel_rfl) (by kernel_rfl) (fun _ _ _ h => h) (Or.inl ⟨by rfl, ?y79⟩) (by assumption) ?r79
        case y79 => (intro w hSw; (go_simp <;> first | with_reducible rfl | (rw [if_pos (by omega)] <;> with_reducible rfl)))
        try simp only [Act.put, List.getElem_toArray, List.getElem_cons_zero, List.getElem_cons_succ, List.setIfInBounds_toArray, List.set_cons_zero, List.set_cons_succ]
        refine wpAnyH_take (i := 50) (v := ?v80) rfl (by kernel_rfl) (by kernel_rfl) (by kernel_rfl) (fun _ _ _ h => h) (Or.inl ⟨by rfl, ?y80⟩) (by assumption) ?r80
        case y80 => (intro w hSw; (go_simp <;> first | with_reducible rfl | (rw [if_pos (by omega)] <;> with_reducible rfl)))
        try simp only [Act.put, List.getElem_toArray, List.getElem_cons_zero, List.getElem_cons_succ, List.setIfInBounds_toArray, List.set_cons_zero, List.set_cons_succ]
        refine wpAnyH_take (i := 52) (v := ?v81) rfl (by kernel_rfl) (by kernel_rfl) (by kernel_rfl) (fun _ _ _ h => h) (Or.inl ⟨by rfl, ?y81⟩) (by assumption) ?r81
        case y81 => (intro w hSw; (go_simp <;> first | with_reducible rfl | (rw [if_pos (by omega)] <;> with_reducible rfl)))
        try simp only [Act.put, List.getElem_toArray, List.getElem_cons_zero, List.getElem_cons_succ, List.setIfInBounds_toArray, List.set_cons_zero, List.set_cons_succ]
        refine wpAnyH_ready (rs := [51]) (by kernel_rfl) (by simp) ?_
        refine AllReadyH.cons rfl (fun K hK => ?_) AllReadyH.nil
        rw [if_pos (by rfl)]
        go_simp
        go_at_call 34
        refine (LA2.out _ (HT3.out.a.grow hHeld)).mono ?_
        rintro e wq ⟨rfl, rfl⟩
        refine hK.out _ _ (hHeld) (fun hHeld => ?_)
        clear hK K
        try simp only [Act.put, List.getElem_toArray, List.getElem_cons_zero, List.getElem_cons_succ, List.setIfInBounds_toArray, List.set_cons_zero, List.set_cons_succ]
        refine wpAnyH_ready (rs := [53]) (by kernel_rfl) (by simp) ?_
        refine AllReadyH.cons rfl (fun K hK => ?_) AllReadyH.nil
        rw [if_pos (by rfl)]
        go_simp
        go_at_call 34
        refine (LB2.out _ _ (HT3.out.b.grow hHeld)).mono ?_
        rintro e wq ⟨rfl, rfl⟩
        refine hK.out _ _ (hHeld) (fun hHeld => ?_)
        clear hK K
        try simp only [Act.put, List.getElem_toArray, List.getElem_cons_zero, List.getElem_cons_succ, List.setIfInBounds_toArray, List.set_cons_zero, List.set_cons_succ]
        refine wpAnyH_take (i := 54) (v := ?v82) rfl (by kernel_rfl) (by kernel_rfl) (by kernel_rfl) (fun _ _ _ h => h) (Or.inl ⟨by rfl, ?y82⟩) (by assumption) ?r82
        case y82 => (intro w hSw; (go_simp <;> first | with_reducible rfl | (rw [if_pos (by omega)] <;> with_reducible rfl)))
        try simp only [Act.put, List.getElem_toArray, List.getElem_cons_zero, List.getElem_cons_succ, List.setIfInBounds_toArray, List.set_cons_zero, List.set_cons_succ]
        refine wpAnyH_take (i := 55) (v := ?v83) rfl (by kernel_rfl) (by kernel_rfl) (by kernel_rfl) (fun _ _ _ h => h) (Or.inl ⟨by rfl, ?y83⟩) (by assumption) ?r83
        case y83 => (intro w hSw; (go_simp <;> first | with_reducible rfl | (rw [if_pos (by omega)] <;> with_reducible rfl)))
        try simp only [Act.put, List.getElem_toArray, List.getElem_cons_zero, List.getElem_cons_succ, List.setIfInBounds_toArray, List.set_cons_zero, List.set_cons_succ]
        refine wpAnyH_done (by kernel_rfl) ?_ _
        have HT4 := Lib.hid (HT3.out.grow hHeld)
        have HR4 := Lib.hid (HR3.out.grow hHeld)
        go_wp2_with fail
        go_roundw
        case rel => exact ⟨k + 1, by omega, by go_num, H1, z1, va1, vb1, HT4.out, by (have := HLE.out; have := HHL.out; omega), HR4.out⟩
        case measure => simp [intOf]; omega
    · obtain rfl : k = M.length := by omega
      go_wp2_with fail
      go_loopw [] (fun wz => ∃ H z va vb, HInv wz (w.heap.size + 1) ga ba zc H z va ∧ HInv wz (w.heap.size + 1) gb bb zc H0 z0 vb ∧ H.length ≤ M.length ∧ RP w zc wz) (fun wz => lenA wz ga)
      case atStart => exact ⟨H0, z0, va0, vb0, HT.out.a, HT.out.b, HL.out, HR.out⟩
      case round =>
        rename World => WZ
        obtain ⟨H, z1, va, vb, hA, hB, hH, hR⟩ := hrel
        have HRz := Lib.hid hR
        have HNS := Lib.hid (And.intro (And.intro HT.out.n1 HT.out.n2) (And.intro HT.out.n3 HT.out.n4))
        rcases H.eq_nil_or_concat with rfl | ⟨H', ⟨z', m'⟩, hcc⟩
        · obtain rfl := hist_nil hA.hist
          have HA0 := Lib.hid HZC.out
          have HA := Lib.hid hA
          have HB := Lib.hid hB
          have HLB := Lib.hid HL.out
          clear hA hB hH hR HT HL
          have BK := Lib.hid (fun W (h : HInv W (w.heap.size + 1) ga ba z1 [] z1 va) => hback_no (w.heap.size + 1) ga ba z1 z1 va W h)
          have LA := Lib.hid (fun W (h : HInv W (w.heap.size + 1) ga ba z1 [] z1 va) => hlen (w.heap.size + 1) ga ba z1 z1 [] va W h)
          have LB := Lib.hid (fun W (h : HInv W (w.heap.size + 1) gb bb z1 H0 z0 vb) => hlen (w.heap.size + 1) gb bb z1 z0 H0 vb W h)
          have hle : (H0.length : Int) ≤ (M.length : Int) := by (have := HLB.out; omega)
          generalize H0.length = hl at LB hle
          rw [show ((([] : List (List Int × Mv)).length : Nat) : Int) = 0 from rfl] at LA
          go_upto_region 17 with (first
            | (go_at_call 37; refine (BK.out _ HA.out).mono ?_; rintro e wq ⟨rfl, rfl⟩)
            | fail)
          refine wp_region_held_drew (S := fun W => Below WZ.heap.size WZ W) (by kernel_rfl) ?_ (fun hHeld => ?_)
          · exact (bref WZ).drew
          refine wpAnyH_take (i := 0) (v := ?v84) rfl (by kernel_rfl) (by kernel_rfl) (by kernel_rfl) (fun _ _ _ h => h) (Or.inl ⟨by rfl, ?y84⟩) (by assumption) ?r84
          case y84 => (intro w hSw; (go_simp <;> first | with_reducible rfl | (rw [if_pos (by omega)] <;> with_reducible rfl)))
          try simp only [Act.put, List.getElem_toArray, List.getElem_cons_zero, List.getElem_cons_succ, List.setIfInBounds_toArray, List.set_cons_zero, List.set_cons_succ]
          refine wpAnyH_take (i := 1) (v := ?v85) rfl (by kernel_rfl) (by kernel_rfl) (by kernel_rfl) (fun _ _ _ h => h) (Or.inl ⟨by rfl, ?y85⟩) (by assumption) ?r85
          case y85 => (intro w hSw; (go_simp <;> first | with_reducible rfl | (rw [if_pos (by omega)] <;> with_reducible rfl)))
          try simp only [Act.put, List.getElem_toArray, List.getElem_cons_zero, List.getElem_cons_succ, List.setIfInBounds_toArray, List.set_cons_zero, List.set_cons_succ]
          refine wpAnyH_take (i := 2) (v := ?v86) rfl (by kernel_rfl) (by kernel_rfl) (by kernel_rfl) (fun _ _ _ h => h) (Or.inl ⟨by rfl, ?y86⟩) (by assumption) ?r86
          case y86 => (intro w hSw; (go_simp <;> first | with_reducible rfl | (rw [if_pos (by omega)] <;> with_reducible rfl)))
          try simp only [Act.put, List.getElem_toArray, List.getElem_cons_zero, List.getElem_cons_succ, List.setIfInBounds_toArray, List.set_cons_zero, List.set_cons_succ]
          refine wpAnyH_take (i := 3) (v := ?v87) rfl (by kernel_rfl) (by kernel_rfl) (by kernel_rfl) (fun _ _ _ h => h) (Or.inl ⟨by rfl, ?y87⟩) (by assumption) ?r87
          case y87 => (intro w hSw; obtain ⟨x0, x1, x2⟩ := (HA.out.gk.grow hSw).1.cells; (go_simp <;> first | with_reducible rfl | (rw [if_pos (by omega)] <;> with_reducible rfl)))
          try simp only [Act.put, List.getElem_toArray, List.getElem_cons_zero, List.getElem_cons_succ, List.setIfInBounds_toArray, List.set_cons_zero, List.set_cons_succ]
          refine wpAnyH_take (i := 4) (v := ?v88) rfl (by kernel_rfl) (by kernel_rfl) (by kernel_rfl) (fun _ _ _ h => h) (Or.inl ⟨by rfl, ?y88⟩) (by assumption) ?r88
          case y88 => (intro w hSw; (go_simp <;> first | with_reducible rfl | (rw [if_pos (by omega)] <;> with_reducible rfl)))
          try simp only [Act.put, List.getElem_toArray, List.getElem_cons_zero, List.getElem_cons_succ, List.setIfInBounds_toArray, List.set_cons_zero, List.set_cons_succ]
          refine wpAnyH_take (i := 5) (v := ?v89) rfl (by kernel_rfl) (by kernel_rfl) (by kernel_rfl) (fun _ _ _ h => h) (Or.inl ⟨by rfl, ?y89⟩) (by assumption) ?r89
          case y89 => (intro w hSw; (go_simp <;> first | with_reducible rfl | (rw [if_pos (by omega)] <;> with_reducible rfl)))
          try simp only [Act.put, List.getElem_toArray, List.getElem_cons_zero, List.getElem_cons_succ, List.setIfInBounds_toArray, List.set_cons_zero, List.set_cons_succ]
          refine wpAnyH_take (i := 6) rfl (by kernel_rfl) (by kernel_rfl) (by kernel_rfl) (fun _ _ _ h => h) (yieldsIf_load_mid (by rfl) _ _ rfl _ _ rfl (posC z1) _ (fun w h => posRangeB (HA.out.gk.grow h).2.1 HA0.out) (Tryd.underlying28) rfl (HINFC.out)) (by assumption) ?_
          try simp only [Act.put, List.getElem_toArray, List.getElem_cons_zero, List.getElem_cons_succ, List.setIfInBounds_toArray, List.set_cons_zero, List.set_cons_succ]
          refine wpAnyH_take (i := 7) rfl (by kernel_rfl) (by kernel_rfl) (by kernel_rfl) (fun _ _ _ h => h) (yieldsIf_load_mid (by rfl) _ _ rfl _ _ rfl (posC z1) _ (fun w h => (HRz.out.grow h).1.range) (Tryd.underlying28) rfl (HINFC.out)) (by assumption) ?_
          try simp only [Act.put, List.getElem_toArray, List.getElem_cons_zero, List.getElem_cons_succ, List.setIfInBounds_toArray, List.set_cons_zero, List.set_cons_succ]
          refine wpAnyH_take (i := 8) (v := ?v90) rfl (by kernel_rfl) (by kernel_rfl) (by kernel_rfl) (fun _ _ _ h => h) (Or.inl ⟨by rfl, ?y90⟩) (by assumption) ?r90
          case y90 => (intro w hSw; (go_simp <;> first | with_reducible rfl | (rw [if_pos (by omega)] <;> with_reducible rfl)))
          try simp only [Act.put, List.getElem_toArray, List.getElem_cons_zero, List.getElem_cons_succ, List.setIfInBounds_toArray, List.set_cons_zero, List.set_cons_succ]
          refine wpAnyH_take (i := 9) (v := ?v91) rfl (by kernel_rfl) (by kernel_rfl) (by kernel_rfl) (fun _ _ _ h => h) (Or.inl ⟨by rfl, ?y91⟩) (by assumption) ?r91
          case y91 => (intro w hSw; (go_simp <;> first | with_reducible rfl | (rw [if_pos (by omega)] <;> with_reducible rfl)))
          try simp only [Act.put, List.getElem_toArray, List.getElem_cons_zero, List.getElem_cons_succ, List.setIfInBounds_toArray, List.set_cons_zero, List.set_cons_succ]
          refine wpAnyH_take (i := 10) (v := ?v92) rfl (by kernel_rfl) (by kernel_rfl) (by kernel_rfl) (fun _ _ _ h => h) (Or.inl ⟨by rfl, ?y92⟩) (by assumption) ?r92
          case y92 => (intro w hSw; (go_simp <;> first | with_reducible rfl | (rw [if_pos (by omega)] <;> with_reducible rfl)))
          try simp only [Act.put, List.getElem_toArray, List.getElem_cons_zero, List.getElem_cons_succ, List.setIfInBounds_toArray, List.set_cons_zero, List.set_cons_succ]
          refine wpAnyH_ready (rs := [11]) (by kernel_rfl) (by simp) ?_
          refine AllReadyH.cons rfl (fun K hK => ?_) AllReadyH.nil
          rw [if_pos (by rfl)]
          go_simp
          go_at_call 34
          refine (LA.out _ (HA.out.grow hHeld)).mono ?_
          rintro e wq ⟨rfl, rfl⟩
          refine hK.out _ _ (hHeld) (fun hHeld => ?_)
          clear hK K
          try simp only [Act.put, List.getElem_toArray, List.getElem_cons_zero, List.getElem_cons_succ, List.setIfInBounds_toArray, List.set_cons_zero, List.set_cons_succ]
          refine wpAnyH_take (i := 12) (v := ?v93) rfl (by kernel_rfl) (by kernel_rfl) (by kernel_rfl) (fun _ _ _ h => h) (Or.inl ⟨by rfl, ?y93⟩) (by assumption) ?r93
          case y93 => (intro w hSw; (go_simp <;> first | with_reducible rfl | (rw [if_pos (by omega)] <;> with_reducible rfl)))
          try simp only [Act.put, List.getElem_toArray, List.getElem_cons_zero, List.getElem_cons_succ, List.setIfInBounds_toArray, List.set_cons_zero, List.set_cons_succ]
          refine wpAnyH_take (i := 13) (v := ?v94) rfl (by kernel_rfl) (by kernel_rfl) (by kernel_rfl) (fun _ _ _ h => h) (Or.inl ⟨by rfl, ?y94⟩) (by assumption) ?r94
          case y94 => (intro w hSw; (go_simp <;> first | with_reducible rfl | (rw [if_pos (by omega)] <;> with_reducible rfl)))
          try simp only [Act.put, List.getElem_toArray, List.getElem_cons_zero, List.getElem_cons_succ, List.setIfInBounds_toArray, List.set_cons_zero, List.set_cons_succ]
          refine wpAnyH_take (i := 14) (v := ?v95) rfl (by kernel_rfl) (by kernel_rfl) (by kernel_rfl) (fun _ _ _ h => h) (Or.inl ⟨by rfl, ?y95⟩) (by assumption) ?r95
          case y95 => (intro w hSw; (go_simp <;> first | with_reducible rfl | (rw [if_pos (by omega)] <;> with_reducible rfl)))
          try simp only [Act.put, List.getElem_toArray, List.getElem_cons_zero, List.getElem_cons_succ, List.setIfInBounds_toArray, List.set_cons_zero, List.set_cons_succ]
          refine wpAnyH_take (i := 15) (v := ?v96) rfl (by kernel_rfl) (by kernel_rfl) (by kernel_rfl) (fun _ _ _ h => h) (Or.inl ⟨by rfl, ?y96⟩) (by assumption) ?r96
          case y96 => (intro w hSw; (go_simp <;> first | with_reducible rfl | (rw [if_pos (by omega)] <;> with_reducible rfl)))
          try simp only [Act.put, List.getElem_toArray, List.getElem_cons_zero, List.getElem_cons_succ, List.setIfInBounds_toArray, List.set_cons_zero, List.set_cons_succ]
          refine wpAnyH_take (i := 17) (v := ?v97) rfl (by kernel_rfl) (by kernel_rfl) (by kernel_rfl) (fun _ _ _ h => h) (Or.inl ⟨by rfl, ?y97⟩) (by assumption) ?r97
          case y97 => (intro w hSw; (go_simp <;> first | with_reducible rfl | (rw [if_pos (by omega)] <;> with_reducible rfl)))
          try simp only [Act.put, List.getElem_toArray, List.getElem_cons_zero, List.getElem_cons_succ, List.setIfInBounds_toArray, List.set_cons_zero, List.set_cons_succ]
          refine wpAnyH_take (i := 18) (v := ?v98) rfl (by kernel_rfl) (by kernel_rfl) (by kernel_rfl) (fun _ _ _ h => h) (Or.inl ⟨by rfl, ?y98⟩) (by assumption) ?r98
          case y98 => (intro w hSw; (go_simp <;> first | with_reducible rfl | (rw [if_pos (by omega)] <;> with_reducible rfl)))
          try simp only [Act.put, List.getElem_toArray, List.getElem_cons_zero, List.getElem_cons_succ, List.setIfInBounds_toArray, List.set_cons_zero, List.set_cons_succ]
          refine wpAnyH_ready (rs := [16]) (by kernel_rfl) (by simp) ?_
          refine AllReadyH.cons rfl (fun K hK => ?_) AllReadyH.nil
          rw [if_pos (by rfl)]
          go_simp
          go_at_call 34
          refine (LB.out _ (HB.out.grow hHeld)).mono ?_
          rintro e wq ⟨rfl, rfl⟩
          refine hK.out _ _ (hHeld) (fun hHeld => ?_)
          clear hK K
          try simp only [Act.put, List.getElem_toArray, List.getElem_cons_zero, List.getElem_cons_succ, List.setIfInBounds_toArray, List.set_cons_zero, List.set_cons_succ]
          refine wpAnyH_take (i := 19) (v := ?v99) rfl (by kernel_rfl) (by kernel_rfl) (by kernel_rfl) (fun _ _ _ h => h) (Or.inl ⟨by rfl, ?y99⟩) (by assumption) ?r99
          case y99 => (intro w hSw; (go_simp <;> first | with_reducible rfl | (rw [if_pos (by omega)] <;> with_reducible rfl)))
          try simp only [Act.put, List.getElem_toArray, List.getElem_cons_zero, List.getElem_cons_succ, List.setIfInBounds_toArray, List.set_cons_zero, List.set_cons_succ]
          refine wpAnyH_take (i := 20) (v := ?v100) rfl (by kernel_rfl) (by kernel_rfl) (by kernel_rfl) (fun _ _ _ h => h) (Or.inl ⟨by rfl, ?y100⟩) (by assumption) ?r100
          case y100 => (intro w hSw; (go_simp <;> first | with_reducible rfl | (rw [if_pos (by omega)] <;> with_reducible rfl)))
          try simp only [Act.put, List.getElem_toArray, List.getElem_cons_zero, List.getElem_cons_succ, List.setIfInBounds_toArray, List.set_cons_zero, List.set_cons_succ]
          refine wpAnyH_take (i := 21) (v := ?v101) rfl (by kernel_rfl) (by kernel_rfl) (by kernel_rfl) (fun _ _ _ h => h) (Or.inl ⟨by rfl, ?y101⟩) (by assumption) ?r101
          case y101 => (intro w hSw; (go_simp <;> first | with_reducible rfl | (rw [if_pos (by omega)] <;> with_reducible rfl)))
          try simp only [Act.put, List.getElem_toArray, List.getElem_cons_zero, List.getElem_cons_succ, List.setIfInBounds_toArray, List.set_cons_zero, List.set_cons_succ]
          refine wpAnyH_done (by kernel_rfl) ?_ _
          have HF := Lib.hid (bthen HRz.out.2 hHeld)
          go_wp2_with fail
          go_ret
          exact ⟨rfl, HF.out⟩
        · rw [List.concat_eq_append] at hcc
          have hHl : H'.length + 1 = H.length := by rw [hcc, List.length_append]; rfl
          have LZ := Lib.hid (len_of hA)
          rw [hcc] at hA
          have HA := Lib.hid hA
          have HB := Lib.hid hB
          have HHl := Lib.hid hHl
          have HHm := Lib.hid hH
          clear hA hB hH hR hcc hHl
          have BK := Lib.hid (fun W (h : HInv W (w.heap.size + 1) ga ba zc (H' ++ [(z', m')]) z1 va) => hback_yes (w.heap.size + 1) ga ba 18 zc H' z1 z' m' va HPO.out (by (have := HLN.out; have := HHl.out; have := HHm.out; omega)) (by (have := HLN.out; have := HHl.out; have := HHm.out; omega)) W h)
          go_wp2_with (first
            | (go_at_call 37; refine (BK.out _ HA.out).mono ?_; rintro e wq ⟨rfl, v', hG, hb⟩; have HG5 := Lib.hid hG; have HB5 := Lib.hid (happart HA.out HB.out HNS.out.1.1 HNS.out.1.2 HNS.out.2.1 HNS.out.2.2 (.inl rfl) (But3.of2 (r := none) hb)); have HR5 := Lib.hid (HRz.out.but3 (But3.of2 (r := none) hb) KA.out.1 KA.out.2 (fun k e => by simp at e)); clear hG hb)
            | fail)
          go_roundw
          case rel => exact ⟨H', z', v', vb, HG5.out, HB5.out, by (have := HHl.out; have := HHm.out; omega), HR5.out⟩
          case measure => rw [LZ.out, len_of HG5.out]; have := HHl.out; omega
/-- THE WALK OF THE LAW. -/
theorem walk (z : List Int) (oa : Option Addr) (cap : Nat) (M : List Mv) (hz' : z.length = 98) (h8 : I8s z) (hml : M.length ≤ 9223372036854775807) (w : World) (hM : MvsAt w oa M) (hH : Home w) :
    Calls Tryd.prog 8 #[.agg (posC z).toArray, .slice oa M.length cap] w fun e w' => e = .returned (.bool true) ∧ Below w.heap.size w w' := by
  by_cases hc : checkF (newZ z) = 0
  · by_cases hln : M.length ≤ 40
    · exact walk_loop z oa cap M hz' h8 hml hc hln w hM hH
    · exact walk_long z oa cap M hz' h8 hml hc (by omega) w hM hH
  · exact walk_no z oa cap M hz' h8 hml hc w hM hH

end Go.Proofs.YtbopbekehccdmaaDoor.deedTwice
