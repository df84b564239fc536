/-
  The head of the attack laws: a rook gives check.
-/
import Derived.Test.YtilhicohfnaclaaDoorAtk2
import Derived.Test.YtilhicohfnaclaaDoorReach
namespace Go.Proofs.YtilhicohfnaclaaDoor
open Go.RowKit
set_option maxRecDepth 100000
set_option linter.unusedVariables false
set_option linter.unusedSimpArgs false

def att1 : List Int := (List.replicate 98 0).set 40 24
def att2 : List Int := att1.set 44 7
def attZ : List Int := att2.set 0 8
theorem att_len : attZ.length = 98 := by decide +kernel
theorem att_8 : I8s attZ := by
  have : ∀ x ∈ attZ, -128 ≤ x ∧ x ≤ 127 := by decide +kernel
  exact this
theorem att_clean : Clean attZ := by
  have : ∀ q, q < 81 → kindF (at8 attZ q) = 0 → at8 attZ q = 0 := by decide +kernel
  exact this
theorem att_new : newZ attZ = attZ := newZ_self attZ att_len att_clean
theorem att_in1 : inF attZ 1 = true := by decide +kernel
theorem att_in0 : inF attZ 0 = false := by decide +kernel
theorem att_chk0 : checkF attZ = 0 := by decide +kernel
theorem att_side : at8 attZ 97 = 0 := by decide +kernel
theorem att_chk : check8F attZ = 54 := by
  unfold check8F
  rw [att_chk0, if_neg (by decide), att_new, att_side]
  exact if_pos att_in1
theorem att_who : chkN attZ 1 = ofN [44] := by decide +kernel
set_option maxHeartbeats 4000000 in
theorem attacks_true (w : World) (hT : Tab w) : Calls Tryd.prog 15 #[] w fun e w' => e = .returned (.bool true) ∧ Below w.heap.size w w' := by
  have NE := Lib.hid (fun W => new_brd attZ att_len att_8 W)
  rw [att_new] at NE
  have I1 := Lib.hid (fun g W (h : Brd W g attZ) (t : Tab W) => inCheck_any g attZ 1 (by omega) att_len W h t)
  have I0 := Lib.hid (fun g W (h : Brd W g attZ) (t : Tab W) => inCheck_any g attZ 0 (by omega) att_len W h t)
  rw [att_in1] at I1
  rw [att_in0] at I0
  have CH := Lib.hid (fun g W (h : Brd W g attZ) (t : Tab W) => checkers_any g attZ 1 (by omega) att_len W h t)
  rw [att_who] at CH
  have CK := Lib.hid (fun W (t : Tab W) => aCheck_any attZ att_len att_8 W t)
  rw [att_chk] at CK
  have O := Lib.hid (fun (b cap : Nat) (W : World) (hb : b < W.heap.size) (h : ∀ (j : Nat) (hj : j < ([44] : List Int).length), W.cell? ⟨b, 0 + j, none⟩ = some (.int .i64 ([44] : List Int)[j])) => of_any b 0 cap [44] W (by decide) hb h)
  have HT := Lib.hid hT
  have HINF := Lib.hid (show (Tryd.prog.info? 28).map (·.size) = some (posC attZ).length by rw [posC_len, att_len]; exact infoPos)
  have ha : ((Tryd.zeroCells28.setIfInBounds 40 (.int .i8 24)).setIfInBounds 44 (.int .i8 7)).setIfInBounds 0 (.int .i8 8) = (posC attZ).toArray := by kernel_rfl
  have HP := Lib.hid (PosAt.new w attZ)
  have HB := Lib.hid (ball (bref w) (.cells (posC attZ).toArray 28))
  clear hT
  have hz0 : (zeroValue 28).run Tryd.prog w = .ok (.agg Tryd.zeroCells28) w := by kernel_rfl
  generalize loW (ofN [44]) = x at CH O
  generalize hiW (ofN [44]) = y at CH O
  go_enter Tryd.func15, Tryd.ntmps15
  go_upto_region 3 with fail
  generalize w.alloc (.cells (posC attZ).toArray 28) = w0 at *
  clear hz0 ha
  go_wp2_with (first
    | (refine wpList_load_mid rfl 28 _ rfl w.heap.size 0 rfl (posC attZ) _ HP.out.range Tryd.underlying28 rfl HINF.out ?_)
    | (refine load_row_want (by rfl) 28 _ rfl w.heap.size rfl 28 _ _ _ HP.out Tryd.underlying28 rfl (by rw [List.size_toArray]; exact HINF.out) ?_)
    | (go_at_call 19; refine (NE.out _).mono ?_; rintro e w1 ⟨g, rfl, hg, hbd, hb⟩; have HBD := Lib.hid hbd; have HP := Lib.hid (HP.out.grow hb); have HB := Lib.hid (bthen HB.out hb); clear hbd hb hg)
    | (go_at_call_of 29 (Value.int .i64 1); refine (I1.out _ _ HBD.out (HT.out.grow HB.out)).mono ?_; rintro e w2 ⟨rfl, hb⟩; have HBD := Lib.hid (BrdAt.grow HBD.out hb); have HP := Lib.hid (HP.out.grow hb); have HB := Lib.hid (bthen HB.out hb); clear hb)
    | (go_at_call_of 29 (Value.int .i64 0); refine (I0.out _ _ HBD.out (HT.out.grow HB.out)).mono ?_; rintro e w3 ⟨rfl, hb⟩; have HBD := Lib.hid (BrdAt.grow HBD.out hb); have HP := Lib.hid (HP.out.grow hb); have HB := Lib.hid (bthen HB.out hb); clear hb)
    | (go_at_call 27; refine (CK.out _ (HT.out.grow HB.out)).mono ?_; rintro e w4 ⟨rfl, hb⟩; have HBD := Lib.hid (BrdAt.grow HBD.out hb); have HP := Lib.hid (HP.out.grow hb); have HB := Lib.hid (bthen HB.out hb); clear hb)
    | (go_at_call 31; refine (CH.out _ _ HBD.out (HT.out.grow HB.out)).mono ?_; rintro e w5 ⟨rfl, hb⟩; have HB := Lib.hid (bthen HB.out hb); clear hb)
    | (refine (O.out w5.heap.size 1 _ (by simp) (fun j hj => (by (obtain rfl : j = 0 := by simpa using hj); show _ = some (Value.int .i64 44); go_simp))).mono ?_; rintro e w6 ⟨rfl, hb⟩; have HB := Lib.hid (bthen (ball HB.out _) hb); clear hb))
  go_ret
  exact ⟨rfl, HB.out⟩
end Go.Proofs.YtilhicohfnaclaaDoor
