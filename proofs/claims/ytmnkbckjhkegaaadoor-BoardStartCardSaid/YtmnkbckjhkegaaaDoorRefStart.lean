/-
  The reference's Start: it returns the position with which games begin.
-/
import Derived.Test.YtmnkbckjhkegaaaDoorBegins
namespace Go.Proofs.YtmnkbckjhkegaaaDoor.refStart
open Go.RowKit
set_option linter.unusedVariables false
set_option linter.unusedSimpArgs false

def letL : List ByteArray := [⟨#[]⟩, ⟨#[80]⟩, ⟨#[76]⟩, ⟨#[78]⟩, ⟨#[83]⟩, ⟨#[71]⟩, ⟨#[66]⟩, ⟨#[82]⟩, ⟨#[75]⟩, ⟨#[43, 80]⟩, ⟨#[43, 76]⟩, ⟨#[43, 78]⟩, ⟨#[43, 83]⟩, ⟨#[]⟩, ⟨#[43, 66]⟩, ⟨#[43, 82]⟩]
def letB (k : Nat) : ByteArray := letL.getD k ⟨#[]⟩
def letA : Array Value := (letL.map Value.string).toArray
theorem letters2_any (w : World) : Calls Tryd.prog 51 #[] w fun e w' => e = .returned (.slice (some ⟨w.heap.size, 0, none⟩) 16 16) ∧ w' = w.alloc (.cells letA 9) := by
  go_enter Tryd.func51, Tryd.ntmps51
  go_wp2
  go_ret
  exact ⟨rfl, rfl⟩
theorem letA_cell (w : World) (k : Nat) (hk : k < 16) : (w.alloc (.cells letA 9)).cell? ⟨w.heap.size, k, none⟩ = some (.string (letB k)) := by
  rw [cell_of_row _ w.heap.size k letA 9 (0, 0) (heap_alloc_new w _)]
  obtain rfl | rfl | rfl | rfl | rfl | rfl | rfl | rfl | rfl | rfl | rfl | rfl | rfl | rfl | rfl | rfl : k = 0 ∨ k = 1 ∨ k = 2 ∨ k = 3 ∨ k = 4 ∨ k = 5 ∨ k = 6 ∨ k = 7 ∨ k = 8 ∨ k = 9 ∨ k = 10 ∨ k = 11 ∨ k = 12 ∨ k = 13 ∨ k = 14 ∨ k = 15 := by omega
  all_goals rfl
/-- The kinds below k in the file f, laid on both sides. -/
def inZ (z : List Int) (f : Nat) : Nat → List Int
  | 0 => z
  | k + 1 => if (k : Int) = homeZ.getD f 0 then ((inZ z f k).set (9 * f + 8) k).set (9 * f) ((k : Int) + 16) else inZ z f k
def rowZ : Nat → List Int
  | 0 => List.replicate 98 0
  | f + 1 => ((inZ (rowZ f) f 9).set (9 * f + 6) 1).set (9 * f + 2) 17
def refZ : List Int := ((((rowZ 9).set 70 6).set 16 7).set 10 22).set 64 23
theorem refZ_eq : refZ = startZ := by decide +kernel
theorem inZ_one (z : List Int) (f : Nat) (hf : f < 9) : inZ z f 1 = z := by
  have : ¬ ((0 : Nat) : Int) = homeZ.getD f 0 := by
    obtain rfl | rfl | rfl | rfl | rfl | rfl | rfl | rfl | rfl : f = 0 ∨ f = 1 ∨ f = 2 ∨ f = 3 ∨ f = 4 ∨ f = 5 ∨ f = 6 ∨ f = 7 ∨ f = 8 := by omega
    all_goals decide
  unfold inZ
  rw [if_neg this]
  rfl
theorem inZ_len (z : List Int) (f : Nat) : ∀ k, (inZ z f k).length = z.length
  | 0 => rfl
  | k + 1 => by
    unfold inZ
    split
    · rw [List.length_set, List.length_set, inZ_len z f k]
    · exact inZ_len z f k
theorem rowZ_len : ∀ f, (rowZ f).length = 98
  | 0 => by rw [rowZ, List.length_replicate]
  | f + 1 => by rw [rowZ, List.length_set, List.length_set, inZ_len, rowZ_len f]
def cutB (f : Nat) : ByteArray := ([⟨#[76]⟩, ⟨#[78]⟩, ⟨#[83]⟩, ⟨#[71]⟩, ⟨#[75]⟩, ⟨#[71]⟩, ⟨#[83]⟩, ⟨#[78]⟩, ⟨#[76]⟩] : List ByteArray).getD f ⟨#[]⟩
theorem run_cut (f : Nat) (hf : f < 9) (w : World) : Sem.run Tryd.prog (Instr.slice 9 (Value.string { data := #[76, 78, 83, 71, 75, 71, 83, 78, 76] }) (some (Value.int IntKind.i64 f)) (some (Value.int IntKind.i64 (IntKind.i64.wrap ((f : Int) + 1)))) none) w = Result.ok (.string (cutB f)) w := by
  obtain rfl | rfl | rfl | rfl | rfl | rfl | rfl | rfl | rfl : f = 0 ∨ f = 1 ∨ f = 2 ∨ f = 3 ∨ f = 4 ∨ f = 5 ∨ f = 6 ∨ f = 7 ∨ f = 8 := by omega
  all_goals kernel_rfl

theorem hit (f k : Nat) (hf : f < 9) (h1 : 1 ≤ k) (h2 : k < 9) : ((letB k).toList == (cutB f).toList) = decide ((k : Int) = homeZ.getD f 0) := by
  obtain rfl | rfl | rfl | rfl | rfl | rfl | rfl | rfl | rfl : f = 0 ∨ f = 1 ∨ f = 2 ∨ f = 3 ∨ f = 4 ∨ f = 5 ∨ f = 6 ∨ f = 7 ∨ f = 8 := by omega
  all_goals
    obtain rfl | rfl | rfl | rfl | rfl | rfl | rfl | rfl : k = 1 ∨ k = 2 ∨ k = 3 ∨ k = 4 ∨ k = 5 ∨ k = 6 ∨ k = 7 ∨ k = 8 := by omega
    all_goals decide +kernel

set_option maxRecDepth 100000 in
set_option maxHeartbeats 4000000 in
theorem refStart_any (w : World) :
    Calls Tryd.prog 29 #[] w fun e w' => e = .returned (.agg (posC startZ).toArray) ∧ Below w.heap.size w w' := by
  rw [← refZ_eq]
  have hs1 : (w.alloc (.cells Tryd.zeroCells28 28)).heap.size = w.heap.size + 1 := by simp
  have hs2 : ((w.alloc (.cells Tryd.zeroCells28 28)).alloc (.cells Tryd.zeroCells28 28)).heap.size = w.heap.size + 2 := by simp
  have hP : PosAt ((w.alloc (.cells Tryd.zeroCells28 28)).alloc (.cells Tryd.zeroCells28 28)) (w.heap.size + 1) (rowZ 0) := by
    have := heap_alloc_new (w.alloc (.cells Tryd.zeroCells28 28)) (.cells Tryd.zeroCells28 28)
    rw [hs1] at this
    unfold PosAt rowZ
    rw [← zeroPos_eq]
    exact this
  have hD : ((w.alloc (.cells Tryd.zeroCells28 28)).alloc (.cells Tryd.zeroCells28 28)).heap[w.heap.size]? = some (.cells Tryd.zeroCells28 28) :=
    (Below.heap_alloc _ _ _ (by omega)).trans (heap_alloc_new w (.cells Tryd.zeroCells28 28))
  have hB : Below w.heap.size w ((w.alloc (.cells Tryd.zeroCells28 28)).alloc (.cells Tryd.zeroCells28 28)) := ball (ball (bref w) _) _
  have HP := Lib.hid (hP.grow (ball (bref ((w.alloc (.cells Tryd.zeroCells28 28)).alloc (.cells Tryd.zeroCells28 28))) (.cells letA 9)))
  have HD := Lib.hid hD
  have HB := Lib.hid (ball hB (.cells letA 9))
  have HL := Lib.hid (fun (k : Nat) (hk : k < 16) => letA_cell ((w.alloc (.cells Tryd.zeroCells28 28)).alloc (.cells Tryd.zeroCells28 28)) k hk)
  have HS := Lib.hid hs2
  clear hs1 hs2 hP hD hB
  have hst : (storeCells ⟨w.heap.size + 1, 0, none⟩ Tryd.zeroCells28.toList 0).run Tryd.prog ((w.alloc (.cells Tryd.zeroCells28 28)).alloc (.cells Tryd.zeroCells28 28)) = .ok () ((w.alloc (.cells Tryd.zeroCells28 28)).alloc (.cells Tryd.zeroCells28 28)) := by
    have h := run_storeCells_new (P := Tryd.prog) (w.alloc (.cells Tryd.zeroCells28 28)) 28 Tryd.zeroCells28 Tryd.zeroCells28 (by kernel_rfl) rfl (by kernel_rfl)
    rw [World.size_alloc] at h
    exact h
  go_enter Tryd.func29, Tryd.ntmps29
  go_wp2_with (go_at_call 51; refine (letters2_any _).mono ?_; rintro e w1 ⟨rfl, rfl⟩)
  have HLC := Lib.hid (fun (k : Nat) (hk : k < 16) => (show (((w.alloc (.cells Tryd.zeroCells28 28)).alloc (.cells Tryd.zeroCells28 28)).alloc (.cells letA 9)).cell? ⟨w.heap.size + 1 + 1, k, none⟩ = some (.string (letB k)) from by
    have := letA_cell ((w.alloc (.cells Tryd.zeroCells28 28)).alloc (.cells Tryd.zeroCells28 28)) k hk
    rw [HS.out] at this
    exact this))
  have HD2 := Lib.hid (((ball (bref ((w.alloc (.cells Tryd.zeroCells28 28)).alloc (.cells Tryd.zeroCells28 28))) (.cells letA 9)).block w.heap.size (by rw [HS.out]; omega)).trans HD.out)
  have ZL : w.heap.size + 1 + 1 < (((w.alloc (.cells Tryd.zeroCells28 28)).alloc (.cells Tryd.zeroCells28 28)).alloc (.cells letA 9)).heap.size := by simp
  clear hst HS HD HL
  generalize ((w.alloc (.cells Tryd.zeroCells28 28)).alloc (.cells Tryd.zeroCells28 28)).alloc (.cells letA 9) = w2 at *
  go_loopw [4, 5] (fun i _ wr => ∃ f : Nat, f ≤ 9 ∧ i = .int .i64 f ∧ PosAt wr (w.heap.size + 1) (rowZ f) ∧ But (w.heap.size + 1) w2 wr) (fun i _ _ => 9 - (intOf i).toNat)
  case atStart => exact ⟨0, Nat.zero_le _, rfl, HP.out, But.refl _ _⟩
  case round =>
    obtain ⟨f, hf, rfl, hP, hB⟩ := hrel
    by_cases hlt : f < 9
    · have HPF := Lib.hid hP
      have HBF := Lib.hid hB
      have hzl := rowZ_len f
      have HNX := Lib.hid (show rowZ (f + 1) = ((inZ (rowZ f) f 9).set (9 * f + 6) 1).set (9 * f + 2) 17 from rfl)
      clear hP hB
      generalize rowZ f = zf at HPF hzl HNX
      have HZL := Lib.hid hzl
      clear hzl
      rename World => wd
      go_wp2
      go_loopw [5] (fun i wr => ∃ k : Nat, 1 ≤ k ∧ k ≤ 9 ∧ i = .int .i64 k ∧ PosAt wr (w.heap.size + 1) (inZ zf f k) ∧ But (w.heap.size + 1) w2 wr) (fun i _ => 9 - (intOf i).toNat)
      case atStart => exact ⟨1, by omega, by omega, rfl, by rw [inZ_one _ _ hlt]; exact HPF.out, HBF.out⟩
      case round =>
        obtain ⟨k, hk1, hk, rfl, hP, hB⟩ := hrel
        by_cases hl2 : k < 9
        · have HPK := Lib.hid hP
          have HBK := Lib.hid hB
          have cl := (hB.cell (p := ⟨w.heap.size + 1 + 1, k, none⟩) ZL (by simp)).trans (HLC.out k (by omega))
          have zl := Nat.lt_of_lt_of_le ZL hB.size
          have hkw : (k : Int) < 16 := by omega
          have hln : (inZ zf f k).length = 98 := (inZ_len _ _ _).trans HZL.out
          have HH := Lib.hid (hit f k hlt hk1 hl2)
          have HN1 := Lib.hid (show inZ zf f (k + 1) = if (k : Int) = homeZ.getD f 0 then ((inZ zf f k).set (9 * f + 8) k).set (9 * f) ((k : Int) + 16) else inZ zf f k from rfl)
          clear hP hB
          generalize letB k = lb at cl HH
          have CUT := Lib.hid (fun w => run_cut f hlt w)
          generalize cutB f = cb at CUT HH
          generalize inZ zf f k = zk at HPK hln HN1
          have HLN := Lib.hid hln
          clear hln
          go_wp2_with fail
          refine wp_region_held_drew (S := fun w' => w'.cell? ⟨w.heap.size + 1 + 1, k, none⟩ = some (.string lb) ∧ PosAt w' (w.heap.size + 1) zk ∧ But (w.heap.size + 1) w2 w') (by kernel_rfl) ?_ (fun hHeld => ?_)
          · exact ⟨((bref wr).drew.cell (p := ⟨w.heap.size + 1 + 1, k, none⟩) zl).trans cl, HPK.out.grow (bref wr).drew, HBK.out.drew⟩
          refine wpAnyH_take (i := 0) (v := ?v1) rfl (by kernel_rfl) (by kernel_rfl) (by kernel_rfl) (fun _ _ _ h => h) (Or.inl ⟨by rfl, ?y1⟩) (by assumption) ?r1
          case y1 => (intro w hSw; (go_simp <;> first | with_reducible rfl | (rw [if_pos (by omega)] <;> with_reducible rfl)))
          try simp only [Act.put, List.getElem_toArray, List.getElem_cons_zero, List.getElem_cons_succ, List.setIfInBounds_toArray, List.set_cons_zero, List.set_cons_succ]
          refine wpAnyH_take (i := 1) (v := ?v2) rfl (by kernel_rfl) (by kernel_rfl) (by kernel_rfl) (fun _ _ _ h => h) (Or.inl ⟨by rfl, ?y2⟩) (by assumption) ?r2
          case y2 => (intro w hSw; (go_simp <;> first | with_reducible rfl | (rw [if_pos (by omega)] <;> with_reducible rfl)))
          try simp only [Act.put, List.getElem_toArray, List.getElem_cons_zero, List.getElem_cons_succ, List.setIfInBounds_toArray, List.set_cons_zero, List.set_cons_succ]
          refine wpAnyH_take (i := 2) (v := ?v3) rfl (by kernel_rfl) (by kernel_rfl) (by kernel_rfl) (fun _ _ _ h => h) (Or.inl ⟨by rfl, ?y3⟩) (by assumption) ?r3
          case y3 => (intro w hSw; (go_simp <;> first | with_reducible rfl | (rw [if_pos (by omega)] <;> with_reducible rfl)))
          try simp only [Act.put, List.getElem_toArray, List.getElem_cons_zero, List.getElem_cons_succ, List.setIfInBounds_toArray, List.set_cons_zero, List.set_cons_succ]
          refine wpAnyH_take (i := 3) (v := ?v4) rfl (by kernel_rfl) (by kernel_rfl) (by kernel_rfl) (fun _ _ _ h => h) (Or.inl ⟨by rfl, ?y4⟩) (by assumption) ?r4
          case y4 => (intro w hSw; (go_simp <;> first | with_reducible rfl | (rw [if_pos (by omega)] <;> with_reducible rfl)))
          try simp only [Act.put, List.getElem_toArray, List.getElem_cons_zero, List.getElem_cons_succ, List.setIfInBounds_toArray, List.set_cons_zero, List.set_cons_succ]
          refine wpAnyH_take (i := 4) (v := ?v5) rfl (by kernel_rfl) (by kernel_rfl) (by kernel_rfl) (fun _ _ _ h => h) (Or.inl ⟨by rfl, ?y5⟩) (by assumption) ?r5
          case y5 => (intro w hSw; (go_simp <;> first | with_reducible rfl | (rw [if_pos (by omega)] <;> with_reducible rfl)))
          try simp only [Act.put, List.getElem_toArray, List.getElem_cons_zero, List.getElem_cons_succ, List.setIfInBounds_toArray, List.set_cons_zero, List.set_cons_succ]
          refine wpAnyH_take (i := 5) (v := ?v6) rfl (by kernel_rfl) (by kernel_rfl) (by kernel_rfl) (fun _ _ _ h => h) (Or.inl ⟨by rfl, ?y6⟩) (by assumption) ?r6
          case y6 => (intro w hSw; (go_simp <;> first | with_reducible rfl | (rw [if_pos (by omega)] <;> with_reducible rfl)))
          try simp only [Act.put, List.getElem_toArray, List.getElem_cons_zero, List.getElem_cons_succ, List.setIfInBounds_toArray, List.set_cons_zero, List.set_cons_succ]
          refine wpAnyH_take (i := 6) (v := ?v7) rfl (by kernel_rfl) (by kernel_rfl) (by kernel_rfl) (fun _ _ _ h => h) (Or.inl ⟨by rfl, ?y7⟩) (by assumption) ?r7
          case y7 => (intro w hSw; (go_simp <;> first | with_reducible rfl | (rw [if_pos (by omega)] <;> with_reducible rfl)))
          try simp only [Act.put, List.getElem_toArray, List.getElem_cons_zero, List.getElem_cons_succ, List.setIfInBounds_toArray, List.set_cons_zero, List.set_cons_succ]
          refine wpAnyH_take (i := 7) (v := ?v8) rfl (by kernel_rfl) (by kernel_rfl) (by kernel_rfl) (fun _ _ _ h => h) (Or.inl ⟨by rfl, ?y8⟩) (by assumption) ?r8
          case y8 => (intro w hSw; (go_simp <;> first | with_reducible rfl | (rw [if_pos (by omega)] <;> with_reducible rfl)))
          try simp only [Act.put, List.getElem_toArray, List.getElem_cons_zero, List.getElem_cons_succ, List.setIfInBounds_toArray, List.set_cons_zero, List.set_cons_succ]
          refine wpAnyH_take (i := 8) (v := ?v9) rfl (by kernel_rfl) (by kernel_rfl) (by kernel_rfl) (fun _ _ _ h => h) (Or.inl ⟨by rfl, ?y9⟩) (by assumption) ?r9
          case y9 => (intro w hSw; have E := CUT.out w; (go_simp <;> first | with_reducible rfl | (rw [if_pos (by omega)] <;> with_reducible rfl)))
          try simp only [Act.put, List.getElem_toArray, List.getElem_cons_zero, List.getElem_cons_succ, List.setIfInBounds_toArray, List.set_cons_zero, List.set_cons_succ]
          refine wpAnyH_take (i := 9) (v := ?v10) rfl (by kernel_rfl) (by kernel_rfl) (by kernel_rfl) (fun _ _ _ h => h) (Or.inl ⟨by rfl, ?y10⟩) (by assumption) ?r10
          case y10 => (intro w hSw; (go_simp <;> first | with_reducible rfl | (rw [if_pos (by omega)] <;> with_reducible rfl)))
          try simp only [Act.put, List.getElem_toArray, List.getElem_cons_zero, List.getElem_cons_succ, List.setIfInBounds_toArray, List.set_cons_zero, List.set_cons_succ]
          refine wpAnyH_done (by kernel_rfl) ?_ _
          have hHH := HH.out
          by_cases hh : (k : Int) = homeZ.getD f 0
          · have ht : (lb.toList == cb.toList) = true := hHH.trans (decide_eq_true hh)
            have hz1 := HN1.out
            rw [if_pos hh] at hz1
            have HN2 := Lib.hid hz1
            have P1 := hHeld.2.1.set (9 * f + 8) k
            have P2 := Lib.hid (P1.set (9 * f) ((k : Int) + 16))
            have c8 := HPK.out.cell (9 * f + 8) (by rw [HLN.out]; omega)
            have f8 := HPK.out.frozen (9 * f + 8)
            have zb := HPK.out.lt
            have c0 := HPK.out.cell (9 * f) (by rw [HLN.out]; omega)
            have f0 := HPK.out.frozen (9 * f)
            have HB2 := Lib.hid hHeld.2.2
            rw [ht]
            clear hHH hh hz1 P1 hHeld ht
            go_wp2
            go_roundw
            case rel => exact ⟨k + 1, by omega, by omega, by go_num, by rw [HN2.out]; exact P2.out, (HB2.out.setCell ⟨w.heap.size + 1, 9 * f + 8, none⟩ rfl _).setCell ⟨w.heap.size + 1, 9 * f, none⟩ rfl _⟩
            case measure => simp [intOf]; omega
          · have ht : (lb.toList == cb.toList) = false := hHH.trans (decide_eq_false hh)
            have hz1 := HN1.out
            rw [if_neg hh] at hz1
            have HN2 := Lib.hid hz1
            have HP2 := Lib.hid hHeld.2.1
            have HB2 := Lib.hid hHeld.2.2
            rw [ht]
            clear hHH hh hz1 hHeld ht
            go_wp2
            go_roundw
            case rel => exact ⟨k + 1, by omega, by omega, by go_num, by rw [HN2.out]; exact HP2.out, HB2.out⟩
            case measure => simp [intOf]; omega
        · obtain rfl : k = 9 := by omega
          have hln : (inZ zf f 9).length = 98 := (inZ_len _ _ _).trans HZL.out
          have P2 := Lib.hid ((hP.set (9 * f + 6) 1).set (9 * f + 2) 17)
          have c6 := hP.cell (9 * f + 6) (by rw [hln]; omega)
          have f6 := hP.frozen (9 * f + 6)
          have zb := hP.lt
          have c2 := hP.cell (9 * f + 2) (by rw [hln]; omega)
          have f2 := hP.frozen (9 * f + 2)
          have HB2 := Lib.hid hB
          clear hP hB hln
          go_wp2
          go_roundw
          case rel => exact ⟨f + 1, by omega, by go_num, by rw [HNX.out]; exact P2.out, (HB2.out.setCell ⟨w.heap.size + 1, 9 * f + 6, none⟩ rfl _).setCell ⟨w.heap.size + 1, 9 * f + 2, none⟩ rfl _⟩
          case measure => simp [intOf]; omega
    · obtain rfl : f = 9 := by omega
      have hln := rowZ_len 9
      have P4 := ((((hP.set 70 6).set 16 7).set 10 22).set 64 23)
      have B4 := Lib.hid ((((hB.setCell ⟨w.heap.size + 1, 70, none⟩ rfl (.int .i8 6)).setCell ⟨w.heap.size + 1, 16, none⟩ rfl (.int .i8 7)).setCell ⟨w.heap.size + 1, 10, none⟩ rfl (.int .i8 22)).setCell ⟨w.heap.size + 1, 64, none⟩ rfl (.int .i8 23))
      rw [show ((((rowZ 9).set 70 6).set 16 7).set 10 22).set 64 23 = refZ from rfl] at P4
      have HP4 := Lib.hid P4
      have c70 := hP.cell 70 (by rw [hln]; omega)
      have c16 := hP.cell 16 (by rw [hln]; omega)
      have c10 := hP.cell 10 (by rw [hln]; omega)
      have c64 := hP.cell 64 (by rw [hln]; omega)
      have f70 := hP.frozen 70
      have f16 := hP.frozen 16
      have f10 := hP.frozen 10
      have f64 := hP.frozen 64
      have zb := hP.lt
      have HLZ := Lib.hid (show refZ.length = 98 by rw [refZ_eq]; exact startZ_len)
      have HINF := Lib.hid (show (Tryd.prog.info? 28).map (·.size) = some (posC refZ).length by rw [posC_len, HLZ.out]; exact infoPos)
      have HS := Lib.hid (show Tryd.zeroCells28.size = (posC refZ).toArray.size from zeroPos_size.trans (by rw [List.size_toArray, posC_len, HLZ.out]))
      have zr : w.heap.size < w2.heap.size := by omega
      have HD6 := Lib.hid ((B4.out.block w.heap.size zr (by omega)).trans HD2.out)
      clear hP hB hln P4
      generalize hsz : refZ = sz at HP4 HLZ HINF HS
      have HSZ := Lib.hid hsz
      clear hsz
      generalize rowZ 9 = z9 at *
      go_wp2_with fail
      generalize hwz : (((wr.setCell { block := w.heap.size + 1, off := 70 } (Value.int IntKind.i8 6)).setCell { block := w.heap.size + 1, off := 16 } (Value.int IntKind.i8 7)).setCell { block := w.heap.size + 1, off := 10 } (Value.int IntKind.i8 22)).setCell { block := w.heap.size + 1, off := 64 } (Value.int IntKind.i8 23) = wz at HP4 HD6 B4 ⊢
      clear hwz c70 c16 c10 c64 f70 f16 f10 f64 zb
      refine wp_load_mid _ _ rfl (w.heap.size + 1) 0 rfl (posC sz) _ HP4.out.range Tryd.underlying28 rfl HINF.out ?_
      go_wp2_with (refine wpList_store_row rfl 28 _ _ rfl w.heap.size (posC sz).toArray rfl rfl 28 Tryd.zeroCells28 HD6.out (by rw [List.size_toArray]; exact HINF.out) HS.out (posC_one sz) ?_)
      refine bodyPost_ret (results_cell_row rfl _ _ w.heap.size 28 (posC sz).toArray (0, 0) _ rfl (setRow_heap _ _ _ _ _ _ HD6.out) Tryd.underlying28 rfl (by rw [List.size_toArray]; exact HINF.out)) rfl ?_
      exact ⟨by rw [HSZ.out], below_row (HB.out.trans (B4.out.below (by omega) (by omega))) (by omega) _⟩
end Go.Proofs.YtmnkbckjhkegaaaDoor.refStart
