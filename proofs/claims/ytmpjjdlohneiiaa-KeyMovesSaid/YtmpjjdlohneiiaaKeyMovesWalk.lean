/-
  The walk of the law KeyMoves: for every raw position, square and piece it returns true.
-/
import Derived.Test.YtmpjjdlohneiiaaPos
import Derived.OpenShut
import Derived.Deep.RegionHeld3
import Derived.Deep.WholeRow
namespace Go.Proofs.Ytmpjjdlohneiiaa.keyMoves
open Go.RowKit
set_option linter.unusedVariables false
set_option linter.unusedSimpArgs false

set_option maxHeartbeats 4000000 in
theorem walk (z : List Int) (q x : Int) (hz : z.length = 98) (h8 : I8s z) (g1 : (Lit.int .i64 q).wf = true) (g2 : (Lit.int .i8 x).wf = true) (w : World) :
    Calls Try.prog 7 #[.agg (posC z).toArray, .int .i64 q, .int .i8 x] w fun e w' => e = .returned (.bool true) ∧ Below w.heap.size w w' := by
  have hx := bounds_i8 g2
  have CT := Lib.hid (fun W => counts_true W)
  have HZ := Lib.hid hz
  have H8 := Lib.hid h8
  have HX := Lib.hid hx
  have hl : (posC z).length = 98 := by rw [posC_len, hz]
  clear g1 g2 hx hz h8
  by_cases hq : 0 ≤ q ∧ q ≤ 80
  · obtain ⟨k, rfl⟩ : ∃ k : Nat, q = (k : Int) := ⟨q.toNat, by omega⟩
    have hk : k < 81 := by omega
    have c1 : ¬ (k : Int) < 0 := by omega
    have c2 : ¬ 80 < (k : Int) := by omega
    clear hq
    have HINF := Lib.hid (show (Try.prog.info? 47).map (·.size) = some (posC z).length by rw [posC_len, HZ.out]; exact infoPos)
    have z1l : (z.set k x).length = 98 := by rw [List.length_set]; exact HZ.out
    have HINF1 := Lib.hid (show (Try.prog.info? 47).map (·.size) = some (posC (z.set k x)).length by rw [posC_len, z1l]; exact infoPos)
    have HS0 := Lib.hid (show Try.zeroCells47.size = (posC z).toArray.size from zeroPos_size.trans (by rw [List.size_toArray, posC_len, HZ.out]))
    have HS1 := Lib.hid (show Try.zeroCells47.size = (posC (z.set k x)).toArray.size from zeroPos_size.trans (by rw [List.size_toArray, posC_len, z1l]))
    have P0 := Lib.hid (PosAt.new w z)
    have HZ1 := Lib.hid z1l
    clear hl z1l
    go_enter Try.func7, Try.ntmps7
    go_wp2_with (first
      | (go_at_call 23; refine (CT.out _).mono ?_; rintro e w1 ⟨rfl, hb1⟩
         have P1 := Lib.hid (P0.out.grow hb1)
         have B1 := Lib.hid (bthen (ball (bref w) _) hb1)
         have hz1 : w.heap.size < w1.heap.size := P1.out.lt
         clear hb1)
      | (refine wpList_load_mid rfl _ _ rfl w.heap.size 0 rfl (posC z) _ P1.out.range Try.underlying47 rfl HINF.out ?_)
      | (refine wpList_store_row rfl 47 _ _ rfl w1.heap.size (posC z).toArray rfl rfl 47 Try.zeroCells47 (heap_alloc_new w1 _) (by rw [List.size_toArray]; exact HINF.out) HS0.out (posC_one z) ?_
         rw [World.setRow_alloc_new]
         have P2 := Lib.hid (PosAt.new w1 z)
         have hb2 := ball (bref w1) (.cells (posC z).toArray 47)
         have P20 := Lib.hid (P1.out.grow hb2)
         have B2 := Lib.hid (B1.out.trans (hb2.mono (Nat.le_of_lt hz1)))
         have hz2 : w1.heap.size < (w1.alloc (.cells (posC z).toArray 47)).heap.size := P2.out.lt
         generalize w1.alloc (.cells (posC z).toArray 47) = w2 at *
         have ck := P2.out.cell k (by have := HZ.out; omega)
         have fk := P2.out.frozen k)
      | (refine wpList_load_mid rfl _ _ rfl w1.heap.size 0 rfl (posC (z.set k x)) _ (P2.out.set k x).range Try.underlying47 rfl HINF1.out ?_
         have P3 := Lib.hid (P2.out.set k x)
         have P30 := Lib.hid (P20.out.other (Nat.ne_of_lt hz1) k (.int .i8 x))
         have B3 := Lib.hid (B2.out.setCell (p := ⟨w1.heap.size, k, none⟩) (Nat.le_of_lt hz1) (.int .i8 x))
         have hz3 : w1.heap.size < (w2.setCell ⟨w1.heap.size, k, none⟩ (.int .i8 x)).heap.size := P3.out.lt
         clear ck fk P2 P20 B2
         generalize w2.setCell ⟨w1.heap.size, k, none⟩ (.int .i8 x) = w3 at *
         clear hz2)
      | (refine wpList_store_row rfl 47 _ _ rfl w3.heap.size (posC (z.set k x)).toArray rfl rfl 47 Try.zeroCells47 (heap_alloc_new w3 _) (by rw [List.size_toArray]; exact HINF1.out) HS1.out (posC_one (z.set k x)) ?_
         rw [World.setRow_alloc_new]
         have P4 := Lib.hid (PosAt.new w3 (z.set k x))
         have hb4 := ball (bref w3) (.cells (posC (z.set k x)).toArray 47)
         have P41 := Lib.hid (P3.out.grow hb4)
         have P40 := Lib.hid (P30.out.grow hb4)
         have B4 := Lib.hid (B3.out.trans (hb4.mono (Nat.le_of_lt (Nat.lt_trans hz1 hz3))))
         have hz4 : w3.heap.size < (w3.alloc (.cells (posC (z.set k x)).toArray 47)).heap.size := P4.out.lt
         generalize w3.alloc (.cells (posC (z.set k x)).toArray 47) = w4 at *
         have c97 := P40.out.cell 97 (by have := HZ.out; omega)
         have d97 := P4.out.cell 97 (by have := HZ1.out; omega)
         have f97 := P4.out.frozen 97))
    have P5 := Lib.hid (P4.out.set 97 (IntKind.i8.wrap (1 - at8 z 97)))
    have Q51 := Lib.hid (P41.out.other (Nat.ne_of_lt hz3) 97 (.int .i8 (IntKind.i8.wrap (1 - at8 z 97))))
    have Q50 := Lib.hid (P40.out.other (Nat.ne_of_lt (Nat.lt_trans hz1 hz3)) 97 (.int .i8 (IntKind.i8.wrap (1 - at8 z 97))))
    have B5 := Lib.hid (B4.out.setCell (p := ⟨w3.heap.size, 97, none⟩) (Nat.le_of_lt (Nat.lt_trans hz1 hz3)) (.int .i8 (IntKind.i8.wrap (1 - at8 z 97))))
    -- REGION 9
    have O0 := Lib.hid (fun W => keyOf_any z HZ.out H8.out W)
    have h81 : I8s (z.set k x) := set_8 H8.out k HX.out
    have O1 := Lib.hid (fun W => keyOf_any (z.set k x) HZ1.out h81 W)
    have hv := H8.out.at 97
    have hw : -128 ≤ IntKind.i8.wrap (1 - at8 z 97) ∧ IntKind.i8.wrap (1 - at8 z 97) ≤ 127 := bounds_i8 (wf_wrap _ _)
    have hw2 : (at8 z 97 = 0 → IntKind.i8.wrap (1 - at8 z 97) = 1) ∧ (at8 z 97 = 1 → IntKind.i8.wrap (1 - at8 z 97) = 0) := ⟨fun h => by rw [h]; rfl, fun h => by rw [h]; rfl⟩
    have h97 : at8 (z.set k x) 97 = at8 z 97 := by
      rw [at8_set z k x 97 (by have := HZ.out; omega)]
      exact if_neg (by omega)
    have SS := Lib.hid (fun W => sideK_any W)
    have PA := Lib.hid (fun W => pieceK_any k (at8 z k) (H8.out.at k).1 (H8.out.at k).2 W)
    have PB := Lib.hid (fun W => pieceK_any k x HX.out.1 HX.out.2 W)
    have e1 := ofK_setB z k x hk HZ.out
    have x1 : bits .xor .u64 ((ofK z : Nat) : Int) ((pieceK k (at8 z k) : Nat) : Int) = ((ofK z ^^^ pieceK k (at8 z k) : Nat) : Int) := u64_xor_nat _ _ (ofK_lt _) (pieceK_lt _ _)
    have x2 : bits .xor .u64 ((ofK z ^^^ pieceK k (at8 z k) : Nat) : Int) ((pieceK k x : Nat) : Int) = ((ofK z ^^^ pieceK k (at8 z k) ^^^ pieceK k x : Nat) : Int) := u64_xor_nat _ _ (xor_lt64 (ofK_lt _) (pieceK_lt _ _)) (pieceK_lt _ _)
    rw [← e1] at x2
    generalize IntKind.i8.wrap (1 - at8 z 97) = v at P5 Q51 Q50 B5 hw hw2 ⊢
    have h82 : I8s ((z.set k x).set 97 v) := set_8 h81 97 hw
    have z2l : ((z.set k x).set 97 v).length = 98 := by rw [List.length_set]; exact HZ1.out
    have HINF2 := Lib.hid (show (Try.prog.info? 47).map (·.size) = some (posC ((z.set k x).set 97 v)).length by rw [posC_len, z2l]; exact infoPos)
    have O2 := Lib.hid (fun W => keyOf_any ((z.set k x).set 97 v) z2l h82 W)
    have x3 : bits .xor .u64 ((ofK ((z.set k x).set 97 v) : Nat) : Int) ((ofK (z.set k x) : Nat) : Int) = ((ofK ((z.set k x).set 97 v) ^^^ ofK (z.set k x) : Nat) : Int) := u64_xor_nat _ _ (ofK_lt _) (ofK_lt _)
    have ht : ((((ofK ((z.set k x).set 97 v) ^^^ ofK (z.set k x) : Nat) : Int) == ((sideK : Nat) : Int)) = true) ∨ (at8 z 97 ≠ 0 ∧ at8 z 97 ≠ 1) := by
      by_cases hs : at8 z 97 = 0 ∨ at8 z 97 = 1
      · left
        rw [ofK_turn (z.set k x) v HZ1.out (by rw [h97]; rcases hs with h | h; exact .inl ⟨h, hw2.1 h⟩; exact .inr ⟨h, hw2.2 h⟩), Nat.xor_comm (ofK (z.set k x)) sideK, xor_same]
        simp
      · right
        omega
    generalize ((ofK ((z.set k x).set 97 v) ^^^ ofK (z.set k x) : Nat) : Int) = i21 at x3 ht
    generalize ((ofK z ^^^ pieceK k (at8 z k) : Nat) : Int) = i0a at x1 x2
    generalize ((ofK ((z.set k x).set 97 v) : Nat) : Int) = i2 at x3 O2
    generalize ((ofK (z.set k x) : Nat) : Int) = i1 at x2 x3 O1
    generalize ((ofK z : Nat) : Int) = i0 at x1 O0
    generalize ((pieceK k (at8 z k) : Nat) : Int) = ia at x1 PA
    generalize ((pieceK k x : Nat) : Int) = ib at x2 PB
    generalize ((sideK : Nat) : Int) = is at ht SS
    clear h81 h82 hw hw2 h97 e1 hv c97 d97 f97 P4 P41 P40 B4 z2l
    generalize (z.set k x).set 97 v = z2 at P5 HINF2 O2
    generalize z.set k x = z1 at P5 Q51 HINF1 O1 ⊢
    generalize w4.setCell ⟨w3.heap.size, 97, none⟩ (.int .i8 v) = w5 at P5 Q51 Q50 B5 ⊢
    generalize ht0 : (i21 == is) = tb at ht
    refine wp_region_held_drew (S := fun w' => Below w5.heap.size w5 w' ∧ PosAt w' w.heap.size z ∧ PosAt w' w1.heap.size z1 ∧ PosAt w' w3.heap.size z2) (by kernel_rfl) ?_ (fun hHeld => ?_)
    · exact ⟨(bref w5).drew, Q50.out, Q51.out, P5.out⟩
    refine wpAnyH_take (i := 0) rfl (by kernel_rfl) (by kernel_rfl) (by kernel_rfl) (fun _ _ _ h => h) (yieldsIf_load_mid (by rfl) _ _ rfl _ _ rfl (posC z2) _ (fun w h => h.2.2.2.range) (Try.underlying47) rfl (HINF2.out)) (by assumption) ?_
    try simp only [Act.put, List.getElem_toArray, List.getElem_cons_zero, List.getElem_cons_succ, List.setIfInBounds_toArray, List.set_cons_zero, List.set_cons_succ]
    refine wpAnyH_take (i := 2) rfl (by kernel_rfl) (by kernel_rfl) (by kernel_rfl) (fun _ _ _ h => h) (yieldsIf_load_mid (by rfl) _ _ rfl _ _ rfl (posC z1) _ (fun w h => h.2.2.1.range) (Try.underlying47) rfl (HINF1.out)) (by assumption) ?_
    try simp only [Act.put, List.getElem_toArray, List.getElem_cons_zero, List.getElem_cons_succ, List.setIfInBounds_toArray, List.set_cons_zero, List.set_cons_succ]
    refine wpAnyH_ready (rs := [1]) (by kernel_rfl) (by simp) ?_
    refine AllReadyH.cons rfl (fun K hK => ?_) AllReadyH.nil
    rw [if_pos (by rfl)]
    go_simp
    go_at_call 27
    refine (O2.out _).mono ?_
    rintro e wn ⟨rfl, hb⟩
    refine hK.out _ _ (⟨bthen hHeld.1 hb, hHeld.2.1.grow hb, hHeld.2.2.1.grow hb, hHeld.2.2.2.grow hb⟩) (fun hHeld => ?_)
    clear hK K
    try simp only [Act.put, List.getElem_toArray, List.getElem_cons_zero, List.getElem_cons_succ, List.setIfInBounds_toArray, List.set_cons_zero, List.set_cons_succ]
    refine wpAnyH_ready (rs := [3]) (by kernel_rfl) (by simp) ?_
    refine AllReadyH.cons rfl (fun K hK => ?_) AllReadyH.nil
    rw [if_pos (by rfl)]
    go_simp
    go_at_call 27
    refine (O1.out _).mono ?_
    rintro e wn ⟨rfl, hb⟩
    refine hK.out _ _ (⟨bthen hHeld.1 hb, hHeld.2.1.grow hb, hHeld.2.2.1.grow hb, hHeld.2.2.2.grow hb⟩) (fun hHeld => ?_)
    clear hK K
    try simp only [Act.put, List.getElem_toArray, List.getElem_cons_zero, List.getElem_cons_succ, List.setIfInBounds_toArray, List.set_cons_zero, List.set_cons_succ]
    refine wpAnyH_take (i := 4) (v := ?v1) rfl (by kernel_rfl) (by kernel_rfl) (by kernel_rfl) (fun _ _ _ h => h) (Or.inl ⟨by rfl, ?y1⟩) (by assumption) ?r1
    case y1 => (intro w hSw; (go_simp <;> first | with_reducible rfl | (rw [if_pos (by omega)] <;> with_reducible rfl)))
    try simp only [Act.put, List.getElem_toArray, List.getElem_cons_zero, List.getElem_cons_succ, List.setIfInBounds_toArray, List.set_cons_zero, List.set_cons_succ]
    refine wpAnyH_ready (rs := [5]) (by kernel_rfl) (by simp) ?_
    refine AllReadyH.cons rfl (fun K hK => ?_) AllReadyH.nil
    rw [if_pos (by rfl)]
    go_simp
    go_at_call 26
    refine (SS.out _).mono ?_
    rintro e wn ⟨rfl, hb⟩
    refine hK.out _ _ (⟨bthen hHeld.1 hb, hHeld.2.1.grow hb, hHeld.2.2.1.grow hb, hHeld.2.2.2.grow hb⟩) (fun hHeld => ?_)
    clear hK K
    try simp only [Act.put, List.getElem_toArray, List.getElem_cons_zero, List.getElem_cons_succ, List.setIfInBounds_toArray, List.set_cons_zero, List.set_cons_succ]
    refine wpAnyH_take (i := 6) (v := ?v2) rfl (by kernel_rfl) (by kernel_rfl) (by kernel_rfl) (fun _ _ _ h => h) (Or.inl ⟨by rfl, ?y2⟩) (by assumption) ?r2
    case y2 => (intro w hSw; (go_simp <;> first | with_reducible rfl | (rw [if_pos (by omega)] <;> with_reducible rfl)))
    try simp only [Act.put, List.getElem_toArray, List.getElem_cons_zero, List.getElem_cons_succ, List.setIfInBounds_toArray, List.set_cons_zero, List.set_cons_succ]
    refine wpAnyH_take (i := 7) (v := ?v3) rfl (by kernel_rfl) (by kernel_rfl) (by kernel_rfl) (fun _ _ _ h => h) (Or.inl ⟨by rfl, ?y3⟩) (by assumption) ?r3
    case y3 => (intro w hSw; (go_simp <;> first | with_reducible rfl | (rw [if_pos (by omega)] <;> with_reducible rfl)))
    try simp only [Act.put, List.getElem_toArray, List.getElem_cons_zero, List.getElem_cons_succ, List.setIfInBounds_toArray, List.set_cons_zero, List.set_cons_succ]
    refine wpAnyH_done (by kernel_rfl) ?_ _
    go_wp2_with fail
    have R0 := Lib.hid hHeld.2.1
    have R1 := Lib.hid hHeld.2.2.1
    have R2 := Lib.hid hHeld.2.2.2
    have BB := Lib.hid (B5.out.trans (hHeld.1.mono B5.out.size))
    clear hHeld Q50 Q51 P5 B5
    obtain ⟨w6, hw6⟩ : ∃ W, W = wn := ⟨_, rfl⟩
    subst hw6
    cases tb
    · have hs := ht.resolve_left (by decide)
      have s0 : (at8 z 97 != 0) = true := by simpa using hs.1
      have s1 : (at8 z 97 != 1) = true := by simpa using hs.2
      clear hs ht
      refine wp_region_held_drew (S := fun w' => Below w6.heap.size w6 w' ∧ PosAt w' w.heap.size z ∧ PosAt w' w1.heap.size z1 ∧ PosAt w' w3.heap.size z2) (by kernel_rfl) ?_ (fun hHeld => ?_)
      · exact ⟨(bref w6).drew, R0.out, R1.out, R2.out⟩
      refine wpAnyH_take (i := 0) rfl (by kernel_rfl) (by kernel_rfl) (by kernel_rfl) (fun _ _ _ h => h) (yieldsIf_load_mid (by rfl) _ _ rfl _ _ rfl (posC z1) _ (fun w h => h.2.2.1.range) (Try.underlying47) rfl (HINF1.out)) (by assumption) ?_
      try simp only [Act.put, List.getElem_toArray, List.getElem_cons_zero, List.getElem_cons_succ, List.setIfInBounds_toArray, List.set_cons_zero, List.set_cons_succ]
      refine wpAnyH_take (i := 2) rfl (by kernel_rfl) (by kernel_rfl) (by kernel_rfl) (fun _ _ _ h => h) (yieldsIf_load_mid (by rfl) _ _ rfl _ _ rfl (posC z) _ (fun w h => h.2.1.range) (Try.underlying47) rfl (HINF.out)) (by assumption) ?_
      try simp only [Act.put, List.getElem_toArray, List.getElem_cons_zero, List.getElem_cons_succ, List.setIfInBounds_toArray, List.set_cons_zero, List.set_cons_succ]
      refine wpAnyH_take (i := 4) (v := ?v4) rfl (by kernel_rfl) (by kernel_rfl) (by kernel_rfl) (fun _ _ _ h => h) (Or.inl ⟨by rfl, ?y4⟩) (by assumption) ?r4
      case y4 => (intro w hSw; (go_simp <;> first | with_reducible rfl | (rw [if_pos (by omega)] <;> with_reducible rfl)))
      try simp only [Act.put, List.getElem_toArray, List.getElem_cons_zero, List.getElem_cons_succ, List.setIfInBounds_toArray, List.set_cons_zero, List.set_cons_succ]
      refine wpAnyH_take (i := 5) (v := ?v5) rfl (by kernel_rfl) (by kernel_rfl) (by kernel_rfl) (fun _ _ _ h => h) (Or.inl ⟨by rfl, ?y5⟩) (by assumption) ?r5
      case y5 => (intro w hSw; (go_simp <;> first | with_reducible rfl | (rw [if_pos (by omega)] <;> with_reducible rfl)))
      try simp only [Act.put, List.getElem_toArray, List.getElem_cons_zero, List.getElem_cons_succ, List.setIfInBounds_toArray, List.set_cons_zero, List.set_cons_succ]
      refine wpAnyH_take (i := 6) (v := ?v6) rfl (by kernel_rfl) (by kernel_rfl) (by kernel_rfl) (fun _ _ _ h => h) (Or.inl ⟨by rfl, ?y6⟩) (by assumption) ?r6
      case y6 => (intro w hSw; (go_simp <;> first | with_reducible rfl | (rw [if_pos (by omega)] <;> with_reducible rfl)))
      try simp only [Act.put, List.getElem_toArray, List.getElem_cons_zero, List.getElem_cons_succ, List.setIfInBounds_toArray, List.set_cons_zero, List.set_cons_succ]
      refine wpAnyH_take (i := 7) (v := ?v7) rfl (by kernel_rfl) (by kernel_rfl) (by kernel_rfl) (fun _ _ _ h => h) (Or.inl ⟨by rfl, ?y7⟩) (by assumption) ?r7
      case y7 => (intro w hSw; (go_simp <;> first | with_reducible rfl | (rw [if_pos (by omega)] <;> with_reducible rfl)))
      try simp only [Act.put, List.getElem_toArray, List.getElem_cons_zero, List.getElem_cons_succ, List.setIfInBounds_toArray, List.set_cons_zero, List.set_cons_succ]
      refine wpAnyH_take (i := 8) (v := ?v8) rfl (by kernel_rfl) (by kernel_rfl) (by kernel_rfl) (fun _ _ _ h => h) (Or.inl ⟨by rfl, ?y8⟩) (by assumption) ?r8
      case y8 => (intro w hSw; have ck := hSw.2.1.cell k (by have := HZ.out; omega); (go_simp <;> first | with_reducible rfl | (rw [if_pos (by omega)] <;> with_reducible rfl)))
      try simp only [Act.put, List.getElem_toArray, List.getElem_cons_zero, List.getElem_cons_succ, List.setIfInBounds_toArray, List.set_cons_zero, List.set_cons_succ]
      refine wpAnyH_take (i := 11) (v := ?v9) rfl (by kernel_rfl) (by kernel_rfl) (by kernel_rfl) (fun _ _ _ h => h) (Or.inl ⟨by rfl, ?y9⟩) (by assumption) ?r9
      case y9 => (intro w hSw; (go_simp <;> first | with_reducible rfl | (rw [if_pos (by omega)] <;> with_reducible rfl)))
      try simp only [Act.put, List.getElem_toArray, List.getElem_cons_zero, List.getElem_cons_succ, List.setIfInBounds_toArray, List.set_cons_zero, List.set_cons_succ]
      refine wpAnyH_take (i := 12) (v := ?v10) rfl (by kernel_rfl) (by kernel_rfl) (by kernel_rfl) (fun _ _ _ h => h) (Or.inl ⟨by rfl, ?y10⟩) (by assumption) ?r10
      case y10 => (intro w hSw; (go_simp <;> first | with_reducible rfl | (rw [if_pos (by omega)] <;> with_reducible rfl)))
      try simp only [Act.put, List.getElem_toArray, List.getElem_cons_zero, List.getElem_cons_succ, List.setIfInBounds_toArray, List.set_cons_zero, List.set_cons_succ]
      refine wpAnyH_ready (rs := [1]) (by kernel_rfl) (by simp) ?_
      refine AllReadyH.cons rfl (fun K hK => ?_) AllReadyH.nil
      rw [if_pos (by rfl)]
      go_simp
      go_at_call 27
      refine (O1.out _).mono ?_
      rintro e wn ⟨rfl, hb⟩
      refine hK.out _ _ (⟨bthen hHeld.1 hb, hHeld.2.1.grow hb, hHeld.2.2.1.grow hb, hHeld.2.2.2.grow hb⟩) (fun hHeld => ?_)
      clear hK K
      try simp only [Act.put, List.getElem_toArray, List.getElem_cons_zero, List.getElem_cons_succ, List.setIfInBounds_toArray, List.set_cons_zero, List.set_cons_succ]
      refine wpAnyH_ready (rs := [3]) (by kernel_rfl) (by simp) ?_
      refine AllReadyH.cons rfl (fun K hK => ?_) AllReadyH.nil
      rw [if_pos (by rfl)]
      go_simp
      go_at_call 27
      refine (O0.out _).mono ?_
      rintro e wn ⟨rfl, hb⟩
      refine hK.out _ _ (⟨bthen hHeld.1 hb, hHeld.2.1.grow hb, hHeld.2.2.1.grow hb, hHeld.2.2.2.grow hb⟩) (fun hHeld => ?_)
      clear hK K
      try simp only [Act.put, List.getElem_toArray, List.getElem_cons_zero, List.getElem_cons_succ, List.setIfInBounds_toArray, List.set_cons_zero, List.set_cons_succ]
      refine wpAnyH_ready (rs := [9]) (by kernel_rfl) (by simp) ?_
      refine AllReadyH.cons rfl (fun K hK => ?_) AllReadyH.nil
      rw [if_pos (by rfl)]
      go_simp
      go_at_call 24
      refine (PA.out _).mono ?_
      rintro e wn ⟨rfl, hb⟩
      refine hK.out _ _ (⟨bthen hHeld.1 hb, hHeld.2.1.grow hb, hHeld.2.2.1.grow hb, hHeld.2.2.2.grow hb⟩) (fun hHeld => ?_)
      clear hK K
      try simp only [Act.put, List.getElem_toArray, List.getElem_cons_zero, List.getElem_cons_succ, List.setIfInBounds_toArray, List.set_cons_zero, List.set_cons_succ]
      refine wpAnyH_take (i := 10) (v := ?v11) rfl (by kernel_rfl) (by kernel_rfl) (by kernel_rfl) (fun _ _ _ h => h) (Or.inl ⟨by rfl, ?y11⟩) (by assumption) ?r11
      case y11 => (intro w hSw; (go_simp <;> first | with_reducible rfl | (rw [if_pos (by omega)] <;> with_reducible rfl)))
      try simp only [Act.put, List.getElem_toArray, List.getElem_cons_zero, List.getElem_cons_succ, List.setIfInBounds_toArray, List.set_cons_zero, List.set_cons_succ]
      refine wpAnyH_ready (rs := [13]) (by kernel_rfl) (by simp) ?_
      refine AllReadyH.cons rfl (fun K hK => ?_) AllReadyH.nil
      rw [if_pos (by rfl)]
      go_simp
      go_at_call 24
      refine (PB.out _).mono ?_
      rintro e wn ⟨rfl, hb⟩
      refine hK.out _ _ (⟨bthen hHeld.1 hb, hHeld.2.1.grow hb, hHeld.2.2.1.grow hb, hHeld.2.2.2.grow hb⟩) (fun hHeld => ?_)
      clear hK K
      try simp only [Act.put, List.getElem_toArray, List.getElem_cons_zero, List.getElem_cons_succ, List.setIfInBounds_toArray, List.set_cons_zero, List.set_cons_succ]
      refine wpAnyH_take (i := 14) (v := ?v12) rfl (by kernel_rfl) (by kernel_rfl) (by kernel_rfl) (fun _ _ _ h => h) (Or.inl ⟨by rfl, ?y12⟩) (by assumption) ?r12
      case y12 => (intro w hSw; (go_simp <;> first | with_reducible rfl | (rw [if_pos (by omega)] <;> with_reducible rfl)))
      try simp only [Act.put, List.getElem_toArray, List.getElem_cons_zero, List.getElem_cons_succ, List.setIfInBounds_toArray, List.set_cons_zero, List.set_cons_succ]
      refine wpAnyH_take (i := 15) (v := ?v13) rfl (by kernel_rfl) (by kernel_rfl) (by kernel_rfl) (fun _ _ _ h => h) (Or.inl ⟨by rfl, ?y13⟩) (by assumption) ?r13
      case y13 => (intro w hSw; (go_simp <;> first | with_reducible rfl | (rw [if_pos (by omega)] <;> with_reducible rfl)))
      try simp only [Act.put, List.getElem_toArray, List.getElem_cons_zero, List.getElem_cons_succ, List.setIfInBounds_toArray, List.set_cons_zero, List.set_cons_succ]
      refine wpAnyH_take (i := 16) (v := ?v14) rfl (by kernel_rfl) (by kernel_rfl) (by kernel_rfl) (fun _ _ _ h => h) (Or.inl ⟨by rfl, ?y14⟩) (by assumption) ?r14
      case y14 => (intro w hSw; (go_simp <;> first | with_reducible rfl | (rw [if_pos (by omega)] <;> with_reducible rfl)))
      try simp only [Act.put, List.getElem_toArray, List.getElem_cons_zero, List.getElem_cons_succ, List.setIfInBounds_toArray, List.set_cons_zero, List.set_cons_succ]
      refine wpAnyH_take (i := 17) (v := ?v15) rfl (by kernel_rfl) (by kernel_rfl) (by kernel_rfl) (fun _ _ _ h => h) (Or.inl ⟨by rfl, ?y15⟩) (by assumption) ?r15
      case y15 => (intro w hSw; (go_simp <;> first | with_reducible rfl | (rw [if_pos (by omega)] <;> with_reducible rfl)))
      try simp only [Act.put, List.getElem_toArray, List.getElem_cons_zero, List.getElem_cons_succ, List.setIfInBounds_toArray, List.set_cons_zero, List.set_cons_succ]
      refine wpAnyH_take (i := 18) (v := ?v16) rfl (by kernel_rfl) (by kernel_rfl) (by kernel_rfl) (fun _ _ _ h => h) (Or.inl ⟨by rfl, ?y16⟩) (by assumption) ?r16
      case y16 => (intro w hSw; (go_simp <;> first | with_reducible rfl | (rw [if_pos (by omega)] <;> with_reducible rfl)))
      try simp only [Act.put, List.getElem_toArray, List.getElem_cons_zero, List.getElem_cons_succ, List.setIfInBounds_toArray, List.set_cons_zero, List.set_cons_succ]
      refine wpAnyH_take (i := 19) (v := ?v17) rfl (by kernel_rfl) (by kernel_rfl) (by kernel_rfl) (fun _ _ _ h => h) (Or.inl ⟨by rfl, ?y17⟩) (by assumption) ?r17
      case y17 => (intro w hSw; (go_simp <;> first | with_reducible rfl | (rw [if_pos (by omega)] <;> with_reducible rfl)))
      try simp only [Act.put, List.getElem_toArray, List.getElem_cons_zero, List.getElem_cons_succ, List.setIfInBounds_toArray, List.set_cons_zero, List.set_cons_succ]
      refine wpAnyH_take (i := 20) (v := ?v18) rfl (by kernel_rfl) (by kernel_rfl) (by kernel_rfl) (fun _ _ _ h => h) (Or.inl ⟨by rfl, ?y18⟩) (by assumption) ?r18
      case y18 => (intro w hSw; have c97 := hSw.2.1.cell 97 (by have := HZ.out; omega); (go_simp <;> first | with_reducible rfl | (rw [if_pos (by omega)] <;> with_reducible rfl)))
      try simp only [Act.put, List.getElem_toArray, List.getElem_cons_zero, List.getElem_cons_succ, List.setIfInBounds_toArray, List.set_cons_zero, List.set_cons_succ]
      refine wpAnyH_take (i := 21) (v := ?v19) rfl (by kernel_rfl) (by kernel_rfl) (by kernel_rfl) (fun _ _ _ h => h) (Or.inl ⟨by rfl, ?y19⟩) (by assumption) ?r19
      case y19 => (intro w hSw; (go_simp <;> first | with_reducible rfl | (rw [if_pos (by omega)] <;> with_reducible rfl)))
      try simp only [Act.put, List.getElem_toArray, List.getElem_cons_zero, List.getElem_cons_succ, List.setIfInBounds_toArray, List.set_cons_zero, List.set_cons_succ]
      refine wpAnyH_take (i := 22) (v := ?v20) rfl (by kernel_rfl) (by kernel_rfl) (by kernel_rfl) (fun _ _ _ h => h) (Or.inl ⟨by rfl, ?y20⟩) (by assumption) ?r20
      case y20 => (intro w hSw; (go_simp <;> first | with_reducible rfl | (rw [if_pos (by omega)] <;> with_reducible rfl)))
      try simp only [Act.put, List.getElem_toArray, List.getElem_cons_zero, List.getElem_cons_succ, List.setIfInBounds_toArray, List.set_cons_zero, List.set_cons_succ]
      refine wpAnyH_take (i := 23) (v := ?v21) rfl (by kernel_rfl) (by kernel_rfl) (by kernel_rfl) (fun _ _ _ h => h) (Or.inl ⟨by rfl, ?y21⟩) (by assumption) ?r21
      case y21 => (intro w hSw; (go_simp <;> first | with_reducible rfl | (rw [if_pos (by omega)] <;> with_reducible rfl)))
      try simp only [Act.put, List.getElem_toArray, List.getElem_cons_zero, List.getElem_cons_succ, List.setIfInBounds_toArray, List.set_cons_zero, List.set_cons_succ]
      refine wpAnyH_take (i := 24) (v := ?v22) rfl (by kernel_rfl) (by kernel_rfl) (by kernel_rfl) (fun _ _ _ h => h) (Or.inl ⟨by rfl, ?y22⟩) (by assumption) ?r22
      case y22 => (intro w hSw; have c97 := hSw.2.1.cell 97 (by have := HZ.out; omega); (go_simp <;> first | with_reducible rfl | (rw [if_pos (by omega)] <;> with_reducible rfl)))
      try simp only [Act.put, List.getElem_toArray, List.getElem_cons_zero, List.getElem_cons_succ, List.setIfInBounds_toArray, List.set_cons_zero, List.set_cons_succ]
      refine wpAnyH_take (i := 25) (v := ?v23) rfl (by kernel_rfl) (by kernel_rfl) (by kernel_rfl) (fun _ _ _ h => h) (Or.inl ⟨by rfl, ?y23⟩) (by assumption) ?r23
      case y23 => (intro w hSw; (go_simp <;> first | with_reducible rfl | (rw [if_pos (by omega)] <;> with_reducible rfl)))
      try simp only [Act.put, List.getElem_toArray, List.getElem_cons_zero, List.getElem_cons_succ, List.setIfInBounds_toArray, List.set_cons_zero, List.set_cons_succ]
      refine wpAnyH_take (i := 26) (v := ?v24) rfl (by kernel_rfl) (by kernel_rfl) (by kernel_rfl) (fun _ _ _ h => h) (Or.inl ⟨by rfl, ?y24⟩) (by assumption) ?r24
      case y24 => (intro w hSw; (go_simp <;> first | with_reducible rfl | (rw [if_pos (by omega)] <;> with_reducible rfl)))
      try simp only [Act.put, List.getElem_toArray, List.getElem_cons_zero, List.getElem_cons_succ, List.setIfInBounds_toArray, List.set_cons_zero, List.set_cons_succ]
      refine wpAnyH_take (i := 27) (v := ?v25) rfl (by kernel_rfl) (by kernel_rfl) (by kernel_rfl) (fun _ _ _ h => h) (Or.inl ⟨by rfl, ?y25⟩) (by assumption) ?r25
      case y25 => (intro w hSw; (go_simp <;> first | with_reducible rfl | (rw [if_pos (by omega)] <;> with_reducible rfl)))
      try simp only [Act.put, List.getElem_toArray, List.getElem_cons_zero, List.getElem_cons_succ, List.setIfInBounds_toArray, List.set_cons_zero, List.set_cons_succ]
      refine wpAnyH_take (i := 28) (v := ?v26) rfl (by kernel_rfl) (by kernel_rfl) (by kernel_rfl) (fun _ _ _ h => h) (Or.inl ⟨by rfl, ?y26⟩) (by assumption) ?r26
      case y26 => (intro w hSw; (go_simp <;> first | with_reducible rfl | (rw [if_pos (by omega)] <;> with_reducible rfl)))
      try simp only [Act.put, List.getElem_toArray, List.getElem_cons_zero, List.getElem_cons_succ, List.setIfInBounds_toArray, List.set_cons_zero, List.set_cons_succ]
      refine wpAnyH_take (i := 29) (v := ?v27) rfl (by kernel_rfl) (by kernel_rfl) (by kernel_rfl) (fun _ _ _ h => h) (Or.inl ⟨by rfl, ?y27⟩) (by assumption) ?r27
      case y27 => (intro w hSw; (go_simp <;> first | with_reducible rfl | (rw [if_pos (by omega)] <;> with_reducible rfl)))
      try simp only [Act.put, List.getElem_toArray, List.getElem_cons_zero, List.getElem_cons_succ, List.setIfInBounds_toArray, List.set_cons_zero, List.set_cons_succ]
      refine wpAnyH_done (by kernel_rfl) ?_ _
      go_wp2
      go_ret
      exact ⟨rfl, BB.out.trans (hHeld.1.mono BB.out.size)⟩
    · clear ht
      refine wp_region_held_drew (S := fun w' => Below w6.heap.size w6 w' ∧ PosAt w' w.heap.size z ∧ PosAt w' w1.heap.size z1 ∧ PosAt w' w3.heap.size z2) (by kernel_rfl) ?_ (fun hHeld => ?_)
      · exact ⟨(bref w6).drew, R0.out, R1.out, R2.out⟩
      refine wpAnyH_take (i := 0) rfl (by kernel_rfl) (by kernel_rfl) (by kernel_rfl) (fun _ _ _ h => h) (yieldsIf_load_mid (by rfl) _ _ rfl _ _ rfl (posC z1) _ (fun w h => h.2.2.1.range) (Try.underlying47) rfl (HINF1.out)) (by assumption) ?_
      try simp only [Act.put, List.getElem_toArray, List.getElem_cons_zero, List.getElem_cons_succ, List.setIfInBounds_toArray, List.set_cons_zero, List.set_cons_succ]
      refine wpAnyH_take (i := 2) rfl (by kernel_rfl) (by kernel_rfl) (by kernel_rfl) (fun _ _ _ h => h) (yieldsIf_load_mid (by rfl) _ _ rfl _ _ rfl (posC z) _ (fun w h => h.2.1.range) (Try.underlying47) rfl (HINF.out)) (by assumption) ?_
      try simp only [Act.put, List.getElem_toArray, List.getElem_cons_zero, List.getElem_cons_succ, List.setIfInBounds_toArray, List.set_cons_zero, List.set_cons_succ]
      refine wpAnyH_take (i := 4) (v := ?v28) rfl (by kernel_rfl) (by kernel_rfl) (by kernel_rfl) (fun _ _ _ h => h) (Or.inl ⟨by rfl, ?y28⟩) (by assumption) ?r28
      case y28 => (intro w hSw; (go_simp <;> first | with_reducible rfl | (rw [if_pos (by omega)] <;> with_reducible rfl)))
      try simp only [Act.put, List.getElem_toArray, List.getElem_cons_zero, List.getElem_cons_succ, List.setIfInBounds_toArray, List.set_cons_zero, List.set_cons_succ]
      refine wpAnyH_take (i := 5) (v := ?v29) rfl (by kernel_rfl) (by kernel_rfl) (by kernel_rfl) (fun _ _ _ h => h) (Or.inl ⟨by rfl, ?y29⟩) (by assumption) ?r29
      case y29 => (intro w hSw; (go_simp <;> first | with_reducible rfl | (rw [if_pos (by omega)] <;> with_reducible rfl)))
      try simp only [Act.put, List.getElem_toArray, List.getElem_cons_zero, List.getElem_cons_succ, List.setIfInBounds_toArray, List.set_cons_zero, List.set_cons_succ]
      refine wpAnyH_take (i := 6) (v := ?v30) rfl (by kernel_rfl) (by kernel_rfl) (by kernel_rfl) (fun _ _ _ h => h) (Or.inl ⟨by rfl, ?y30⟩) (by assumption) ?r30
      case y30 => (intro w hSw; (go_simp <;> first | with_reducible rfl | (rw [if_pos (by omega)] <;> with_reducible rfl)))
      try simp only [Act.put, List.getElem_toArray, List.getElem_cons_zero, List.getElem_cons_succ, List.setIfInBounds_toArray, List.set_cons_zero, List.set_cons_succ]
      refine wpAnyH_take (i := 7) (v := ?v31) rfl (by kernel_rfl) (by kernel_rfl) (by kernel_rfl) (fun _ _ _ h => h) (Or.inl ⟨by rfl, ?y31⟩) (by assumption) ?r31
      case y31 => (intro w hSw; (go_simp <;> first | with_reducible rfl | (rw [if_pos (by omega)] <;> with_reducible rfl)))
      try simp only [Act.put, List.getElem_toArray, List.getElem_cons_zero, List.getElem_cons_succ, List.setIfInBounds_toArray, List.set_cons_zero, List.set_cons_succ]
      refine wpAnyH_take (i := 8) (v := ?v32) rfl (by kernel_rfl) (by kernel_rfl) (by kernel_rfl) (fun _ _ _ h => h) (Or.inl ⟨by rfl, ?y32⟩) (by assumption) ?r32
      case y32 => (intro w hSw; have ck := hSw.2.1.cell k (by have := HZ.out; omega); (go_simp <;> first | with_reducible rfl | (rw [if_pos (by omega)] <;> with_reducible rfl)))
      try simp only [Act.put, List.getElem_toArray, List.getElem_cons_zero, List.getElem_cons_succ, List.setIfInBounds_toArray, List.set_cons_zero, List.set_cons_succ]
      refine wpAnyH_take (i := 11) (v := ?v33) rfl (by kernel_rfl) (by kernel_rfl) (by kernel_rfl) (fun _ _ _ h => h) (Or.inl ⟨by rfl, ?y33⟩) (by assumption) ?r33
      case y33 => (intro w hSw; (go_simp <;> first | with_reducible rfl | (rw [if_pos (by omega)] <;> with_reducible rfl)))
      try simp only [Act.put, List.getElem_toArray, List.getElem_cons_zero, List.getElem_cons_succ, List.setIfInBounds_toArray, List.set_cons_zero, List.set_cons_succ]
      refine wpAnyH_take (i := 12) (v := ?v34) rfl (by kernel_rfl) (by kernel_rfl) (by kernel_rfl) (fun _ _ _ h => h) (Or.inl ⟨by rfl, ?y34⟩) (by assumption) ?r34
      case y34 => (intro w hSw; (go_simp <;> first | with_reducible rfl | (rw [if_pos (by omega)] <;> with_reducible rfl)))
      try simp only [Act.put, List.getElem_toArray, List.getElem_cons_zero, List.getElem_cons_succ, List.setIfInBounds_toArray, List.set_cons_zero, List.set_cons_succ]
      refine wpAnyH_ready (rs := [1]) (by kernel_rfl) (by simp) ?_
      refine AllReadyH.cons rfl (fun K hK => ?_) AllReadyH.nil
      rw [if_pos (by rfl)]
      go_simp
      go_at_call 27
      refine (O1.out _).mono ?_
      rintro e wn ⟨rfl, hb⟩
      refine hK.out _ _ (⟨bthen hHeld.1 hb, hHeld.2.1.grow hb, hHeld.2.2.1.grow hb, hHeld.2.2.2.grow hb⟩) (fun hHeld => ?_)
      clear hK K
      try simp only [Act.put, List.getElem_toArray, List.getElem_cons_zero, List.getElem_cons_succ, List.setIfInBounds_toArray, List.set_cons_zero, List.set_cons_succ]
      refine wpAnyH_ready (rs := [3]) (by kernel_rfl) (by simp) ?_
      refine AllReadyH.cons rfl (fun K hK => ?_) AllReadyH.nil
      rw [if_pos (by rfl)]
      go_simp
      go_at_call 27
      refine (O0.out _).mono ?_
      rintro e wn ⟨rfl, hb⟩
      refine hK.out _ _ (⟨bthen hHeld.1 hb, hHeld.2.1.grow hb, hHeld.2.2.1.grow hb, hHeld.2.2.2.grow hb⟩) (fun hHeld => ?_)
      clear hK K
      try simp only [Act.put, List.getElem_toArray, List.getElem_cons_zero, List.getElem_cons_succ, List.setIfInBounds_toArray, List.set_cons_zero, List.set_cons_succ]
      refine wpAnyH_ready (rs := [9]) (by kernel_rfl) (by simp) ?_
      refine AllReadyH.cons rfl (fun K hK => ?_) AllReadyH.nil
      rw [if_pos (by rfl)]
      go_simp
      go_at_call 24
      refine (PA.out _).mono ?_
      rintro e wn ⟨rfl, hb⟩
      refine hK.out _ _ (⟨bthen hHeld.1 hb, hHeld.2.1.grow hb, hHeld.2.2.1.grow hb, hHeld.2.2.2.grow hb⟩) (fun hHeld => ?_)
      clear hK K
      try simp only [Act.put, List.getElem_toArray, List.getElem_cons_zero, List.getElem_cons_succ, List.setIfInBounds_toArray, List.set_cons_zero, List.set_cons_succ]
      refine wpAnyH_take (i := 10) (v := ?v35) rfl (by kernel_rfl) (by kernel_rfl) (by kernel_rfl) (fun _ _ _ h => h) (Or.inl ⟨by rfl, ?y35⟩) (by assumption) ?r35
      case y35 => (intro w hSw; (go_simp <;> first | with_reducible rfl | (rw [if_pos (by omega)] <;> with_reducible rfl)))
      try simp only [Act.put, List.getElem_toArray, List.getElem_cons_zero, List.getElem_cons_succ, List.setIfInBounds_toArray, List.set_cons_zero, List.set_cons_succ]
      refine wpAnyH_ready (rs := [13]) (by kernel_rfl) (by simp) ?_
      refine AllReadyH.cons rfl (fun K hK => ?_) AllReadyH.nil
      rw [if_pos (by rfl)]
      go_simp
      go_at_call 24
      refine (PB.out _).mono ?_
      rintro e wn ⟨rfl, hb⟩
      refine hK.out _ _ (⟨bthen hHeld.1 hb, hHeld.2.1.grow hb, hHeld.2.2.1.grow hb, hHeld.2.2.2.grow hb⟩) (fun hHeld => ?_)
      clear hK K
      try simp only [Act.put, List.getElem_toArray, List.getElem_cons_zero, List.getElem_cons_succ, List.setIfInBounds_toArray, List.set_cons_zero, List.set_cons_succ]
      refine wpAnyH_take (i := 14) (v := ?v36) rfl (by kernel_rfl) (by kernel_rfl) (by kernel_rfl) (fun _ _ _ h => h) (Or.inl ⟨by rfl, ?y36⟩) (by assumption) ?r36
      case y36 => (intro w hSw; (go_simp <;> first | with_reducible rfl | (rw [if_pos (by omega)] <;> with_reducible rfl)))
      try simp only [Act.put, List.getElem_toArray, List.getElem_cons_zero, List.getElem_cons_succ, List.setIfInBounds_toArray, List.set_cons_zero, List.set_cons_succ]
      refine wpAnyH_take (i := 15) (v := ?v37) rfl (by kernel_rfl) (by kernel_rfl) (by kernel_rfl) (fun _ _ _ h => h) (Or.inl ⟨by rfl, ?y37⟩) (by assumption) ?r37
      case y37 => (intro w hSw; (go_simp <;> first | with_reducible rfl | (rw [if_pos (by omega)] <;> with_reducible rfl)))
      try simp only [Act.put, List.getElem_toArray, List.getElem_cons_zero, List.getElem_cons_succ, List.setIfInBounds_toArray, List.set_cons_zero, List.set_cons_succ]
      refine wpAnyH_take (i := 16) (v := ?v38) rfl (by kernel_rfl) (by kernel_rfl) (by kernel_rfl) (fun _ _ _ h => h) (Or.inl ⟨by rfl, ?y38⟩) (by assumption) ?r38
      case y38 => (intro w hSw; (go_simp <;> first | with_reducible rfl | (rw [if_pos (by omega)] <;> with_reducible rfl)))
      try simp only [Act.put, List.getElem_toArray, List.getElem_cons_zero, List.getElem_cons_succ, List.setIfInBounds_toArray, List.set_cons_zero, List.set_cons_succ]
      refine wpAnyH_take (i := 17) (v := ?v39) rfl (by kernel_rfl) (by kernel_rfl) (by kernel_rfl) (fun _ _ _ h => h) (Or.inl ⟨by rfl, ?y39⟩) (by assumption) ?r39
      case y39 => (intro w hSw; (go_simp <;> first | with_reducible rfl | (rw [if_pos (by omega)] <;> with_reducible rfl)))
      try simp only [Act.put, List.getElem_toArray, List.getElem_cons_zero, List.getElem_cons_succ, List.setIfInBounds_toArray, List.set_cons_zero, List.set_cons_succ]
      refine wpAnyH_take (i := 18) (v := ?v40) rfl (by kernel_rfl) (by kernel_rfl) (by kernel_rfl) (fun _ _ _ h => h) (Or.inl ⟨by rfl, ?y40⟩) (by assumption) ?r40
      case y40 => (intro w hSw; (go_simp <;> first | with_reducible rfl | (rw [if_pos (by omega)] <;> with_reducible rfl)))
      try simp only [Act.put, List.getElem_toArray, List.getElem_cons_zero, List.getElem_cons_succ, List.setIfInBounds_toArray, List.set_cons_zero, List.set_cons_succ]
      refine wpAnyH_take (i := 19) (v := undef) rfl (by kernel_rfl) (by kernel_rfl) (by kernel_rfl) (fun _ _ _ h => h) (Or.inr ⟨by rfl, rfl⟩) (by assumption) ?_
      try simp only [Act.put, List.getElem_toArray, List.getElem_cons_zero, List.getElem_cons_succ, List.setIfInBounds_toArray, List.set_cons_zero, List.set_cons_succ]
      refine wpAnyH_take (i := 20) (v := undef) rfl (by kernel_rfl) (by kernel_rfl) (by kernel_rfl) (fun _ _ _ h => h) (Or.inr ⟨by rfl, rfl⟩) (by assumption) ?_
      try simp only [Act.put, List.getElem_toArray, List.getElem_cons_zero, List.getElem_cons_succ, List.setIfInBounds_toArray, List.set_cons_zero, List.set_cons_succ]
      refine wpAnyH_take (i := 21) (v := undef) rfl (by kernel_rfl) (by kernel_rfl) (by kernel_rfl) (fun _ _ _ h => h) (Or.inr ⟨by rfl, rfl⟩) (by assumption) ?_
      try simp only [Act.put, List.getElem_toArray, List.getElem_cons_zero, List.getElem_cons_succ, List.setIfInBounds_toArray, List.set_cons_zero, List.set_cons_succ]
      refine wpAnyH_take (i := 22) (v := undef) rfl (by kernel_rfl) (by kernel_rfl) (by kernel_rfl) (fun _ _ _ h => h) (Or.inr ⟨by rfl, rfl⟩) (by assumption) ?_
      try simp only [Act.put, List.getElem_toArray, List.getElem_cons_zero, List.getElem_cons_succ, List.setIfInBounds_toArray, List.set_cons_zero, List.set_cons_succ]
      refine wpAnyH_take (i := 23) (v := undef) rfl (by kernel_rfl) (by kernel_rfl) (by kernel_rfl) (fun _ _ _ h => h) (Or.inr ⟨by rfl, rfl⟩) (by assumption) ?_
      try simp only [Act.put, List.getElem_toArray, List.getElem_cons_zero, List.getElem_cons_succ, List.setIfInBounds_toArray, List.set_cons_zero, List.set_cons_succ]
      refine wpAnyH_take (i := 24) (v := undef) rfl (by kernel_rfl) (by kernel_rfl) (by kernel_rfl) (fun _ _ _ h => h) (Or.inr ⟨by rfl, rfl⟩) (by assumption) ?_
      try simp only [Act.put, List.getElem_toArray, List.getElem_cons_zero, List.getElem_cons_succ, List.setIfInBounds_toArray, List.set_cons_zero, List.set_cons_succ]
      refine wpAnyH_take (i := 25) (v := undef) rfl (by kernel_rfl) (by kernel_rfl) (by kernel_rfl) (fun _ _ _ h => h) (Or.inr ⟨by rfl, rfl⟩) (by assumption) ?_
      try simp only [Act.put, List.getElem_toArray, List.getElem_cons_zero, List.getElem_cons_succ, List.setIfInBounds_toArray, List.set_cons_zero, List.set_cons_succ]
      refine wpAnyH_take (i := 26) (v := undef) rfl (by kernel_rfl) (by kernel_rfl) (by kernel_rfl) (fun _ _ _ h => h) (Or.inr ⟨by rfl, rfl⟩) (by assumption) ?_
      try simp only [Act.put, List.getElem_toArray, List.getElem_cons_zero, List.getElem_cons_succ, List.setIfInBounds_toArray, List.set_cons_zero, List.set_cons_succ]
      refine wpAnyH_take (i := 27) (v := ?v41) rfl (by kernel_rfl) (by kernel_rfl) (by kernel_rfl) (fun _ _ _ h => h) (Or.inl ⟨by rfl, ?y41⟩) (by assumption) ?r41
      case y41 => (intro w hSw; (go_simp <;> first | with_reducible rfl | (rw [if_pos (by omega)] <;> with_reducible rfl)))
      try simp only [Act.put, List.getElem_toArray, List.getElem_cons_zero, List.getElem_cons_succ, List.setIfInBounds_toArray, List.set_cons_zero, List.set_cons_succ]
      refine wpAnyH_take (i := 28) (v := ?v42) rfl (by kernel_rfl) (by kernel_rfl) (by kernel_rfl) (fun _ _ _ h => h) (Or.inl ⟨by rfl, ?y42⟩) (by assumption) ?r42
      case y42 => (intro w hSw; (go_simp <;> first | with_reducible rfl | (rw [if_pos (by omega)] <;> with_reducible rfl)))
      try simp only [Act.put, List.getElem_toArray, List.getElem_cons_zero, List.getElem_cons_succ, List.setIfInBounds_toArray, List.set_cons_zero, List.set_cons_succ]
      refine wpAnyH_take (i := 29) (v := ?v43) rfl (by kernel_rfl) (by kernel_rfl) (by kernel_rfl) (fun _ _ _ h => h) (Or.inl ⟨by rfl, ?y43⟩) (by assumption) ?r43
      case y43 => (intro w hSw; (go_simp <;> first | with_reducible rfl | (rw [if_pos (by omega)] <;> with_reducible rfl)))
      try simp only [Act.put, List.getElem_toArray, List.getElem_cons_zero, List.getElem_cons_succ, List.setIfInBounds_toArray, List.set_cons_zero, List.set_cons_succ]
      refine wpAnyH_done (by kernel_rfl) ?_ _
      go_wp2
      go_ret
      exact ⟨rfl, BB.out.trans (hHeld.1.mono BB.out.size)⟩
  · have hq' : q < 0 ∨ (¬ q < 0 ∧ 80 < q) := by omega
    have P0 := Lib.hid (PosAt.new w z)
    clear hq
    rcases hq' with c1 | ⟨c1, c2⟩
    all_goals
      go_enter Try.func7, Try.ntmps7
      go_wp2_with (go_at_call 23; refine (CT.out _).mono ?_; rintro e w1 ⟨rfl, hb1⟩)
      go_ret
      exact ⟨rfl, bthen (ball (bref w) _) hb1⟩
end Go.Proofs.Ytmpjjdlohneiiaa.keyMoves
