/-
  The walk of the law KeyHands: for every raw position, side, kind and count it returns true.
-/
import Derived.Test.YtmpjjdlohneiiaaPos
import Derived.OpenShut
import Derived.Deep.RegionHeld3
import Derived.Deep.WholeRow
namespace Go.Proofs.Ytmpjjdlohneiiaa.keyHands
open Go.RowKit
set_option linter.unusedVariables false
set_option linter.unusedSimpArgs false

set_option maxHeartbeats 8000000 in
theorem walk (z : List Int) (s k n : Int) (hz : z.length = 98) (h8 : I8s z) (g1 : (Lit.int .i64 s).wf = true) (g2 : (Lit.int .i64 k).wf = true) (g3 : (Lit.int .i64 n).wf = true) (w : World) :
    Calls Try.prog 9 #[.agg (posC z).toArray, .agg #[.int .i64 s, .int .i64 k, .int .i64 n]] w fun e w' => e = .returned (.bool true) ∧ Below w.heap.size w w' := by
  have CT := Lib.hid (fun W => counts_true W)
  have HZ := Lib.hid hz
  have H8 := Lib.hid h8
  clear g1 g2 g3 hz h8
  have P0 := Lib.hid (PosAt.new w z)
  go_enter Try.func9, Try.ntmps9
  go_wp2_with (go_at_call 23; refine (CT.out _).mono ?_; rintro e w1 ⟨rfl, hb1⟩)
  have hz0 : w.heap.size + 1 < w1.heap.size := by have := hb1.size; simp at this; omega
  have P1 := Lib.hid ((P0.out.grow (ball (bref _) _)).grow hb1)
  have d0 : w1.cell? ⟨w.heap.size + 1, 0, none⟩ = some (.int .i64 s) := by rw [hb1.cell (p := ⟨w.heap.size + 1, 0, none⟩) (by simp)]; go_simp
  have d1 : w1.cell? ⟨w.heap.size + 1, 1, none⟩ = some (.int .i64 k) := by rw [hb1.cell (p := ⟨w.heap.size + 1, 1, none⟩) (by simp)]; go_simp
  have d2 : w1.cell? ⟨w.heap.size + 1, 2, none⟩ = some (.int .i64 n) := by rw [hb1.cell (p := ⟨w.heap.size + 1, 2, none⟩) (by simp)]; go_simp
  have B1 := Lib.hid (bthen (ball (ball (bref w) _) _) hb1)
  clear hb1
  refine wp_region_held_drew (S := fun w' => Below w1.heap.size w1 w' ∧ PosAt w' w.heap.size z ∧ w'.cell? ⟨w.heap.size + 1, 0, none⟩ = some (.int .i64 s) ∧ w'.cell? ⟨w.heap.size + 1, 1, none⟩ = some (.int .i64 k) ∧ w'.cell? ⟨w.heap.size + 1, 2, none⟩ = some (.int .i64 n)) (by kernel_rfl) ?_ (fun hHeld => ?_)
  · exact ⟨(bref w1).drew, P1.out, d0, d1, d2⟩
  refine wpAnyH_take (i := 0) (v := ?v1) rfl (by kernel_rfl) (by kernel_rfl) (by kernel_rfl) (fun _ _ _ h => h) (Or.inl ⟨by rfl, ?y1⟩) (by assumption) ?r1
  case y1 => (intro w hSw; (go_simp <;> first | with_reducible rfl | (rw [if_pos (by omega)] <;> with_reducible rfl)))
  try simp only [Act.put, List.getElem_toArray, List.getElem_cons_zero, List.getElem_cons_succ, List.setIfInBounds_toArray, List.set_cons_zero, List.set_cons_succ]
  refine wpAnyH_take (i := 1) (v := ?v2) rfl (by kernel_rfl) (by kernel_rfl) (by kernel_rfl) (fun _ _ _ h => h) (Or.inl ⟨by rfl, ?y2⟩) (by assumption) ?r2
  case y2 => (intro w hSw; (go_simp <;> first | with_reducible rfl | (rw [if_pos (by omega)] <;> with_reducible rfl)))
  try simp only [Act.put, List.getElem_toArray, List.getElem_cons_zero, List.getElem_cons_succ, List.setIfInBounds_toArray, List.set_cons_zero, List.set_cons_succ]
  refine wpAnyH_take (i := 2) (v := ?v3) rfl (by kernel_rfl) (by kernel_rfl) (by kernel_rfl) (fun _ _ _ h => h) (Or.inl ⟨by rfl, ?y3⟩) (by assumption) ?r3
  case y3 => (intro w hSw; (go_simp <;> first | with_reducible rfl | (rw [if_pos (by omega)] <;> with_reducible rfl)))
  try simp only [Act.put, List.getElem_toArray, List.getElem_cons_zero, List.getElem_cons_succ, List.setIfInBounds_toArray, List.set_cons_zero, List.set_cons_succ]
  refine wpAnyH_take (i := 3) (v := ?v4) rfl (by kernel_rfl) (by kernel_rfl) (by kernel_rfl) (fun _ _ _ h => h) (Or.inl ⟨by rfl, ?y4⟩) (by assumption) ?r4
  case y4 => (intro w hSw; (go_simp <;> first | with_reducible rfl | (rw [if_pos (by omega)] <;> with_reducible rfl)))
  try simp only [Act.put, List.getElem_toArray, List.getElem_cons_zero, List.getElem_cons_succ, List.setIfInBounds_toArray, List.set_cons_zero, List.set_cons_succ]
  refine wpAnyH_take (i := 4) (v := ?v5) rfl (by kernel_rfl) (by kernel_rfl) (by kernel_rfl) (fun _ _ _ h => h) (Or.inl ⟨by rfl, ?y5⟩) (by assumption) ?r5
  case y5 => (intro w hSw; (go_simp <;> first | with_reducible rfl | (rw [if_pos (by omega)] <;> with_reducible rfl)))
  try simp only [Act.put, List.getElem_toArray, List.getElem_cons_zero, List.getElem_cons_succ, List.setIfInBounds_toArray, List.set_cons_zero, List.set_cons_succ]
  refine wpAnyH_take (i := 5) (v := ?v6) rfl (by kernel_rfl) (by kernel_rfl) (by kernel_rfl) (fun _ _ _ h => h) (Or.inl ⟨by rfl, ?y6⟩) (by assumption) ?r6
  case y6 => (intro w hSw; (go_simp <;> first | with_reducible rfl | (rw [if_pos (by omega)] <;> with_reducible rfl)))
  try simp only [Act.put, List.getElem_toArray, List.getElem_cons_zero, List.getElem_cons_succ, List.setIfInBounds_toArray, List.set_cons_zero, List.set_cons_succ]
  refine wpAnyH_take (i := 6) (v := ?v7) rfl (by kernel_rfl) (by kernel_rfl) (by kernel_rfl) (fun _ _ _ h => h) (Or.inl ⟨by rfl, ?y7⟩) (by assumption) ?r7
  case y7 => (intro w hSw; (go_simp <;> first | with_reducible rfl | (rw [if_pos (by omega)] <;> with_reducible rfl)))
  try simp only [Act.put, List.getElem_toArray, List.getElem_cons_zero, List.getElem_cons_succ, List.setIfInBounds_toArray, List.set_cons_zero, List.set_cons_succ]
  refine wpAnyH_take (i := 7) (v := ?v8) rfl (by kernel_rfl) (by kernel_rfl) (by kernel_rfl) (fun _ _ _ h => h) (Or.inl ⟨by rfl, ?y8⟩) (by assumption) ?r8
  case y8 => (intro w hSw; (go_simp <;> first | with_reducible rfl | (rw [if_pos (by omega)] <;> with_reducible rfl)))
  try simp only [Act.put, List.getElem_toArray, List.getElem_cons_zero, List.getElem_cons_succ, List.setIfInBounds_toArray, List.set_cons_zero, List.set_cons_succ]
  refine wpAnyH_take (i := 8) (v := ?v9) rfl (by kernel_rfl) (by kernel_rfl) (by kernel_rfl) (fun _ _ _ h => h) (Or.inl ⟨by rfl, ?y9⟩) (by assumption) ?r9
  case y9 => (intro w hSw; (go_simp <;> first | with_reducible rfl | (rw [if_pos (by omega)] <;> with_reducible rfl)))
  try simp only [Act.put, List.getElem_toArray, List.getElem_cons_zero, List.getElem_cons_succ, List.setIfInBounds_toArray, List.set_cons_zero, List.set_cons_succ]
  refine wpAnyH_done (by kernel_rfl) ?_ _
  have P2 := Lib.hid hHeld.2.1
  have B2 := Lib.hid (B1.out.trans (hHeld.1.mono B1.out.size))
  have hz1 : w.heap.size < w1.drew.heap.size := P2.out.lt
  clear hHeld d0 d1 d2 B1 P1 hz0
  generalize w1.drew = w2 at P2 B2 hz1 ⊢
  have c97 := P2.out.cell 97 (by have := HZ.out; omega)
  have h97 := H8.out.at 97
  by_cases hg : (0 ≤ s ∧ s ≤ 1) ∧ (1 ≤ k ∧ k ≤ 7) ∧ (0 ≤ n ∧ n ≤ 18) ∧ (at8 z 97 = 0 ∨ at8 z 97 = 1)
  · obtain ⟨⟨a1, a2⟩, ⟨a3, a4⟩, ⟨a5, a6⟩, hs⟩ := hg
    obtain ⟨s, rfl⟩ : ∃ m : Nat, s = (m : Int) := ⟨s.toNat, by omega⟩
    obtain ⟨k, rfl⟩ : ∃ m : Nat, k = (m : Int) := ⟨k.toNat, by omega⟩
    have hs2 : s < 2 := by omega
    have hk8 : k < 8 := by omega
    have z1l : (z.set (81 + s * 8 + k) n).length = 98 := by rw [List.length_set]; exact HZ.out
    have HINF := Lib.hid (show (Try.prog.info? 47).map (·.size) = some (posC z).length by rw [posC_len, HZ.out]; exact infoPos)
    have HINF1 := Lib.hid (show (Try.prog.info? 47).map (·.size) = some (posC (z.set (81 + s * 8 + k) n)).length by rw [posC_len, z1l]; exact infoPos)
    have HS0 := Lib.hid (show Try.zeroCells47.size = (posC z).toArray.size from zeroPos_size.trans (by rw [List.size_toArray, posC_len, HZ.out]))
    have HZ1 := Lib.hid z1l
    have HN := Lib.hid (show -128 ≤ n ∧ n ≤ 127 by omega)
    have b1 : ¬ (s : Int) < 0 := by omega
    have b2 : ¬ 1 < (s : Int) := by omega
    have b3 : ¬ (k : Int) < 1 := by omega
    have b4 : ¬ 7 < (k : Int) := by omega
    have b5 : ¬ n < 0 := by omega
    have b6 : ¬ 18 < n := by omega
    have b7 : (s : Int) < 2 := by omega
    have b8 : (k : Int) < 8 := by omega
    have HS := Lib.hid hs
    have s01 : (at8 z 97 != 0) = false ∨ ((at8 z 97 != 0) = true ∧ (at8 z 97 != 1) = false) := by
      rcases hs with h | h
      · exact .inl (by rw [h]; rfl)
      · exact .inr ⟨by rw [h]; rfl, by rw [h]; rfl⟩
    have fin : ∀ (v : Int) (w7 w4 : World) (hz4 : w2.heap.size < w4.heap.size), True := fun _ _ _ _ => trivial
    clear z1l hs a1 a2 a3 a4 a5 a6 h97
    rcases s01 with s0 | ⟨s0, s1⟩
    · go_wp2_with (first
        | (refine wpList_load_mid rfl _ _ rfl w.heap.size 0 rfl (posC z) _ P2.out.range Try.underlying47 rfl HINF.out ?_)
        | (refine wpList_store_row rfl 47 _ _ rfl w2.heap.size (posC z).toArray rfl rfl 47 Try.zeroCells47 (heap_alloc_new w2 _) (by rw [List.size_toArray]; exact HINF.out) HS0.out (posC_one z) ?_
           rw [World.setRow_alloc_new]
           have P3 := Lib.hid (PosAt.new w2 z)
           have hb3 := ball (bref w2) (.cells (posC z).toArray 47)
           have P30 := Lib.hid (P2.out.grow hb3)
           have B3 := Lib.hid (B2.out.trans (hb3.mono (Nat.le_of_lt hz1)))
           have hz3 : w2.heap.size < (w2.alloc (.cells (posC z).toArray 47)).heap.size := P3.out.lt
           generalize w2.alloc (.cells (posC z).toArray 47) = w3 at P3 hb3 P30 B3 hz3 ⊢
           have ck := P3.out.cell (81 + s * 8 + k) (by have := HZ.out; omega)
           have fk := P3.out.frozen (81 + s * 8 + k))
        | (refine wpList_load_mid rfl _ _ rfl w.heap.size 0 rfl (posC z) _ (P30.out.other (Nat.ne_of_lt hz1) (81 + s * 8 + k) (.int .i8 n)).range Try.underlying47 rfl HINF.out ?_
           have P4 := Lib.hid (P3.out.set (81 + s * 8 + k) n)
           have P40 := Lib.hid (P30.out.other (Nat.ne_of_lt hz1) (81 + s * 8 + k) (.int .i8 n))
           have B4 := Lib.hid (B3.out.setCell (p := ⟨w2.heap.size, 81 + s * 8 + k, none⟩) (Nat.le_of_lt hz1) (.int .i8 n))
           have hz4 : w2.heap.size < (w3.setCell ⟨w2.heap.size, 81 + s * 8 + k, none⟩ (.int .i8 n)).heap.size := P4.out.lt
           clear ck fk P3 P30 B3
           generalize w3.setCell ⟨w2.heap.size, 81 + s * 8 + k, none⟩ (.int .i8 n) = w4 at P4 P40 B4 hz4 ⊢
           clear hz3 hb3)
        | (refine wpList_store_row rfl 47 _ _ rfl w4.heap.size (posC z).toArray rfl rfl 47 Try.zeroCells47 (heap_alloc_new w4 _) (by rw [List.size_toArray]; exact HINF.out) HS0.out (posC_one z) ?_
           rw [World.setRow_alloc_new]
           have P5 := Lib.hid (PosAt.new w4 z)
           have hb5 := ball (bref w4) (.cells (posC z).toArray 47)
           have P51 := Lib.hid (P4.out.grow hb5)
           have P50 := Lib.hid (P40.out.grow hb5)
           have B5 := Lib.hid (B4.out.trans (hb5.mono (Nat.le_of_lt (Nat.lt_trans hz1 hz4))))
           generalize w4.alloc (.cells (posC z).toArray 47) = w5 at P5 hb5 P51 P50 B5 ⊢
           have e97 := P50.out.cell 97 (by have := HZ.out; omega)
           have d97 := P5.out.cell 97 (by have := HZ.out; omega)
           have f97 := P5.out.frozen 97))
      have hv := H8.out.at 97
      have hw : -128 ≤ IntKind.i8.wrap (1 - at8 z 97) ∧ IntKind.i8.wrap (1 - at8 z 97) ≤ 127 := bounds_i8 (wf_wrap _ _)
      have hw2 : (at8 z 97 = 0 ∧ IntKind.i8.wrap (1 - at8 z 97) = 1) ∨ (at8 z 97 = 1 ∧ IntKind.i8.wrap (1 - at8 z 97) = 0) := by
        rcases HS.out with h | h
        · exact .inl ⟨h, by rw [h]; rfl⟩
        · exact .inr ⟨h, by rw [h]; rfl⟩
      have Q2 := Lib.hid (P5.out.set 97 (IntKind.i8.wrap (1 - at8 z 97)))
      have Q1 := Lib.hid (P51.out.other (Nat.ne_of_lt hz4) 97 (.int .i8 (IntKind.i8.wrap (1 - at8 z 97))))
      have Q0 := Lib.hid (P50.out.other (Nat.ne_of_lt (Nat.lt_trans hz1 hz4)) 97 (.int .i8 (IntKind.i8.wrap (1 - at8 z 97))))
      have BB := Lib.hid (B5.out.setCell (p := ⟨w4.heap.size, 97, none⟩) (Nat.le_of_lt (Nat.lt_trans hz1 hz4)) (.int .i8 (IntKind.i8.wrap (1 - at8 z 97))))
      have O0 := Lib.hid (fun W => keyOf_any z HZ.out H8.out W)
      have h81 : I8s (z.set (81 + s * 8 + k) n) := set_8 H8.out _ HN.out
      have O1 := Lib.hid (fun W => keyOf_any (z.set (81 + s * 8 + k) n) HZ1.out h81 W)
      have SS := Lib.hid (fun W => sideK_any W)
      have HA := Lib.hid (fun W => handK_any s k (at8 z (81 + s * 8 + k)) W)
      have HB := Lib.hid (fun W => handK_any s k n W)
      have WX := Lib.hid (show IntKind.i64.wrap (at8 z (81 + s * 8 + k)) = at8 z (81 + s * 8 + k) by
        have := H8.out.at (81 + s * 8 + k)
        rw [IntKind.wrap_i64]
        omega)
      have e1 := ofK_setH z s k n hs2 hk8 HZ.out
      have x1 : bits .xor .u64 ((ofK z : Nat) : Int) ((handK s k (at8 z (81 + s * 8 + k)) : Nat) : Int) = ((ofK z ^^^ handK s k (at8 z (81 + s * 8 + k)) : Nat) : Int) := u64_xor_nat _ _ (ofK_lt _) (handK_lt _ _ _)
      have x2 : bits .xor .u64 ((ofK z ^^^ handK s k (at8 z (81 + s * 8 + k)) : Nat) : Int) ((handK s k n : Nat) : Int) = ((ofK z ^^^ handK s k (at8 z (81 + s * 8 + k)) ^^^ handK s k n : Nat) : Int) := u64_xor_nat _ _ (xor_lt64 (ofK_lt _) (handK_lt _ _ _)) (handK_lt _ _ _)
      rw [← e1] at x2
      generalize IntKind.i8.wrap (1 - at8 z 97) = v at Q2 Q1 Q0 BB hw hw2 ⊢
      have z2l : (z.set 97 v).length = 98 := by rw [List.length_set]; exact HZ.out
      have HINF2 := Lib.hid (show (Try.prog.info? 47).map (·.size) = some (posC (z.set 97 v)).length by rw [posC_len, z2l]; exact infoPos)
      have O2 := Lib.hid (fun W => keyOf_any (z.set 97 v) z2l (set_8 H8.out 97 hw) W)
      have e2 := ofK_turn z v HZ.out hw2
      have x3 : bits .xor .u64 ((ofK z : Nat) : Int) ((sideK : Nat) : Int) = ((ofK z ^^^ sideK : Nat) : Int) := u64_xor_nat _ _ (ofK_lt _) sideK_lt
      rw [← e2] at x3
      generalize ((ofK z ^^^ handK s k (at8 z (81 + s * 8 + k)) : Nat) : Int) = i0a at x1 x2
      generalize ((ofK (z.set 97 v) : Nat) : Int) = i2 at x3 O2
      generalize ((ofK (z.set (81 + s * 8 + k) n) : Nat) : Int) = i1 at x2 O1
      generalize ((ofK z : Nat) : Int) = i0 at x1 x3 O0
      generalize ((handK s k (at8 z (81 + s * 8 + k)) : Nat) : Int) = ia at x1 HA
      generalize ((handK s k n : Nat) : Int) = ib at x2 HB
      generalize ((sideK : Nat) : Int) = is at x3 SS
      clear h81 hw hw2 e1 e2 hv c97 e97 d97 f97 z2l P5 P51 P50 B5 P4 P40 B4 P2 B2 hb5
      generalize z.set 97 v = z2 at Q2 HINF2 O2
      generalize z.set (81 + s * 8 + k) n = z1 at Q1 HINF1 O1 ⊢
      generalize w5.setCell ⟨w4.heap.size, 97, none⟩ (.int .i8 v) = w7 at Q2 Q1 Q0 BB ⊢
      refine wp_region_held_drew (S := fun w' => Below w7.heap.size w7 w' ∧ PosAt w' w.heap.size z ∧ PosAt w' w2.heap.size z1 ∧ PosAt w' w4.heap.size z2) (by kernel_rfl) ?_ (fun hHeld => ?_)
      · exact ⟨(bref w7).drew, Q0.out, Q1.out, Q2.out⟩
      refine wpAnyH_take (i := 0) rfl (by kernel_rfl) (by kernel_rfl) (by kernel_rfl) (fun _ _ _ h => h) (yieldsIf_load_mid (by rfl) _ _ rfl _ _ rfl (posC z1) _ (fun w h => h.2.2.1.range) (Try.underlying47) rfl (HINF1.out)) (by assumption) ?_
      try simp only [Act.put, List.getElem_toArray, List.getElem_cons_zero, List.getElem_cons_succ, List.setIfInBounds_toArray, List.set_cons_zero, List.set_cons_succ]
      refine wpAnyH_take (i := 2) rfl (by kernel_rfl) (by kernel_rfl) (by kernel_rfl) (fun _ _ _ h => h) (yieldsIf_load_mid (by rfl) _ _ rfl _ _ rfl (posC z) _ (fun w h => h.2.1.range) (Try.underlying47) rfl (HINF.out)) (by assumption) ?_
      try simp only [Act.put, List.getElem_toArray, List.getElem_cons_zero, List.getElem_cons_succ, List.setIfInBounds_toArray, List.set_cons_zero, List.set_cons_succ]
      refine wpAnyH_take (i := 4) (v := ?v10) rfl (by kernel_rfl) (by kernel_rfl) (by kernel_rfl) (fun _ _ _ h => h) (Or.inl ⟨by rfl, ?y10⟩) (by assumption) ?r10
      case y10 => (intro w hSw; (go_simp <;> first | with_reducible rfl | (rw [if_pos (by omega)] <;> with_reducible rfl)))
      try simp only [Act.put, List.getElem_toArray, List.getElem_cons_zero, List.getElem_cons_succ, List.setIfInBounds_toArray, List.set_cons_zero, List.set_cons_succ]
      refine wpAnyH_take (i := 5) (v := ?v11) rfl (by kernel_rfl) (by kernel_rfl) (by kernel_rfl) (fun _ _ _ h => h) (Or.inl ⟨by rfl, ?y11⟩) (by assumption) ?r11
      case y11 => (intro w hSw; (go_simp <;> first | with_reducible rfl | (rw [if_pos (by omega)] <;> with_reducible rfl)))
      try simp only [Act.put, List.getElem_toArray, List.getElem_cons_zero, List.getElem_cons_succ, List.setIfInBounds_toArray, List.set_cons_zero, List.set_cons_succ]
      refine wpAnyH_take (i := 6) (v := ?v12) rfl (by kernel_rfl) (by kernel_rfl) (by kernel_rfl) (fun _ _ _ h => h) (Or.inl ⟨by rfl, ?y12⟩) (by assumption) ?r12
      case y12 => (intro w hSw; (go_simp <;> first | with_reducible rfl | (rw [if_pos (by omega)] <;> with_reducible rfl)))
      try simp only [Act.put, List.getElem_toArray, List.getElem_cons_zero, List.getElem_cons_succ, List.setIfInBounds_toArray, List.set_cons_zero, List.set_cons_succ]
      refine wpAnyH_take (i := 7) (v := ?v13) rfl (by kernel_rfl) (by kernel_rfl) (by kernel_rfl) (fun _ _ _ h => h) (Or.inl ⟨by rfl, ?y13⟩) (by assumption) ?r13
      case y13 => (intro w hSw; (go_simp <;> first | with_reducible rfl | (rw [if_pos (by omega)] <;> with_reducible rfl)))
      try simp only [Act.put, List.getElem_toArray, List.getElem_cons_zero, List.getElem_cons_succ, List.setIfInBounds_toArray, List.set_cons_zero, List.set_cons_succ]
      refine wpAnyH_take (i := 8) (v := ?v14) rfl (by kernel_rfl) (by kernel_rfl) (by kernel_rfl) (fun _ _ _ h => h) (Or.inl ⟨by rfl, ?y14⟩) (by assumption) ?r14
      case y14 => (intro w hSw; (go_simp <;> first | with_reducible rfl | (rw [if_pos (by omega)] <;> with_reducible rfl)))
      try simp only [Act.put, List.getElem_toArray, List.getElem_cons_zero, List.getElem_cons_succ, List.setIfInBounds_toArray, List.set_cons_zero, List.set_cons_succ]
      refine wpAnyH_take (i := 9) (v := ?v15) rfl (by kernel_rfl) (by kernel_rfl) (by kernel_rfl) (fun _ _ _ h => h) (Or.inl ⟨by rfl, ?y15⟩) (by assumption) ?r15
      case y15 => (intro w hSw; (go_simp <;> first | with_reducible rfl | (rw [if_pos (by omega)] <;> with_reducible rfl)))
      try simp only [Act.put, List.getElem_toArray, List.getElem_cons_zero, List.getElem_cons_succ, List.setIfInBounds_toArray, List.set_cons_zero, List.set_cons_succ]
      refine wpAnyH_take (i := 10) (v := ?v16) rfl (by kernel_rfl) (by kernel_rfl) (by kernel_rfl) (fun _ _ _ h => h) (Or.inl ⟨by rfl, ?y16⟩) (by assumption) ?r16
      case y16 => (intro w hSw; (go_simp <;> first | with_reducible rfl | (rw [if_pos (by omega)] <;> with_reducible rfl)))
      try simp only [Act.put, List.getElem_toArray, List.getElem_cons_zero, List.getElem_cons_succ, List.setIfInBounds_toArray, List.set_cons_zero, List.set_cons_succ]
      refine wpAnyH_take (i := 11) (v := ?v17) rfl (by kernel_rfl) (by kernel_rfl) (by kernel_rfl) (fun _ _ _ h => h) (Or.inl ⟨by rfl, ?y17⟩) (by assumption) ?r17
      case y17 => (intro w hSw; have ck := hSw.2.1.cell (81 + s * 8 + k) (by have := HZ.out; omega); (go_simp <;> first | with_reducible rfl | (rw [if_pos (by omega)] <;> with_reducible rfl)))
      try simp only [Act.put, List.getElem_toArray, List.getElem_cons_zero, List.getElem_cons_succ, List.setIfInBounds_toArray, List.set_cons_zero, List.set_cons_succ]
      refine wpAnyH_take (i := 12) (v := ?v18) rfl (by kernel_rfl) (by kernel_rfl) (by kernel_rfl) (fun _ _ _ h => h) (Or.inl ⟨by rfl, ?y18⟩) (by assumption) ?r18
      case y18 => (intro w hSw; (go_simp <;> first | with_reducible rfl | (rw [if_pos (by omega)] <;> with_reducible rfl)))
      try simp only [Act.put, List.getElem_toArray, List.getElem_cons_zero, List.getElem_cons_succ, List.setIfInBounds_toArray, List.set_cons_zero, List.set_cons_succ]
      refine wpAnyH_take (i := 15) (v := ?v19) rfl (by kernel_rfl) (by kernel_rfl) (by kernel_rfl) (fun _ _ _ h => h) (Or.inl ⟨by rfl, ?y19⟩) (by assumption) ?r19
      case y19 => (intro w hSw; (go_simp <;> first | with_reducible rfl | (rw [if_pos (by omega)] <;> with_reducible rfl)))
      try simp only [Act.put, List.getElem_toArray, List.getElem_cons_zero, List.getElem_cons_succ, List.setIfInBounds_toArray, List.set_cons_zero, List.set_cons_succ]
      refine wpAnyH_take (i := 16) (v := ?v20) rfl (by kernel_rfl) (by kernel_rfl) (by kernel_rfl) (fun _ _ _ h => h) (Or.inl ⟨by rfl, ?y20⟩) (by assumption) ?r20
      case y20 => (intro w hSw; (go_simp <;> first | with_reducible rfl | (rw [if_pos (by omega)] <;> with_reducible rfl)))
      try simp only [Act.put, List.getElem_toArray, List.getElem_cons_zero, List.getElem_cons_succ, List.setIfInBounds_toArray, List.set_cons_zero, List.set_cons_succ]
      refine wpAnyH_take (i := 17) (v := ?v21) rfl (by kernel_rfl) (by kernel_rfl) (by kernel_rfl) (fun _ _ _ h => h) (Or.inl ⟨by rfl, ?y21⟩) (by assumption) ?r21
      case y21 => (intro w hSw; (go_simp <;> first | with_reducible rfl | (rw [if_pos (by omega)] <;> with_reducible rfl)))
      try simp only [Act.put, List.getElem_toArray, List.getElem_cons_zero, List.getElem_cons_succ, List.setIfInBounds_toArray, List.set_cons_zero, List.set_cons_succ]
      refine wpAnyH_ready (rs := [1]) (by kernel_rfl) (by simp) ?_
      refine AllReadyH.cons rfl (fun K hK => ?_) AllReadyH.nil
      rw [if_pos (by rfl)]
      go_simp
      go_at_call 27
      refine (O1.out _).mono ?_
      rintro e wn ⟨rfl, hb⟩
      refine hK.out _ _ (⟨bthen hHeld.1 hb, hHeld.2.1.grow hb, hHeld.2.2.1.grow hb, hHeld.2.2.2.grow hb⟩) (fun hHeld => ?_)
      clear hK K
      try simp only [Act.put, List.getElem_toArray, List.getElem_cons_zero, List.getElem_cons_succ, List.setIfInBounds_toArray, List.set_cons_zero, List.set_cons_succ]
      refine wpAnyH_ready (rs := [3]) (by kernel_rfl) (by simp) ?_
      refine AllReadyH.cons rfl (fun K hK => ?_) AllReadyH.nil
      rw [if_pos (by rfl)]
      go_simp
      go_at_call 27
      refine (O0.out _).mono ?_
      rintro e wn ⟨rfl, hb⟩
      refine hK.out _ _ (⟨bthen hHeld.1 hb, hHeld.2.1.grow hb, hHeld.2.2.1.grow hb, hHeld.2.2.2.grow hb⟩) (fun hHeld => ?_)
      clear hK K
      try simp only [Act.put, List.getElem_toArray, List.getElem_cons_zero, List.getElem_cons_succ, List.setIfInBounds_toArray, List.set_cons_zero, List.set_cons_succ]
      refine wpAnyH_ready (rs := [13]) (by kernel_rfl) (by simp) ?_
      refine AllReadyH.cons rfl (fun K hK => ?_) AllReadyH.nil
      rw [if_pos (by rfl)]
      go_simp
      go_at_call 25
      rw [WX.out]
      refine (HA.out _).mono ?_
      rintro e wn ⟨rfl, hb⟩
      refine hK.out _ _ (⟨bthen hHeld.1 hb, hHeld.2.1.grow hb, hHeld.2.2.1.grow hb, hHeld.2.2.2.grow hb⟩) (fun hHeld => ?_)
      clear hK K
      try simp only [Act.put, List.getElem_toArray, List.getElem_cons_zero, List.getElem_cons_succ, List.setIfInBounds_toArray, List.set_cons_zero, List.set_cons_succ]
      refine wpAnyH_take (i := 14) (v := ?v22) rfl (by kernel_rfl) (by kernel_rfl) (by kernel_rfl) (fun _ _ _ h => h) (Or.inl ⟨by rfl, ?y22⟩) (by assumption) ?r22
      case y22 => (intro w hSw; (go_simp <;> first | with_reducible rfl | (rw [if_pos (by omega)] <;> with_reducible rfl)))
      try simp only [Act.put, List.getElem_toArray, List.getElem_cons_zero, List.getElem_cons_succ, List.setIfInBounds_toArray, List.set_cons_zero, List.set_cons_succ]
      refine wpAnyH_ready (rs := [18]) (by kernel_rfl) (by simp) ?_
      refine AllReadyH.cons rfl (fun K hK => ?_) AllReadyH.nil
      rw [if_pos (by rfl)]
      go_simp
      go_at_call 25
      refine (HB.out _).mono ?_
      rintro e wn ⟨rfl, hb⟩
      refine hK.out _ _ (⟨bthen hHeld.1 hb, hHeld.2.1.grow hb, hHeld.2.2.1.grow hb, hHeld.2.2.2.grow hb⟩) (fun hHeld => ?_)
      clear hK K
      try simp only [Act.put, List.getElem_toArray, List.getElem_cons_zero, List.getElem_cons_succ, List.setIfInBounds_toArray, List.set_cons_zero, List.set_cons_succ]
      refine wpAnyH_take (i := 19) (v := ?v23) rfl (by kernel_rfl) (by kernel_rfl) (by kernel_rfl) (fun _ _ _ h => h) (Or.inl ⟨by rfl, ?y23⟩) (by assumption) ?r23
      case y23 => (intro w hSw; (go_simp <;> first | with_reducible rfl | (rw [if_pos (by omega)] <;> with_reducible rfl)))
      try simp only [Act.put, List.getElem_toArray, List.getElem_cons_zero, List.getElem_cons_succ, List.setIfInBounds_toArray, List.set_cons_zero, List.set_cons_succ]
      refine wpAnyH_take (i := 20) (v := ?v24) rfl (by kernel_rfl) (by kernel_rfl) (by kernel_rfl) (fun _ _ _ h => h) (Or.inl ⟨by rfl, ?y24⟩) (by assumption) ?r24
      case y24 => (intro w hSw; (go_simp <;> first | with_reducible rfl | (rw [if_pos (by omega)] <;> with_reducible rfl)))
      try simp only [Act.put, List.getElem_toArray, List.getElem_cons_zero, List.getElem_cons_succ, List.setIfInBounds_toArray, List.set_cons_zero, List.set_cons_succ]
      refine wpAnyH_take (i := 21) (v := ?v25) rfl (by kernel_rfl) (by kernel_rfl) (by kernel_rfl) (fun _ _ _ h => h) (Or.inl ⟨by rfl, ?y25⟩) (by assumption) ?r25
      case y25 => (intro w hSw; (go_simp <;> first | with_reducible rfl | (rw [if_pos (by omega)] <;> with_reducible rfl)))
      try simp only [Act.put, List.getElem_toArray, List.getElem_cons_zero, List.getElem_cons_succ, List.setIfInBounds_toArray, List.set_cons_zero, List.set_cons_succ]
      refine wpAnyH_take (i := 22) rfl (by kernel_rfl) (by kernel_rfl) (by kernel_rfl) (fun _ _ _ h => h) (yieldsIf_load_mid (by rfl) _ _ rfl _ _ rfl (posC z2) _ (fun w h => h.2.2.2.range) (Try.underlying47) rfl (HINF2.out)) (by assumption) ?_
      try simp only [Act.put, List.getElem_toArray, List.getElem_cons_zero, List.getElem_cons_succ, List.setIfInBounds_toArray, List.set_cons_zero, List.set_cons_succ]
      refine wpAnyH_take (i := 24) rfl (by kernel_rfl) (by kernel_rfl) (by kernel_rfl) (fun _ _ _ h => h) (yieldsIf_load_mid (by rfl) _ _ rfl _ _ rfl (posC z) _ (fun w h => h.2.1.range) (Try.underlying47) rfl (HINF.out)) (by assumption) ?_
      try simp only [Act.put, List.getElem_toArray, List.getElem_cons_zero, List.getElem_cons_succ, List.setIfInBounds_toArray, List.set_cons_zero, List.set_cons_succ]
      refine wpAnyH_ready (rs := [23]) (by kernel_rfl) (by simp) ?_
      refine AllReadyH.cons rfl (fun K hK => ?_) AllReadyH.nil
      rw [if_pos (by rfl)]
      go_simp
      go_at_call 27
      refine (O2.out _).mono ?_
      rintro e wn ⟨rfl, hb⟩
      refine hK.out _ _ (⟨bthen hHeld.1 hb, hHeld.2.1.grow hb, hHeld.2.2.1.grow hb, hHeld.2.2.2.grow hb⟩) (fun hHeld => ?_)
      clear hK K
      try simp only [Act.put, List.getElem_toArray, List.getElem_cons_zero, List.getElem_cons_succ, List.setIfInBounds_toArray, List.set_cons_zero, List.set_cons_succ]
      refine wpAnyH_ready (rs := [25]) (by kernel_rfl) (by simp) ?_
      refine AllReadyH.cons rfl (fun K hK => ?_) AllReadyH.nil
      rw [if_pos (by rfl)]
      go_simp
      go_at_call 27
      refine (O0.out _).mono ?_
      rintro e wn ⟨rfl, hb⟩
      refine hK.out _ _ (⟨bthen hHeld.1 hb, hHeld.2.1.grow hb, hHeld.2.2.1.grow hb, hHeld.2.2.2.grow hb⟩) (fun hHeld => ?_)
      clear hK K
      try simp only [Act.put, List.getElem_toArray, List.getElem_cons_zero, List.getElem_cons_succ, List.setIfInBounds_toArray, List.set_cons_zero, List.set_cons_succ]
      refine wpAnyH_ready (rs := [26]) (by kernel_rfl) (by simp) ?_
      refine AllReadyH.cons rfl (fun K hK => ?_) AllReadyH.nil
      rw [if_pos (by rfl)]
      go_simp
      go_at_call 26
      refine (SS.out _).mono ?_
      rintro e wn ⟨rfl, hb⟩
      refine hK.out _ _ (⟨bthen hHeld.1 hb, hHeld.2.1.grow hb, hHeld.2.2.1.grow hb, hHeld.2.2.2.grow hb⟩) (fun hHeld => ?_)
      clear hK K
      try simp only [Act.put, List.getElem_toArray, List.getElem_cons_zero, List.getElem_cons_succ, List.setIfInBounds_toArray, List.set_cons_zero, List.set_cons_succ]
      refine wpAnyH_take (i := 27) (v := ?v26) rfl (by kernel_rfl) (by kernel_rfl) (by kernel_rfl) (fun _ _ _ h => h) (Or.inl ⟨by rfl, ?y26⟩) (by assumption) ?r26
      case y26 => (intro w hSw; (go_simp <;> first | with_reducible rfl | (rw [if_pos (by omega)] <;> with_reducible rfl)))
      try simp only [Act.put, List.getElem_toArray, List.getElem_cons_zero, List.getElem_cons_succ, List.setIfInBounds_toArray, List.set_cons_zero, List.set_cons_succ]
      refine wpAnyH_take (i := 28) (v := ?v27) rfl (by kernel_rfl) (by kernel_rfl) (by kernel_rfl) (fun _ _ _ h => h) (Or.inl ⟨by rfl, ?y27⟩) (by assumption) ?r27
      case y27 => (intro w hSw; (go_simp <;> first | with_reducible rfl | (rw [if_pos (by omega)] <;> with_reducible rfl)))
      try simp only [Act.put, List.getElem_toArray, List.getElem_cons_zero, List.getElem_cons_succ, List.setIfInBounds_toArray, List.set_cons_zero, List.set_cons_succ]
      refine wpAnyH_take (i := 29) (v := ?v28) rfl (by kernel_rfl) (by kernel_rfl) (by kernel_rfl) (fun _ _ _ h => h) (Or.inl ⟨by rfl, ?y28⟩) (by assumption) ?r28
      case y28 => (intro w hSw; (go_simp <;> first | with_reducible rfl | (rw [if_pos (by omega)] <;> with_reducible rfl)))
      try simp only [Act.put, List.getElem_toArray, List.getElem_cons_zero, List.getElem_cons_succ, List.setIfInBounds_toArray, List.set_cons_zero, List.set_cons_succ]
      refine wpAnyH_take (i := 30) (v := ?v29) rfl (by kernel_rfl) (by kernel_rfl) (by kernel_rfl) (fun _ _ _ h => h) (Or.inl ⟨by rfl, ?y29⟩) (by assumption) ?r29
      case y29 => (intro w hSw; (go_simp <;> first | with_reducible rfl | (rw [if_pos (by omega)] <;> with_reducible rfl)))
      try simp only [Act.put, List.getElem_toArray, List.getElem_cons_zero, List.getElem_cons_succ, List.setIfInBounds_toArray, List.set_cons_zero, List.set_cons_succ]
      refine wpAnyH_done (by kernel_rfl) ?_ _
      go_wp2
      go_ret
      exact ⟨rfl, BB.out.trans (hHeld.1.mono BB.out.size)⟩
    · go_wp2_with (first
        | (refine wpList_load_mid rfl _ _ rfl w.heap.size 0 rfl (posC z) _ P2.out.range Try.underlying47 rfl HINF.out ?_)
        | (refine wpList_store_row rfl 47 _ _ rfl w2.heap.size (posC z).toArray rfl rfl 47 Try.zeroCells47 (heap_alloc_new w2 _) (by rw [List.size_toArray]; exact HINF.out) HS0.out (posC_one z) ?_
           rw [World.setRow_alloc_new]
           have P3 := Lib.hid (PosAt.new w2 z)
           have hb3 := ball (bref w2) (.cells (posC z).toArray 47)
           have P30 := Lib.hid (P2.out.grow hb3)
           have B3 := Lib.hid (B2.out.trans (hb3.mono (Nat.le_of_lt hz1)))
           have hz3 : w2.heap.size < (w2.alloc (.cells (posC z).toArray 47)).heap.size := P3.out.lt
           generalize w2.alloc (.cells (posC z).toArray 47) = w3 at P3 hb3 P30 B3 hz3 ⊢
           have ck := P3.out.cell (81 + s * 8 + k) (by have := HZ.out; omega)
           have fk := P3.out.frozen (81 + s * 8 + k))
        | (refine wpList_load_mid rfl _ _ rfl w.heap.size 0 rfl (posC z) _ (P30.out.other (Nat.ne_of_lt hz1) (81 + s * 8 + k) (.int .i8 n)).range Try.underlying47 rfl HINF.out ?_
           have P4 := Lib.hid (P3.out.set (81 + s * 8 + k) n)
           have P40 := Lib.hid (P30.out.other (Nat.ne_of_lt hz1) (81 + s * 8 + k) (.int .i8 n))
           have B4 := Lib.hid (B3.out.setCell (p := ⟨w2.heap.size, 81 + s * 8 + k, none⟩) (Nat.le_of_lt hz1) (.int .i8 n))
           have hz4 : w2.heap.size < (w3.setCell ⟨w2.heap.size, 81 + s * 8 + k, none⟩ (.int .i8 n)).heap.size := P4.out.lt
           clear ck fk P3 P30 B3
           generalize w3.setCell ⟨w2.heap.size, 81 + s * 8 + k, none⟩ (.int .i8 n) = w4 at P4 P40 B4 hz4 ⊢
           clear hz3 hb3)
        | (refine wpList_store_row rfl 47 _ _ rfl w4.heap.size (posC z).toArray rfl rfl 47 Try.zeroCells47 (heap_alloc_new w4 _) (by rw [List.size_toArray]; exact HINF.out) HS0.out (posC_one z) ?_
           rw [World.setRow_alloc_new]
           have P5 := Lib.hid (PosAt.new w4 z)
           have hb5 := ball (bref w4) (.cells (posC z).toArray 47)
           have P51 := Lib.hid (P4.out.grow hb5)
           have P50 := Lib.hid (P40.out.grow hb5)
           have B5 := Lib.hid (B4.out.trans (hb5.mono (Nat.le_of_lt (Nat.lt_trans hz1 hz4))))
           generalize w4.alloc (.cells (posC z).toArray 47) = w5 at P5 hb5 P51 P50 B5 ⊢
           have e97 := P50.out.cell 97 (by have := HZ.out; omega)
           have d97 := P5.out.cell 97 (by have := HZ.out; omega)
           have f97 := P5.out.frozen 97))
      have hv := H8.out.at 97
      have hw : -128 ≤ IntKind.i8.wrap (1 - at8 z 97) ∧ IntKind.i8.wrap (1 - at8 z 97) ≤ 127 := bounds_i8 (wf_wrap _ _)
      have hw2 : (at8 z 97 = 0 ∧ IntKind.i8.wrap (1 - at8 z 97) = 1) ∨ (at8 z 97 = 1 ∧ IntKind.i8.wrap (1 - at8 z 97) = 0) := by
        rcases HS.out with h | h
        · exact .inl ⟨h, by rw [h]; rfl⟩
        · exact .inr ⟨h, by rw [h]; rfl⟩
      have Q2 := Lib.hid (P5.out.set 97 (IntKind.i8.wrap (1 - at8 z 97)))
      have Q1 := Lib.hid (P51.out.other (Nat.ne_of_lt hz4) 97 (.int .i8 (IntKind.i8.wrap (1 - at8 z 97))))
      have Q0 := Lib.hid (P50.out.other (Nat.ne_of_lt (Nat.lt_trans hz1 hz4)) 97 (.int .i8 (IntKind.i8.wrap (1 - at8 z 97))))
      have BB := Lib.hid (B5.out.setCell (p := ⟨w4.heap.size, 97, none⟩) (Nat.le_of_lt (Nat.lt_trans hz1 hz4)) (.int .i8 (IntKind.i8.wrap (1 - at8 z 97))))
      have O0 := Lib.hid (fun W => keyOf_any z HZ.out H8.out W)
      have h81 : I8s (z.set (81 + s * 8 + k) n) := set_8 H8.out _ HN.out
      have O1 := Lib.hid (fun W => keyOf_any (z.set (81 + s * 8 + k) n) HZ1.out h81 W)
      have SS := Lib.hid (fun W => sideK_any W)
      have HA := Lib.hid (fun W => handK_any s k (at8 z (81 + s * 8 + k)) W)
      have HB := Lib.hid (fun W => handK_any s k n W)
      have WX := Lib.hid (show IntKind.i64.wrap (at8 z (81 + s * 8 + k)) = at8 z (81 + s * 8 + k) by
        have := H8.out.at (81 + s * 8 + k)
        rw [IntKind.wrap_i64]
        omega)
      have e1 := ofK_setH z s k n hs2 hk8 HZ.out
      have x1 : bits .xor .u64 ((ofK z : Nat) : Int) ((handK s k (at8 z (81 + s * 8 + k)) : Nat) : Int) = ((ofK z ^^^ handK s k (at8 z (81 + s * 8 + k)) : Nat) : Int) := u64_xor_nat _ _ (ofK_lt _) (handK_lt _ _ _)
      have x2 : bits .xor .u64 ((ofK z ^^^ handK s k (at8 z (81 + s * 8 + k)) : Nat) : Int) ((handK s k n : Nat) : Int) = ((ofK z ^^^ handK s k (at8 z (81 + s * 8 + k)) ^^^ handK s k n : Nat) : Int) := u64_xor_nat _ _ (xor_lt64 (ofK_lt _) (handK_lt _ _ _)) (handK_lt _ _ _)
      rw [← e1] at x2
      generalize IntKind.i8.wrap (1 - at8 z 97) = v at Q2 Q1 Q0 BB hw hw2 ⊢
      have z2l : (z.set 97 v).length = 98 := by rw [List.length_set]; exact HZ.out
      have HINF2 := Lib.hid (show (Try.prog.info? 47).map (·.size) = some (posC (z.set 97 v)).length by rw [posC_len, z2l]; exact infoPos)
      have O2 := Lib.hid (fun W => keyOf_any (z.set 97 v) z2l (set_8 H8.out 97 hw) W)
      have e2 := ofK_turn z v HZ.out hw2
      have x3 : bits .xor .u64 ((ofK z : Nat) : Int) ((sideK : Nat) : Int) = ((ofK z ^^^ sideK : Nat) : Int) := u64_xor_nat _ _ (ofK_lt _) sideK_lt
      rw [← e2] at x3
      generalize ((ofK z ^^^ handK s k (at8 z (81 + s * 8 + k)) : Nat) : Int) = i0a at x1 x2
      generalize ((ofK (z.set 97 v) : Nat) : Int) = i2 at x3 O2
      generalize ((ofK (z.set (81 + s * 8 + k) n) : Nat) : Int) = i1 at x2 O1
      generalize ((ofK z : Nat) : Int) = i0 at x1 x3 O0
      generalize ((handK s k (at8 z (81 + s * 8 + k)) : Nat) : Int) = ia at x1 HA
      generalize ((handK s k n : Nat) : Int) = ib at x2 HB
      generalize ((sideK : Nat) : Int) = is at x3 SS
      clear h81 hw hw2 e1 e2 hv c97 e97 d97 f97 z2l P5 P51 P50 B5 P4 P40 B4 P2 B2 hb5
      generalize z.set 97 v = z2 at Q2 HINF2 O2
      generalize z.set (81 + s * 8 + k) n = z1 at Q1 HINF1 O1 ⊢
      generalize w5.setCell ⟨w4.heap.size, 97, none⟩ (.int .i8 v) = w7 at Q2 Q1 Q0 BB ⊢
      refine wp_region_held_drew (S := fun w' => Below w7.heap.size w7 w' ∧ PosAt w' w.heap.size z ∧ PosAt w' w2.heap.size z1 ∧ PosAt w' w4.heap.size z2) (by kernel_rfl) ?_ (fun hHeld => ?_)
      · exact ⟨(bref w7).drew, Q0.out, Q1.out, Q2.out⟩
      refine wpAnyH_take (i := 0) rfl (by kernel_rfl) (by kernel_rfl) (by kernel_rfl) (fun _ _ _ h => h) (yieldsIf_load_mid (by rfl) _ _ rfl _ _ rfl (posC z1) _ (fun w h => h.2.2.1.range) (Try.underlying47) rfl (HINF1.out)) (by assumption) ?_
      try simp only [Act.put, List.getElem_toArray, List.getElem_cons_zero, List.getElem_cons_succ, List.setIfInBounds_toArray, List.set_cons_zero, List.set_cons_succ]
      refine wpAnyH_take (i := 2) rfl (by kernel_rfl) (by kernel_rfl) (by kernel_rfl) (fun _ _ _ h => h) (yieldsIf_load_mid (by rfl) _ _ rfl _ _ rfl (posC z) _ (fun w h => h.2.1.range) (Try.underlying47) rfl (HINF.out)) (by assumption) ?_
      try simp only [Act.put, List.getElem_toArray, List.getElem_cons_zero, List.getElem_cons_succ, List.setIfInBounds_toArray, List.set_cons_zero, List.set_cons_succ]
      refine wpAnyH_take (i := 4) (v := ?v30) rfl (by kernel_rfl) (by kernel_rfl) (by kernel_rfl) (fun _ _ _ h => h) (Or.inl ⟨by rfl, ?y30⟩) (by assumption) ?r30
      case y30 => (intro w hSw; (go_simp <;> first | with_reducible rfl | (rw [if_pos (by omega)] <;> with_reducible rfl)))
      try simp only [Act.put, List.getElem_toArray, List.getElem_cons_zero, List.getElem_cons_succ, List.setIfInBounds_toArray, List.set_cons_zero, List.set_cons_succ]
      refine wpAnyH_take (i := 5) (v := ?v31) rfl (by kernel_rfl) (by kernel_rfl) (by kernel_rfl) (fun _ _ _ h => h) (Or.inl ⟨by rfl, ?y31⟩) (by assumption) ?r31
      case y31 => (intro w hSw; (go_simp <;> first | with_reducible rfl | (rw [if_pos (by omega)] <;> with_reducible rfl)))
      try simp only [Act.put, List.getElem_toArray, List.getElem_cons_zero, List.getElem_cons_succ, List.setIfInBounds_toArray, List.set_cons_zero, List.set_cons_succ]
      refine wpAnyH_take (i := 6) (v := ?v32) rfl (by kernel_rfl) (by kernel_rfl) (by kernel_rfl) (fun _ _ _ h => h) (Or.inl ⟨by rfl, ?y32⟩) (by assumption) ?r32
      case y32 => (intro w hSw; (go_simp <;> first | with_reducible rfl | (rw [if_pos (by omega)] <;> with_reducible rfl)))
      try simp only [Act.put, List.getElem_toArray, List.getElem_cons_zero, List.getElem_cons_succ, List.setIfInBounds_toArray, List.set_cons_zero, List.set_cons_succ]
      refine wpAnyH_take (i := 7) (v := ?v33) rfl (by kernel_rfl) (by kernel_rfl) (by kernel_rfl) (fun _ _ _ h => h) (Or.inl ⟨by rfl, ?y33⟩) (by assumption) ?r33
      case y33 => (intro w hSw; (go_simp <;> first | with_reducible rfl | (rw [if_pos (by omega)] <;> with_reducible rfl)))
      try simp only [Act.put, List.getElem_toArray, List.getElem_cons_zero, List.getElem_cons_succ, List.setIfInBounds_toArray, List.set_cons_zero, List.set_cons_succ]
      refine wpAnyH_take (i := 8) (v := ?v34) rfl (by kernel_rfl) (by kernel_rfl) (by kernel_rfl) (fun _ _ _ h => h) (Or.inl ⟨by rfl, ?y34⟩) (by assumption) ?r34
      case y34 => (intro w hSw; (go_simp <;> first | with_reducible rfl | (rw [if_pos (by omega)] <;> with_reducible rfl)))
      try simp only [Act.put, List.getElem_toArray, List.getElem_cons_zero, List.getElem_cons_succ, List.setIfInBounds_toArray, List.set_cons_zero, List.set_cons_succ]
      refine wpAnyH_take (i := 9) (v := ?v35) rfl (by kernel_rfl) (by kernel_rfl) (by kernel_rfl) (fun _ _ _ h => h) (Or.inl ⟨by rfl, ?y35⟩) (by assumption) ?r35
      case y35 => (intro w hSw; (go_simp <;> first | with_reducible rfl | (rw [if_pos (by omega)] <;> with_reducible rfl)))
      try simp only [Act.put, List.getElem_toArray, List.getElem_cons_zero, List.getElem_cons_succ, List.setIfInBounds_toArray, List.set_cons_zero, List.set_cons_succ]
      refine wpAnyH_take (i := 10) (v := ?v36) rfl (by kernel_rfl) (by kernel_rfl) (by kernel_rfl) (fun _ _ _ h => h) (Or.inl ⟨by rfl, ?y36⟩) (by assumption) ?r36
      case y36 => (intro w hSw; (go_simp <;> first | with_reducible rfl | (rw [if_pos (by omega)] <;> with_reducible rfl)))
      try simp only [Act.put, List.getElem_toArray, List.getElem_cons_zero, List.getElem_cons_succ, List.setIfInBounds_toArray, List.set_cons_zero, List.set_cons_succ]
      refine wpAnyH_take (i := 11) (v := ?v37) rfl (by kernel_rfl) (by kernel_rfl) (by kernel_rfl) (fun _ _ _ h => h) (Or.inl ⟨by rfl, ?y37⟩) (by assumption) ?r37
      case y37 => (intro w hSw; have ck := hSw.2.1.cell (81 + s * 8 + k) (by have := HZ.out; omega); (go_simp <;> first | with_reducible rfl | (rw [if_pos (by omega)] <;> with_reducible rfl)))
      try simp only [Act.put, List.getElem_toArray, List.getElem_cons_zero, List.getElem_cons_succ, List.setIfInBounds_toArray, List.set_cons_zero, List.set_cons_succ]
      refine wpAnyH_take (i := 12) (v := ?v38) rfl (by kernel_rfl) (by kernel_rfl) (by kernel_rfl) (fun _ _ _ h => h) (Or.inl ⟨by rfl, ?y38⟩) (by assumption) ?r38
      case y38 => (intro w hSw; (go_simp <;> first | with_reducible rfl | (rw [if_pos (by omega)] <;> with_reducible rfl)))
      try simp only [Act.put, List.getElem_toArray, List.getElem_cons_zero, List.getElem_cons_succ, List.setIfInBounds_toArray, List.set_cons_zero, List.set_cons_succ]
      refine wpAnyH_take (i := 15) (v := ?v39) rfl (by kernel_rfl) (by kernel_rfl) (by kernel_rfl) (fun _ _ _ h => h) (Or.inl ⟨by rfl, ?y39⟩) (by assumption) ?r39
      case y39 => (intro w hSw; (go_simp <;> first | with_reducible rfl | (rw [if_pos (by omega)] <;> with_reducible rfl)))
      try simp only [Act.put, List.getElem_toArray, List.getElem_cons_zero, List.getElem_cons_succ, List.setIfInBounds_toArray, List.set_cons_zero, List.set_cons_succ]
      refine wpAnyH_take (i := 16) (v := ?v40) rfl (by kernel_rfl) (by kernel_rfl) (by kernel_rfl) (fun _ _ _ h => h) (Or.inl ⟨by rfl, ?y40⟩) (by assumption) ?r40
      case y40 => (intro w hSw; (go_simp <;> first | with_reducible rfl | (rw [if_pos (by omega)] <;> with_reducible rfl)))
      try simp only [Act.put, List.getElem_toArray, List.getElem_cons_zero, List.getElem_cons_succ, List.setIfInBounds_toArray, List.set_cons_zero, List.set_cons_succ]
      refine wpAnyH_take (i := 17) (v := ?v41) rfl (by kernel_rfl) (by kernel_rfl) (by kernel_rfl) (fun _ _ _ h => h) (Or.inl ⟨by rfl, ?y41⟩) (by assumption) ?r41
      case y41 => (intro w hSw; (go_simp <;> first | with_reducible rfl | (rw [if_pos (by omega)] <;> with_reducible rfl)))
      try simp only [Act.put, List.getElem_toArray, List.getElem_cons_zero, List.getElem_cons_succ, List.setIfInBounds_toArray, List.set_cons_zero, List.set_cons_succ]
      refine wpAnyH_ready (rs := [1]) (by kernel_rfl) (by simp) ?_
      refine AllReadyH.cons rfl (fun K hK => ?_) AllReadyH.nil
      rw [if_pos (by rfl)]
      go_simp
      go_at_call 27
      refine (O1.out _).mono ?_
      rintro e wn ⟨rfl, hb⟩
      refine hK.out _ _ (⟨bthen hHeld.1 hb, hHeld.2.1.grow hb, hHeld.2.2.1.grow hb, hHeld.2.2.2.grow hb⟩) (fun hHeld => ?_)
      clear hK K
      try simp only [Act.put, List.getElem_toArray, List.getElem_cons_zero, List.getElem_cons_succ, List.setIfInBounds_toArray, List.set_cons_zero, List.set_cons_succ]
      refine wpAnyH_ready (rs := [3]) (by kernel_rfl) (by simp) ?_
      refine AllReadyH.cons rfl (fun K hK => ?_) AllReadyH.nil
      rw [if_pos (by rfl)]
      go_simp
      go_at_call 27
      refine (O0.out _).mono ?_
      rintro e wn ⟨rfl, hb⟩
      refine hK.out _ _ (⟨bthen hHeld.1 hb, hHeld.2.1.grow hb, hHeld.2.2.1.grow hb, hHeld.2.2.2.grow hb⟩) (fun hHeld => ?_)
      clear hK K
      try simp only [Act.put, List.getElem_toArray, List.getElem_cons_zero, List.getElem_cons_succ, List.setIfInBounds_toArray, List.set_cons_zero, List.set_cons_succ]
      refine wpAnyH_ready (rs := [13]) (by kernel_rfl) (by simp) ?_
      refine AllReadyH.cons rfl (fun K hK => ?_) AllReadyH.nil
      rw [if_pos (by rfl)]
      go_simp
      go_at_call 25
      rw [WX.out]
      refine (HA.out _).mono ?_
      rintro e wn ⟨rfl, hb⟩
      refine hK.out _ _ (⟨bthen hHeld.1 hb, hHeld.2.1.grow hb, hHeld.2.2.1.grow hb, hHeld.2.2.2.grow hb⟩) (fun hHeld => ?_)
      clear hK K
      try simp only [Act.put, List.getElem_toArray, List.getElem_cons_zero, List.getElem_cons_succ, List.setIfInBounds_toArray, List.set_cons_zero, List.set_cons_succ]
      refine wpAnyH_take (i := 14) (v := ?v42) rfl (by kernel_rfl) (by kernel_rfl) (by kernel_rfl) (fun _ _ _ h => h) (Or.inl ⟨by rfl, ?y42⟩) (by assumption) ?r42
      case y42 => (intro w hSw; (go_simp <;> first | with_reducible rfl | (rw [if_pos (by omega)] <;> with_reducible rfl)))
      try simp only [Act.put, List.getElem_toArray, List.getElem_cons_zero, List.getElem_cons_succ, List.setIfInBounds_toArray, List.set_cons_zero, List.set_cons_succ]
      refine wpAnyH_ready (rs := [18]) (by kernel_rfl) (by simp) ?_
      refine AllReadyH.cons rfl (fun K hK => ?_) AllReadyH.nil
      rw [if_pos (by rfl)]
      go_simp
      go_at_call 25
      refine (HB.out _).mono ?_
      rintro e wn ⟨rfl, hb⟩
      refine hK.out _ _ (⟨bthen hHeld.1 hb, hHeld.2.1.grow hb, hHeld.2.2.1.grow hb, hHeld.2.2.2.grow hb⟩) (fun hHeld => ?_)
      clear hK K
      try simp only [Act.put, List.getElem_toArray, List.getElem_cons_zero, List.getElem_cons_succ, List.setIfInBounds_toArray, List.set_cons_zero, List.set_cons_succ]
      refine wpAnyH_take (i := 19) (v := ?v43) rfl (by kernel_rfl) (by kernel_rfl) (by kernel_rfl) (fun _ _ _ h => h) (Or.inl ⟨by rfl, ?y43⟩) (by assumption) ?r43
      case y43 => (intro w hSw; (go_simp <;> first | with_reducible rfl | (rw [if_pos (by omega)] <;> with_reducible rfl)))
      try simp only [Act.put, List.getElem_toArray, List.getElem_cons_zero, List.getElem_cons_succ, List.setIfInBounds_toArray, List.set_cons_zero, List.set_cons_succ]
      refine wpAnyH_take (i := 20) (v := ?v44) rfl (by kernel_rfl) (by kernel_rfl) (by kernel_rfl) (fun _ _ _ h => h) (Or.inl ⟨by rfl, ?y44⟩) (by assumption) ?r44
      case y44 => (intro w hSw; (go_simp <;> first | with_reducible rfl | (rw [if_pos (by omega)] <;> with_reducible rfl)))
      try simp only [Act.put, List.getElem_toArray, List.getElem_cons_zero, List.getElem_cons_succ, List.setIfInBounds_toArray, List.set_cons_zero, List.set_cons_succ]
      refine wpAnyH_take (i := 21) (v := ?v45) rfl (by kernel_rfl) (by kernel_rfl) (by kernel_rfl) (fun _ _ _ h => h) (Or.inl ⟨by rfl, ?y45⟩) (by assumption) ?r45
      case y45 => (intro w hSw; (go_simp <;> first | with_reducible rfl | (rw [if_pos (by omega)] <;> with_reducible rfl)))
      try simp only [Act.put, List.getElem_toArray, List.getElem_cons_zero, List.getElem_cons_succ, List.setIfInBounds_toArray, List.set_cons_zero, List.set_cons_succ]
      refine wpAnyH_take (i := 22) rfl (by kernel_rfl) (by kernel_rfl) (by kernel_rfl) (fun _ _ _ h => h) (yieldsIf_load_mid (by rfl) _ _ rfl _ _ rfl (posC z2) _ (fun w h => h.2.2.2.range) (Try.underlying47) rfl (HINF2.out)) (by assumption) ?_
      try simp only [Act.put, List.getElem_toArray, List.getElem_cons_zero, List.getElem_cons_succ, List.setIfInBounds_toArray, List.set_cons_zero, List.set_cons_succ]
      refine wpAnyH_take (i := 24) rfl (by kernel_rfl) (by kernel_rfl) (by kernel_rfl) (fun _ _ _ h => h) (yieldsIf_load_mid (by rfl) _ _ rfl _ _ rfl (posC z) _ (fun w h => h.2.1.range) (Try.underlying47) rfl (HINF.out)) (by assumption) ?_
      try simp only [Act.put, List.getElem_toArray, List.getElem_cons_zero, List.getElem_cons_succ, List.setIfInBounds_toArray, List.set_cons_zero, List.set_cons_succ]
      refine wpAnyH_ready (rs := [23]) (by kernel_rfl) (by simp) ?_
      refine AllReadyH.cons rfl (fun K hK => ?_) AllReadyH.nil
      rw [if_pos (by rfl)]
      go_simp
      go_at_call 27
      refine (O2.out _).mono ?_
      rintro e wn ⟨rfl, hb⟩
      refine hK.out _ _ (⟨bthen hHeld.1 hb, hHeld.2.1.grow hb, hHeld.2.2.1.grow hb, hHeld.2.2.2.grow hb⟩) (fun hHeld => ?_)
      clear hK K
      try simp only [Act.put, List.getElem_toArray, List.getElem_cons_zero, List.getElem_cons_succ, List.setIfInBounds_toArray, List.set_cons_zero, List.set_cons_succ]
      refine wpAnyH_ready (rs := [25]) (by kernel_rfl) (by simp) ?_
      refine AllReadyH.cons rfl (fun K hK => ?_) AllReadyH.nil
      rw [if_pos (by rfl)]
      go_simp
      go_at_call 27
      refine (O0.out _).mono ?_
      rintro e wn ⟨rfl, hb⟩
      refine hK.out _ _ (⟨bthen hHeld.1 hb, hHeld.2.1.grow hb, hHeld.2.2.1.grow hb, hHeld.2.2.2.grow hb⟩) (fun hHeld => ?_)
      clear hK K
      try simp only [Act.put, List.getElem_toArray, List.getElem_cons_zero, List.getElem_cons_succ, List.setIfInBounds_toArray, List.set_cons_zero, List.set_cons_succ]
      refine wpAnyH_ready (rs := [26]) (by kernel_rfl) (by simp) ?_
      refine AllReadyH.cons rfl (fun K hK => ?_) AllReadyH.nil
      rw [if_pos (by rfl)]
      go_simp
      go_at_call 26
      refine (SS.out _).mono ?_
      rintro e wn ⟨rfl, hb⟩
      refine hK.out _ _ (⟨bthen hHeld.1 hb, hHeld.2.1.grow hb, hHeld.2.2.1.grow hb, hHeld.2.2.2.grow hb⟩) (fun hHeld => ?_)
      clear hK K
      try simp only [Act.put, List.getElem_toArray, List.getElem_cons_zero, List.getElem_cons_succ, List.setIfInBounds_toArray, List.set_cons_zero, List.set_cons_succ]
      refine wpAnyH_take (i := 27) (v := ?v46) rfl (by kernel_rfl) (by kernel_rfl) (by kernel_rfl) (fun _ _ _ h => h) (Or.inl ⟨by rfl, ?y46⟩) (by assumption) ?r46
      case y46 => (intro w hSw; (go_simp <;> first | with_reducible rfl | (rw [if_pos (by omega)] <;> with_reducible rfl)))
      try simp only [Act.put, List.getElem_toArray, List.getElem_cons_zero, List.getElem_cons_succ, List.setIfInBounds_toArray, List.set_cons_zero, List.set_cons_succ]
      refine wpAnyH_take (i := 28) (v := ?v47) rfl (by kernel_rfl) (by kernel_rfl) (by kernel_rfl) (fun _ _ _ h => h) (Or.inl ⟨by rfl, ?y47⟩) (by assumption) ?r47
      case y47 => (intro w hSw; (go_simp <;> first | with_reducible rfl | (rw [if_pos (by omega)] <;> with_reducible rfl)))
      try simp only [Act.put, List.getElem_toArray, List.getElem_cons_zero, List.getElem_cons_succ, List.setIfInBounds_toArray, List.set_cons_zero, List.set_cons_succ]
      refine wpAnyH_take (i := 29) (v := ?v48) rfl (by kernel_rfl) (by kernel_rfl) (by kernel_rfl) (fun _ _ _ h => h) (Or.inl ⟨by rfl, ?y48⟩) (by assumption) ?r48
      case y48 => (intro w hSw; (go_simp <;> first | with_reducible rfl | (rw [if_pos (by omega)] <;> with_reducible rfl)))
      try simp only [Act.put, List.getElem_toArray, List.getElem_cons_zero, List.getElem_cons_succ, List.setIfInBounds_toArray, List.set_cons_zero, List.set_cons_succ]
      refine wpAnyH_take (i := 30) (v := ?v49) rfl (by kernel_rfl) (by kernel_rfl) (by kernel_rfl) (fun _ _ _ h => h) (Or.inl ⟨by rfl, ?y49⟩) (by assumption) ?r49
      case y49 => (intro w hSw; (go_simp <;> first | with_reducible rfl | (rw [if_pos (by omega)] <;> with_reducible rfl)))
      try simp only [Act.put, List.getElem_toArray, List.getElem_cons_zero, List.getElem_cons_succ, List.setIfInBounds_toArray, List.set_cons_zero, List.set_cons_succ]
      refine wpAnyH_done (by kernel_rfl) ?_ _
      go_wp2
      go_ret
      exact ⟨rfl, BB.out.trans (hHeld.1.mono BB.out.size)⟩
  · have hb : s < 0 ∨ (¬ s < 0 ∧ 1 < s) ∨ (¬ s < 0 ∧ ¬ 1 < s ∧ k < 1) ∨ (¬ s < 0 ∧ ¬ 1 < s ∧ ¬ k < 1 ∧ 7 < k) ∨ (¬ s < 0 ∧ ¬ 1 < s ∧ ¬ k < 1 ∧ ¬ 7 < k ∧ n < 0) ∨ (¬ s < 0 ∧ ¬ 1 < s ∧ ¬ k < 1 ∧ ¬ 7 < k ∧ ¬ n < 0 ∧ 18 < n) ∨ (¬ s < 0 ∧ ¬ 1 < s ∧ ¬ k < 1 ∧ ¬ 7 < k ∧ ¬ n < 0 ∧ ¬ 18 < n ∧ (at8 z 97 != 0) = true ∧ (at8 z 97 != 1) = true) := by
      have hn : ∀ a b : Int, (a != b) = true ↔ a ≠ b := fun a b => bne_iff_ne
      rw [hn, hn]
      omega
    clear hg
    rcases hb with c1 | ⟨c1, c2⟩ | ⟨c1, c2, c3⟩ | ⟨c1, c2, c3, c4⟩ | ⟨c1, c2, c3, c4, c5⟩ | ⟨c1, c2, c3, c4, c5, c6⟩ | ⟨c1, c2, c3, c4, c5, c6, c7, c8⟩
    all_goals
      go_wp2
      go_ret
      exact ⟨rfl, B2.out⟩
end Go.Proofs.Ytmpjjdlohneiiaa.keyHands
