/-
  The walk of the law RayWays, as far as it goes.
-/
import Derived.Test.YtnmekghjkajhcaaDoorRayHead
import Derived.Test.YtnmekghjkajhcaaDoorRayMore
import Derived.Test.YtnmekghjkajhcaaDoorReal
import Derived.Test.YtnmekghjkajhcaaDoorBlkg
import Derived.Test.YtnmekghjkajhcaaDoorLists2
import Derived.Test.YtnmekghjkajhcaaDoorTable
import Derived.OpenShut
import Derived.Deep.RegionHeld3
namespace Go.Proofs.YtnmekghjkajhcaaDoor.rayWays
open Go.RowKit
set_option linter.unusedVariables false
set_option linter.unusedSimpArgs false
theorem zero_set (w : World) : (zeroValue 26).run Tryd.prog w = .ok (.agg #[.int .u64 0, .int .u64 0]) w := by kernel_rfl
theorem row_cell0 {w : World} {g : Nat} {x y : Value} {T : TypeId} (h : w.heap[g]? = some (.cells #[x, y] T (0, 0))) : w.cell? ⟨g, 0, none⟩ = some x := by simp [World.cell?, h]
theorem row_cell1 {w : World} {g : Nat} {x y : Value} {T : TypeId} (h : w.heap[g]? = some (.cells #[x, y] T (0, 0))) : w.cell? ⟨g, 1, none⟩ = some y := by simp [World.cell?, h]
theorem range2_at {w : World} {k o : Nat} {x y : Value} (h0 : w.cell? ⟨k, o, none⟩ = some x) (h1 : w.cell? ⟨k, o + 1, none⟩ = some y) : w.rangeAt k o [x, y] := fun j v hj => by
  rcases j with _ | _ | j
  · simp at hj
    subst hj
    exact h0
  · simp at hj
    subst hj
    exact h1
  · simp at hj

theorem own_slice {w : World} {B : Nat} {v : Value} {l : List Int} (h : Own w B v l) : ∃ o cap, v = .slice o l.length cap ∧ (∀ (j : Nat) (hj : j < l.length), ∃ g, o = some ⟨g, 0, none⟩ ∧ g < w.heap.size ∧ w.cell? ⟨g, 0 + j, none⟩ = some (.int .i64 l[j])) := by
  rcases h.parts with ⟨rfl, hnil⟩ | ⟨g, cap, rfl, hg, hgl, hcells⟩
  · subst hnil
    exact ⟨none, 0, rfl, fun j hj => absurd hj (Nat.not_lt_zero _)⟩
  · exact ⟨_, cap, rfl, fun j hj => ⟨g, rfl, hgl, hcells j hj⟩⟩

set_option maxHeartbeats 4000000 in
theorem walk (q f r a b c d : Int) (gf : (Lit.int .i64 f).wf = true) (gr : (Lit.int .i64 r).wf = true) (ga : (Lit.int .u64 a).wf = true) (gb : (Lit.int .u64 b).wf = true) (gc : (Lit.int .u64 c).wf = true) (gd : (Lit.int .u64 d).wf = true) (w : World) (hT : Tab w) :
    Calls Tryd.prog 3 #[.int .i64 q, .agg #[.int .i64 f, .int .i64 r], .agg #[.int .u64 a, .int .u64 b, .int .u64 c, .int .u64 d]] w fun e w' => e = .returned (.bool true) ∧ Below w.heap.size w w' := by
  have H := Lib.hid (fun W => slides_true W)
  have R1 := Lib.hid (fun W => real4_any a b (bounds_u64 ga).1 (bounds_u64 ga).2 (bounds_u64 gb).1 (bounds_u64 gb).2 W)
  have R2 := Lib.hid (fun W => real4_any c d (bounds_u64 gc).1 (bounds_u64 gc).2 (bounds_u64 gd).1 (bounds_u64 gd).2 W)
  have s0 := realN_sq a b
  have s1 := realN_sq c d
  generalize realN a b = n at R1 s0
  generalize realN c d = m at R2 s1
  have OR := Lib.hid (fun W => or_any n m s0 s1 W)
  have hf := bounds_i64 gf
  have hr := bounds_i64 gr
  have hf' : I64 f := by unfold I64; omega
  have hr' : I64 r := by unfold I64; omega
  have WA := Lib.hid (fun W => way_any q f r n hf' hr' s0 W)
  have WB := Lib.hid (fun W => way_any q f r (n ||| m) hf' hr' (s0.or s1) W)
  have AN := Lib.hid (fun W => and_any (wayN q (f, r) n) n (wayN_sq _ _ _) s0 W)
  have SQ := Lib.hid (fun (W : World) (hT : Tab W) (h : 1 ≤ W.heap.size) => squares_any (wayN q (f, r) n) (wayN_sq _ _ _) W hT h)
  have HT := Lib.hid hT
  have HFR := Lib.hid (And.intro hf' hr')
  have HS := Lib.hid (And.intro s0 s1)
  clear gf gr ga gb gc gd hT s0 s1 hf hr hf' hr'
  generalize loW n = xn at R1 OR WA AN
  generalize hiW n = yn at R1 OR WA AN
  generalize loW m = xm at R2 OR
  generalize hiW m = ym at R2 OR
  generalize loW (n ||| m) = xs at OR WB
  generalize hiW (n ||| m) = ys at OR WB
  generalize hxa : loW (wayN q (f, r) n) = xa at WA SQ AN
  generalize hya : hiW (wayN q (f, r) n) = ya at WA SQ AN
  generalize hxb : loW (wayN q (f, r) (n ||| m)) = xb at WB
  generalize hyb : hiW (wayN q (f, r) (n ||| m)) = yb at WB
  have HX := Lib.hid (And.intro (And.intro hxa hya) (And.intro hxb hyb))
  clear hxa hya hxb hyb
  have hz := zero_set
  go_enter Tryd.func3, Tryd.ntmps3
  go_wp2_with (first
    | (go_at_call 5; refine (H.out _).mono ?_; rintro e w1 ⟨rfl, hb1⟩; obtain ⟨hc1, hf1⟩ := bcells hb1; have hz1 : w.heap.size + 1 < w1.heap.size := by (have := hb1.size; simp at this; omega))
    | (go_at_call 6; refine (R1.out _).mono ?_; rintro e w2 ⟨rfl, hb2⟩; obtain ⟨hc2, hf2⟩ := bcells hb2; have hz2 : w.heap.size + 1 < w2.heap.size := by (have := hb2.size; omega)))
  have B2 : Below w.heap.size w w2 := bthen (bthen (ball (ball (bref w) _) _) hb1) hb2
  obtain ⟨wd, hwd⟩ : ∃ W, W = w2.alloc (.cells #[.int .u64 xn, .int .u64 yn] 26) := ⟨_, rfl⟩
  have hz0 : w.heap.size < w2.heap.size := by omega
  have hz01 : w.heap.size < w1.heap.size := by omega
  have BD : Below w.heap.size w wd := by rw [hwd]; exact ball B2 _
  have f0 : wd.cell? ⟨w2.heap.size, 0, none⟩ = some (.int .u64 xn) := by rw [hwd]; go_simp
  have f1 : wd.cell? ⟨w2.heap.size, 1, none⟩ = some (.int .u64 yn) := by rw [hwd]; go_simp
  have d0 : wd.cell? ⟨w.heap.size, 0, none⟩ = some (.int .i64 f) := by rw [hwd]; go_simp
  have d1 : wd.cell? ⟨w.heap.size, 1, none⟩ = some (.int .i64 r) := by rw [hwd]; go_simp
  have c2 : wd.cell? ⟨w.heap.size + 1, 2, none⟩ = some (.int .u64 c) := by rw [hwd]; go_simp
  have c3 : wd.cell? ⟨w.heap.size + 1, 3, none⟩ = some (.int .u64 d) := by rw [hwd]; go_simp
  have hzf : w2.heap.size < wd.heap.size := by rw [hwd]; simp
  rw [← hwd]
  clear hwd B2 hb1 hb2 hc1 hf1 hc2 hf2 hz1 hz01
  generalize w2.heap.size = bf at *
  have hz1 : w.heap.size < wd.heap.size := by omega
  clear hz0
  have hz2' : w.heap.size + 1 < wd.heap.size := by omega
  clear hz2
  have hz2 := hz2'
  clear hz2'
  obtain ⟨NN, nn0⟩ : ∃ NN : Nat → Array Value, NN 0 = #[.int .u64 xs, .int .u64 ys] := ⟨fun _ => _, rfl⟩
  refine wp_region_any (by kernel_rfl) ?_
  change wpAny _ _ _ _ _ _ _ (World.drew _)
  refine wpAny_inv3 (fun a0 => a0.eval (.tmp 5) = .pointer (some ⟨w.heap.size + 1, 0, none⟩) ∧ a0.eval (.tmp 7) = .pointer (some ⟨bf, 0, none⟩) ∧ 70 < a0.tmps.size) ⟨rfl, rfl, of_decide_eq_true rfl⟩
    (fun a0 ls a w' => ls.size = 7 ∧ Below wd.heap.size wd w' ∧ ∃ g : Nat → Nat, Blgs 26 #[.int .u64 0, .int .u64 0] wd w' NN ls 5 6 1 g ∧ a = cput (ls.getD 5 false) 8 (.pointer (some ⟨g 0, 0, none⟩)) (cput (ls.getD 4 false) 24 (.agg #[.int .u64 xs, .int .u64 ys]) (cput (ls.getD 3 false) 23 (.agg #[.int .u64 xm, .int .u64 ym]) (cput (ls.getD 2 false) 22 (.agg #[.int .u64 c, .int .u64 d]) (cput (ls.getD 1 false) 21 (.pointer (some ⟨w.heap.size + 1, 2, none⟩)) (cput (ls.getD 0 false) 20 (.agg #[.int .u64 xn, .int .u64 yn]) (a0))))))) ?step ?fin ?start (by decide)
  case start => exact ⟨rfl, (bref wd).drew, fun _ => 0, ⟨fun j hj h => absurd h (by (obtain rfl : j = 0 := by omega) <;> decide), fun i j hi hj _ h => absurd h (by (obtain rfl : i = 0 := by omega) <;> decide), fun j hj h => absurd h (by (obtain rfl : j = 0 := by omega) <;> decide)⟩, rfl⟩
  case step =>
    rintro a0 ⟨e5, e7, esz⟩ ls a w' ⟨hl, hb, g, hK, ha⟩ i o ho hu hw
    have hu' := undone hu
    rcases i with _ | _ | _ | _ | _ | _ | _ | i
    · have ho' : some _ = some o := ho
      cases ho'
      have E7 : a.eval (.tmp 7) = .pointer (some ⟨bf, 0, none⟩) := by rw [ha]; simp [eval_cput_ne, e7]
      refine wpOp_step ho (fun K hK' => ?_)
      rw [if_pos (by rfl)]
      have q0 := (hb.cell (p := ⟨bf, 0, none⟩) hzf).trans f0
      have q1 := (hb.cell (p := ⟨bf, 1, none⟩) hzf).trans f1
      refine wp_load_mid _ _ rfl (bf) 0 E7 [.int .u64 xn, .int .u64 yn] _ (range2 q0 q1) Tryd.underlying26 rfl infoSet2 ?_
      exact hK' _ _ ⟨by simp [hl], hb, g, hK.other (bref w') 0 (by omega) (fun j hj => by omega) (fun j hj => by omega), by rw [ha]; simp [cput_put, getF, hl, hu', cput_at]⟩
    · have ho' : some _ = some o := ho
      cases ho'
      have E5 : a.eval (.tmp 5) = .pointer (some ⟨w.heap.size + 1, 0, none⟩) := by rw [ha]; simp [eval_cput_ne, e5]
      refine wpOp_step ho (fun K hK' => ?_)
      rw [if_pos (by rfl)]
      refine wp_valueK (w' := w') (.pointer (some ⟨w.heap.size + 1, 2, none⟩)) ?_ (hK' _ _ ⟨by simp [hl], hb, g, hK.other (bref w') 1 (by omega) (fun j hj => by omega) (fun j hj => by omega), by rw [ha]; simp [cput_put, getF, hl, hu', cput_at]⟩)
      clear ha
      have EE : a.tmps[5]?.getD undef = .pointer (some ⟨w.heap.size + 1, 0, none⟩) := by first | exact E5 | simpa [Act.eval] using E5
      go_simp
      all_goals first | (rw [EE]; go_simp; done) | decide | rfl
    · have ho' : some _ = some o := ho
      cases ho'
      have d21 : ls.getD 1 false = true := hw ⟨1, .data⟩ (by simp) rfl
      have z21 : 21 < a0.tmps.size := by omega
      have E21 : a.eval (.tmp 21) = .pointer (some ⟨w.heap.size + 1, 2, none⟩) := by rw [ha]; simp [eval_cput_ne, d21, eval_cput_at, size_cput, z21]
      refine wpOp_step ho (fun K hK' => ?_)
      rw [if_pos (by rfl)]
      have q0 := (hb.cell (p := ⟨w.heap.size + 1, 2, none⟩) hz2).trans c2
      have q1 := (hb.cell (p := ⟨w.heap.size + 1, 3, none⟩) hz2).trans c3
      refine wp_load_mid _ _ rfl (w.heap.size + 1) 2 E21 [.int .u64 c, .int .u64 d] _ (range2_at q0 q1) Tryd.underlying26 rfl infoSet2 ?_
      exact hK' _ _ ⟨by simp [hl], hb, g, hK.other (bref w') 2 (by omega) (fun j hj => by omega) (fun j hj => by omega), by rw [ha]; simp [cput_put, getF, hl, hu', cput_at]⟩
    · have ho' : some _ = some o := ho
      cases ho'
      have d22 : ls.getD 2 false = true := hw ⟨2, .data⟩ (by simp) rfl
      have z22 : 22 < a0.tmps.size := by omega
      have E22 : a.eval (.tmp 22) = .agg #[.int .u64 c, .int .u64 d] := by rw [ha]; simp [eval_cput_ne, d22, eval_cput_at, size_cput, z22]
      refine wpOp_step ho (fun K hK' => ?_)
      rw [if_pos (by rfl)]
      refine wp_callK 6 #[a.eval (.tmp 22)] ?_ ?_
      · clear ha E22
        go_simp
      · rw [E22]
        refine (R2.out _).mono ?_
        rintro e w2 ⟨rfl, hb2⟩
        exact ⟨_, rfl, hK' _ _ ⟨by simp [hl], bthen hb hb2, g, hK.other hb2 3 (by omega) (fun j hj => by omega) (fun j hj => by omega), by rw [ha]; simp [cput_put, getF, hl, hu', cput_at]⟩⟩
    · have ho' : some _ = some o := ho
      cases ho'
      have d20 : ls.getD 0 false = true := hw ⟨0, .data⟩ (by simp) rfl
      have z20 : 20 < a0.tmps.size := by omega
      have E20 : a.eval (.tmp 20) = .agg #[.int .u64 xn, .int .u64 yn] := by rw [ha]; simp [eval_cput_ne, d20, eval_cput_at, size_cput, z20]
      have d23 : ls.getD 3 false = true := hw ⟨3, .data⟩ (by simp) rfl
      have z23 : 23 < a0.tmps.size := by omega
      have E23 : a.eval (.tmp 23) = .agg #[.int .u64 xm, .int .u64 ym] := by rw [ha]; simp [eval_cput_ne, d23, eval_cput_at, size_cput, z23]
      refine wpOp_step ho (fun K hK' => ?_)
      rw [if_pos (by rfl)]
      refine wp_callK 7 #[a.eval (.tmp 20), a.eval (.tmp 23)] ?_ ?_
      · clear ha E20 E23
        go_simp
      · rw [E20, E23]
        refine (OR.out _).mono ?_
        rintro e w2 ⟨rfl, hb2⟩
        exact ⟨_, rfl, hK' _ _ ⟨by simp [hl], bthen hb hb2, g, hK.other hb2 4 (by omega) (fun j hj => by omega) (fun j hj => by omega), by rw [ha]; simp [cput_put, getF, hl, hu', cput_at]⟩⟩
    · have ho' : some _ = some o := ho
      cases ho'
      refine wpOp_step ho (fun K hK' => ?_)
      rw [if_pos (by rfl)]
      refine wp_valueK (w' := w'.alloc (.cells #[.int .u64 0, .int .u64 0] 26)) (.pointer (some ⟨w'.heap.size, 0, none⟩)) ?_ ?_
      · have hz := zero_set
        clear ha
        go_simp
      · exact hK' _ _ ⟨by simp [hl], ball hb _, _, hK.laid hb 0 (by omega) (by omega) hu' (by omega), by rw [ha]; simp [cput_put, getF, hl, hu', cput_at]⟩
    · have ho' : some _ = some o := ho
      cases ho'
      have d8 : ls.getD 5 false = true := hw ⟨5, .data⟩ (by simp) rfl
      have z8 : 8 < a0.tmps.size := by omega
      have E8 : a.eval (.tmp 8) = .pointer (some ⟨g 0, 0, none⟩) := by rw [ha]; simp [eval_cput_ne, d8, eval_cput_at, size_cput, z8]
      have d24 : ls.getD 4 false = true := hw ⟨4, .data⟩ (by simp) rfl
      have z24 : 24 < a0.tmps.size := by omega
      have E24 : a.eval (.tmp 24) = .agg #[.int .u64 xs, .int .u64 ys] := by rw [ha]; simp [eval_cput_ne, d24, eval_cput_at, size_cput, z24]
      refine wpOp_step ho (fun K hK' => ?_)
      rw [if_pos (by rfl)]
      have hB := hK.blk 0 (by omega) d8
      rw [show ls.getD (6 + 0) false = false from hu', if_neg (by decide)] at hB
      have gg : ∀ j, j ≠ 6 → (ls.setIfInBounds 6 true).getD j false = ls.getD j false := fun j hj => (getF (by omega : 6 < ls.size)).trans (if_neg (Ne.symm hj))
      have hF := hK.filled 0 (by omega) (by omega) d8 (by omega)
      rw [nn0] at hF
      refine wp_store_row 26 _ _ rfl (g 0) (#[.int .u64 xs, .int .u64 ys]) E8 E24 26 #[.int .u64 0, .int .u64 0] hB.row infoSet2 rfl (by simp [Value.oneCell']) ?_
      refine hK' _ _ ⟨by simp [hl], below_setRow hb hB.le _, g, hF, ?_⟩
      rw [gg 5 (by decide), gg 4 (by decide), gg 3 (by decide), gg 2 (by decide), gg 1 (by decide), gg 0 (by decide), ha]
      rfl
    · cases ho
  case fin =>
    rintro ls a w' ⟨hl, hb, g, hK, ha⟩ hr
    have d : ∀ i, i < 7 → ls.getD i false = true := all_doneB hr (by kernel_rfl) (by rw [hl]; rfl)
    have K0 := hK.blk 0 (by omega) (d 5 (by decide))
    rw [show ls.getD (6 + 0) false = true from d 6 (by decide), if_pos rfl, nn0] at K0
    rw [d 5 (by decide), d 4 (by decide), d 3 (by decide), d 2 (by decide), d 1 (by decide), d 0 (by decide)] at ha
    subst ha
    simp only [cput, if_true, Act.put, List.setIfInBounds_toArray, List.set_cons_zero, List.set_cons_succ]
    clear d hr hl hK
    have hzm := K0.lt
    have m0 : w'.cell? ⟨g 0, 0, none⟩ = some (.int .u64 xs) := row_cell0 K0.row
    have m1 : w'.cell? ⟨g 0, 1, none⟩ = some (.int .u64 ys) := row_cell1 K0.row
    generalize g 0 = bm at *
    have f0' := (hb.cell (p := ⟨bf, 0, none⟩) hzf).trans f0
    have f1' := (hb.cell (p := ⟨bf, 1, none⟩) hzf).trans f1
    have d0' := (hb.cell (p := ⟨w.heap.size, 0, none⟩) hz1).trans d0
    have d1' := (hb.cell (p := ⟨w.heap.size, 1, none⟩) hz1).trans d1
    have hzf' := Nat.lt_of_lt_of_le hzf hb.size
    have hz1' := Nat.lt_of_lt_of_le hz1 hb.size
    have BX := Lib.hid (bthen BD hb)
    clear K0 nn0 f0 f1 d0 d1 c2 c3 hzf hz1 hz2 BD hb OR R2
    have f0 := f0'
    have f1 := f1'
    have d0 := d0'
    have d1 := d1'
    have hzf := hzf'
    have hz1 := hz1'
    clear f0' f1' d0' d1' hzf' hz1'
    rename World => wx
    obtain ⟨NN, nn0, nn1⟩ : ∃ NN : Nat → Array Value, NN 0 = #[.int .u64 xa, .int .u64 ya] ∧ NN 1 = #[.int .u64 xb, .int .u64 yb] := ⟨fun j => if j = 0 then _ else _, rfl, rfl⟩
    go_wp2_with fail
    refine wp_region_any (by kernel_rfl) ?_
    change wpAny _ _ _ _ _ _ _ (World.drew _)
    refine wpAny_inv3 (fun a0 => a0.eval (.tmp 0) = .int .i64 q ∧ a0.eval (.tmp 4) = .pointer (some ⟨w.heap.size, 0, none⟩) ∧ a0.eval (.tmp 7) = .pointer (some ⟨bf, 0, none⟩) ∧ a0.eval (.tmp 8) = .pointer (some ⟨bm, 0, none⟩) ∧ 70 < a0.tmps.size) ⟨rfl, rfl, rfl, rfl, of_decide_eq_true rfl⟩
      (fun a0 ls a w' => ls.size = 12 ∧ Below wx.heap.size wx w' ∧ ∃ g : Nat → Nat, Blgs 26 #[.int .u64 0, .int .u64 0] wx w' NN ls 8 10 2 g ∧ a = cput (ls.getD 9 false) 10 (.pointer (some ⟨g 1, 0, none⟩)) (cput (ls.getD 8 false) 9 (.pointer (some ⟨g 0, 0, none⟩)) (cput (ls.getD 7 false) 32 (.agg #[.int .u64 xb, .int .u64 yb]) (cput (ls.getD 6 false) 31 (.agg #[.int .u64 xs, .int .u64 ys]) (cput (ls.getD 5 false) 30 (.agg #[.int .i64 f, .int .i64 r]) (cput (ls.getD 4 false) 29 (.int .i64 q) (cput (ls.getD 3 false) 28 (.agg #[.int .u64 xa, .int .u64 ya]) (cput (ls.getD 2 false) 27 (.agg #[.int .u64 xn, .int .u64 yn]) (cput (ls.getD 1 false) 26 (.agg #[.int .i64 f, .int .i64 r]) (cput (ls.getD 0 false) 25 (.int .i64 q) (a0))))))))))) ?step ?fin ?start (by decide)
    case start => exact ⟨rfl, (bref wx).drew, fun _ => 0, ⟨fun j hj h => absurd h (by (obtain rfl | rfl : j = 0 ∨ j = 1 := by omega) <;> decide), fun i j hi hj _ h => absurd h (by (obtain rfl | rfl : i = 0 ∨ i = 1 := by omega) <;> decide), fun j hj h => absurd h (by (obtain rfl | rfl : j = 0 ∨ j = 1 := by omega) <;> decide)⟩, rfl⟩
    case step =>
      rintro a0 ⟨e0, e4, e7, e8, esz⟩ ls a w' ⟨hl, hb, g, hK, ha⟩ i o ho hu hw
      have hu' := undone hu
      rcases i with _ | _ | _ | _ | _ | _ | _ | _ | _ | _ | _ | _ | i
      · have ho' : some _ = some o := ho
        cases ho'
        have E0 : a.eval (.tmp 0) = .int .i64 q := by rw [ha]; simp [eval_cput_ne, e0]
        refine wpOp_step ho (fun K hK' => ?_)
        rw [if_pos (by rfl)]
        refine wp_valueK (w' := w') (.int .i64 q) ?_ (hK' _ _ ⟨by simp [hl], hb, g, hK.other (bref w') 0 (by omega) (fun j hj => by omega) (fun j hj => by omega), by rw [ha]; simp [cput_put, getF, hl, hu', cput_at]⟩)
        exact congrArg (fun v => Result.ok (Next.value v) w') E0
      · have ho' : some _ = some o := ho
        cases ho'
        have E4 : a.eval (.tmp 4) = .pointer (some ⟨w.heap.size, 0, none⟩) := by rw [ha]; simp [eval_cput_ne, e4]
        refine wpOp_step ho (fun K hK' => ?_)
        rw [if_pos (by rfl)]
        have q0 := (hb.cell (p := ⟨w.heap.size, 0, none⟩) hz1).trans d0
        have q1 := (hb.cell (p := ⟨w.heap.size, 1, none⟩) hz1).trans d1
        refine wp_load_mid _ _ rfl (w.heap.size) 0 E4 [.int .i64 f, .int .i64 r] _ (range2 q0 q1) Tryd.underlying23 rfl infoDir2 ?_
        exact hK' _ _ ⟨by simp [hl], hb, g, hK.other (bref w') 1 (by omega) (fun j hj => by omega) (fun j hj => by omega), by rw [ha]; simp [cput_put, getF, hl, hu', cput_at]⟩
      · have ho' : some _ = some o := ho
        cases ho'
        have E7 : a.eval (.tmp 7) = .pointer (some ⟨bf, 0, none⟩) := by rw [ha]; simp [eval_cput_ne, e7]
        refine wpOp_step ho (fun K hK' => ?_)
        rw [if_pos (by rfl)]
        have q0 := (hb.cell (p := ⟨bf, 0, none⟩) hzf).trans f0
        have q1 := (hb.cell (p := ⟨bf, 1, none⟩) hzf).trans f1
        refine wp_load_mid _ _ rfl (bf) 0 E7 [.int .u64 xn, .int .u64 yn] _ (range2 q0 q1) Tryd.underlying26 rfl infoSet2 ?_
        exact hK' _ _ ⟨by simp [hl], hb, g, hK.other (bref w') 2 (by omega) (fun j hj => by omega) (fun j hj => by omega), by rw [ha]; simp [cput_put, getF, hl, hu', cput_at]⟩
      · have ho' : some _ = some o := ho
        cases ho'
        have d25 : ls.getD 0 false = true := hw ⟨0, .data⟩ (by simp) rfl
        have z25 : 25 < a0.tmps.size := by omega
        have E25 : a.eval (.tmp 25) = .int .i64 q := by rw [ha]; simp [eval_cput_ne, d25, eval_cput_at, size_cput, z25]
        have d26 : ls.getD 1 false = true := hw ⟨1, .data⟩ (by simp) rfl
        have z26 : 26 < a0.tmps.size := by omega
        have E26 : a.eval (.tmp 26) = .agg #[.int .i64 f, .int .i64 r] := by rw [ha]; simp [eval_cput_ne, d26, eval_cput_at, size_cput, z26]
        have d27 : ls.getD 2 false = true := hw ⟨2, .data⟩ (by simp) rfl
        have z27 : 27 < a0.tmps.size := by omega
        have E27 : a.eval (.tmp 27) = .agg #[.int .u64 xn, .int .u64 yn] := by rw [ha]; simp [eval_cput_ne, d27, eval_cput_at, size_cput, z27]
        refine wpOp_step ho (fun K hK' => ?_)
        rw [if_pos (by rfl)]
        refine wp_callK 8 #[a.eval (.tmp 25), a.eval (.tmp 26), a.eval (.tmp 27)] ?_ ?_
        · clear ha E25 E26 E27
          go_simp
        · rw [E25, E26, E27]
          refine (WA.out _).mono ?_
          rintro e w2 ⟨rfl, hb2⟩
          exact ⟨_, rfl, hK' _ _ ⟨by simp [hl], bthen hb hb2, g, hK.other hb2 3 (by omega) (fun j hj => by omega) (fun j hj => by omega), by rw [ha]; simp [cput_put, getF, hl, hu', cput_at]⟩⟩
      · have ho' : some _ = some o := ho
        cases ho'
        have E0 : a.eval (.tmp 0) = .int .i64 q := by rw [ha]; simp [eval_cput_ne, e0]
        refine wpOp_step ho (fun K hK' => ?_)
        rw [if_pos (by rfl)]
        refine wp_valueK (w' := w') (.int .i64 q) ?_ (hK' _ _ ⟨by simp [hl], hb, g, hK.other (bref w') 4 (by omega) (fun j hj => by omega) (fun j hj => by omega), by rw [ha]; simp [cput_put, getF, hl, hu', cput_at]⟩)
        exact congrArg (fun v => Result.ok (Next.value v) w') E0
      · have ho' : some _ = some o := ho
        cases ho'
        have E4 : a.eval (.tmp 4) = .pointer (some ⟨w.heap.size, 0, none⟩) := by rw [ha]; simp [eval_cput_ne, e4]
        refine wpOp_step ho (fun K hK' => ?_)
        rw [if_pos (by rfl)]
        have q0 := (hb.cell (p := ⟨w.heap.size, 0, none⟩) hz1).trans d0
        have q1 := (hb.cell (p := ⟨w.heap.size, 1, none⟩) hz1).trans d1
        refine wp_load_mid _ _ rfl (w.heap.size) 0 E4 [.int .i64 f, .int .i64 r] _ (range2 q0 q1) Tryd.underlying23 rfl infoDir2 ?_
        exact hK' _ _ ⟨by simp [hl], hb, g, hK.other (bref w') 5 (by omega) (fun j hj => by omega) (fun j hj => by omega), by rw [ha]; simp [cput_put, getF, hl, hu', cput_at]⟩
      · have ho' : some _ = some o := ho
        cases ho'
        have E8 : a.eval (.tmp 8) = .pointer (some ⟨bm, 0, none⟩) := by rw [ha]; simp [eval_cput_ne, e8]
        refine wpOp_step ho (fun K hK' => ?_)
        rw [if_pos (by rfl)]
        have q0 := (hb.cell (p := ⟨bm, 0, none⟩) hzm).trans m0
        have q1 := (hb.cell (p := ⟨bm, 1, none⟩) hzm).trans m1
        refine wp_load_mid _ _ rfl (bm) 0 E8 [.int .u64 xs, .int .u64 ys] _ (range2 q0 q1) Tryd.underlying26 rfl infoSet2 ?_
        exact hK' _ _ ⟨by simp [hl], hb, g, hK.other (bref w') 6 (by omega) (fun j hj => by omega) (fun j hj => by omega), by rw [ha]; simp [cput_put, getF, hl, hu', cput_at]⟩
      · have ho' : some _ = some o := ho
        cases ho'
        have d29 : ls.getD 4 false = true := hw ⟨4, .data⟩ (by simp) rfl
        have z29 : 29 < a0.tmps.size := by omega
        have E29 : a.eval (.tmp 29) = .int .i64 q := by rw [ha]; simp [eval_cput_ne, d29, eval_cput_at, size_cput, z29]
        have d30 : ls.getD 5 false = true := hw ⟨5, .data⟩ (by simp) rfl
        have z30 : 30 < a0.tmps.size := by omega
        have E30 : a.eval (.tmp 30) = .agg #[.int .i64 f, .int .i64 r] := by rw [ha]; simp [eval_cput_ne, d30, eval_cput_at, size_cput, z30]
        have d31 : ls.getD 6 false = true := hw ⟨6, .data⟩ (by simp) rfl
        have z31 : 31 < a0.tmps.size := by omega
        have E31 : a.eval (.tmp 31) = .agg #[.int .u64 xs, .int .u64 ys] := by rw [ha]; simp [eval_cput_ne, d31, eval_cput_at, size_cput, z31]
        refine wpOp_step ho (fun K hK' => ?_)
        rw [if_pos (by rfl)]
        refine wp_callK 8 #[a.eval (.tmp 29), a.eval (.tmp 30), a.eval (.tmp 31)] ?_ ?_
        · clear ha E29 E30 E31
          go_simp
        · rw [E29, E30, E31]
          refine (WB.out _).mono ?_
          rintro e w2 ⟨rfl, hb2⟩
          exact ⟨_, rfl, hK' _ _ ⟨by simp [hl], bthen hb hb2, g, hK.other hb2 7 (by omega) (fun j hj => by omega) (fun j hj => by omega), by rw [ha]; simp [cput_put, getF, hl, hu', cput_at]⟩⟩
      · have ho' : some _ = some o := ho
        cases ho'
        refine wpOp_step ho (fun K hK' => ?_)
        rw [if_pos (by rfl)]
        refine wp_valueK (w' := w'.alloc (.cells #[.int .u64 0, .int .u64 0] 26)) (.pointer (some ⟨w'.heap.size, 0, none⟩)) ?_ ?_
        · have hz := zero_set
          clear ha
          go_simp
        · exact hK' _ _ ⟨by simp [hl], ball hb _, _, hK.laid hb 0 (by omega) (by omega) hu' (by omega), by rw [ha]; simp [cput_put, getF, hl, hu', cput_at]⟩
      · have ho' : some _ = some o := ho
        cases ho'
        refine wpOp_step ho (fun K hK' => ?_)
        rw [if_pos (by rfl)]
        refine wp_valueK (w' := w'.alloc (.cells #[.int .u64 0, .int .u64 0] 26)) (.pointer (some ⟨w'.heap.size, 0, none⟩)) ?_ ?_
        · have hz := zero_set
          clear ha
          go_simp
        · exact hK' _ _ ⟨by simp [hl], ball hb _, _, hK.laid hb 1 (by omega) (by omega) hu' (by omega), by rw [ha]; simp [cput_put, getF, hl, hu', cput_at]⟩
      · have ho' : some _ = some o := ho
        cases ho'
        have d9 : ls.getD 8 false = true := hw ⟨8, .data⟩ (by simp) rfl
        have z9 : 9 < a0.tmps.size := by omega
        have E9 : a.eval (.tmp 9) = .pointer (some ⟨g 0, 0, none⟩) := by rw [ha]; simp [eval_cput_ne, d9, eval_cput_at, size_cput, z9]
        have d28 : ls.getD 3 false = true := hw ⟨3, .data⟩ (by simp) rfl
        have z28 : 28 < a0.tmps.size := by omega
        have E28 : a.eval (.tmp 28) = .agg #[.int .u64 xa, .int .u64 ya] := by rw [ha]; simp [eval_cput_ne, d28, eval_cput_at, size_cput, z28]
        refine wpOp_step ho (fun K hK' => ?_)
        rw [if_pos (by rfl)]
        have hB := hK.blk 0 (by omega) d9
        rw [show ls.getD (10 + 0) false = false from hu', if_neg (by decide)] at hB
        have gg : ∀ j, j ≠ 10 → (ls.setIfInBounds 10 true).getD j false = ls.getD j false := fun j hj => (getF (by omega : 10 < ls.size)).trans (if_neg (Ne.symm hj))
        have hF := hK.filled 0 (by omega) (by omega) d9 (by omega)
        rw [nn0] at hF
        refine wp_store_row 26 _ _ rfl (g 0) (#[.int .u64 xa, .int .u64 ya]) E9 E28 26 #[.int .u64 0, .int .u64 0] hB.row infoSet2 rfl (by simp [Value.oneCell']) ?_
        refine hK' _ _ ⟨by simp [hl], below_setRow hb hB.le _, g, hF, ?_⟩
        rw [gg 9 (by decide), gg 8 (by decide), gg 7 (by decide), gg 6 (by decide), gg 5 (by decide), gg 4 (by decide), gg 3 (by decide), gg 2 (by decide), gg 1 (by decide), gg 0 (by decide), ha]
        rfl
      · have ho' : some _ = some o := ho
        cases ho'
        have d10 : ls.getD 9 false = true := hw ⟨9, .data⟩ (by simp) rfl
        have z10 : 10 < a0.tmps.size := by omega
        have E10 : a.eval (.tmp 10) = .pointer (some ⟨g 1, 0, none⟩) := by rw [ha]; simp [eval_cput_ne, d10, eval_cput_at, size_cput, z10]
        have d32 : ls.getD 7 false = true := hw ⟨7, .data⟩ (by simp) rfl
        have z32 : 32 < a0.tmps.size := by omega
        have E32 : a.eval (.tmp 32) = .agg #[.int .u64 xb, .int .u64 yb] := by rw [ha]; simp [eval_cput_ne, d32, eval_cput_at, size_cput, z32]
        refine wpOp_step ho (fun K hK' => ?_)
        rw [if_pos (by rfl)]
        have hB := hK.blk 1 (by omega) d10
        rw [show ls.getD (10 + 1) false = false from hu', if_neg (by decide)] at hB
        have gg : ∀ j, j ≠ 11 → (ls.setIfInBounds 11 true).getD j false = ls.getD j false := fun j hj => (getF (by omega : 11 < ls.size)).trans (if_neg (Ne.symm hj))
        have hF := hK.filled 1 (by omega) (by omega) d10 (by omega)
        rw [nn1] at hF
        refine wp_store_row 26 _ _ rfl (g 1) (#[.int .u64 xb, .int .u64 yb]) E10 E32 26 #[.int .u64 0, .int .u64 0] hB.row infoSet2 rfl (by simp [Value.oneCell']) ?_
        refine hK' _ _ ⟨by simp [hl], below_setRow hb hB.le _, g, hF, ?_⟩
        rw [gg 9 (by decide), gg 8 (by decide), gg 7 (by decide), gg 6 (by decide), gg 5 (by decide), gg 4 (by decide), gg 3 (by decide), gg 2 (by decide), gg 1 (by decide), gg 0 (by decide), ha]
        rfl
      · cases ho
    case fin =>
      rintro ls a w' ⟨hl, hb, g, hK, ha⟩ hr
      have d : ∀ i, i < 12 → ls.getD i false = true := all_doneB hr (by kernel_rfl) (by rw [hl]; rfl)
      have K0 := hK.blk 0 (by omega) (d 8 (by decide))
      rw [show ls.getD (10 + 0) false = true from d 10 (by decide), if_pos rfl, nn0] at K0
      have K1 := hK.blk 1 (by omega) (d 9 (by decide))
      rw [show ls.getD (10 + 1) false = true from d 11 (by decide), if_pos rfl, nn1] at K1
      rw [d 9 (by decide), d 8 (by decide), d 7 (by decide), d 6 (by decide), d 5 (by decide), d 4 (by decide), d 3 (by decide), d 2 (by decide), d 1 (by decide), d 0 (by decide)] at ha
      subst ha
      simp only [cput, if_true, Act.put, List.setIfInBounds_toArray, List.set_cons_zero, List.set_cons_succ]
      clear d hr hl hK
      have za := K0.lt
      have zb := K1.lt
      have a0 : w'.cell? ⟨g 0, 0, none⟩ = some (.int .u64 xa) := row_cell0 K0.row
      have a1 : w'.cell? ⟨g 0, 1, none⟩ = some (.int .u64 ya) := row_cell1 K0.row
      have b0 : w'.cell? ⟨g 1, 0, none⟩ = some (.int .u64 xb) := row_cell0 K1.row
      have b1 : w'.cell? ⟨g 1, 1, none⟩ = some (.int .u64 yb) := row_cell1 K1.row
      generalize g 0 = pa at *
      generalize g 1 = pb at *
      have f0' := (hb.cell (p := ⟨bf, 0, none⟩) hzf).trans f0
      have f1' := (hb.cell (p := ⟨bf, 1, none⟩) hzf).trans f1
      have d0' := (hb.cell (p := ⟨w.heap.size, 0, none⟩) hz1).trans d0
      have d1' := (hb.cell (p := ⟨w.heap.size, 1, none⟩) hz1).trans d1
      have zf := Nat.lt_of_lt_of_le hzf hb.size
      have zd := Nat.lt_of_lt_of_le hz1 hb.size
      have BY := Lib.hid (bthen BX.out hb)
      clear K0 K1 nn0 nn1 f0 f1 d0 d1 m0 m1 hzf hz1 hzm BX hb WA WB
      rename World => wy
      have MI : Hid (∀ W, Calls Tryd.prog 9 #[.agg #[.int .u64 xb, .int .u64 yb], .agg #[.int .u64 xa, .int .u64 ya]] W fun e w' => e = .returned (.agg #[.int .u64 0, .int .u64 0]) ∧ Below W.heap.size W w') := Lib.hid (fun W => by
        have := minus_any (wayN q (f, r) (n ||| m)) (wayN q (f, r) n) (wayN_sq _ _ _) (wayN_sq _ _ _) W
        rw [way_less (n ||| m) n (fun i h => by rw [Nat.testBit_or, h]; rfl) q (f, r), lo_zero, hi_zero, HX.out.1.1, HX.out.1.2, HX.out.2.1, HX.out.2.2] at this
        exact this)
      have EM : Hid (∀ W, Calls Tryd.prog 10 #[.agg #[.int .u64 0, .int .u64 0]] W fun e w' => e = .returned (.bool true) ∧ Below W.heap.size W w') := Lib.hid (fun W => empty_any 0 W)
      have CN := Lib.hid (fun W => count_any (wayN q (f, r) n &&& n) ((wayN_sq q (f, r) n).and) W)
      have hpop := way_taken q (f, r) n
      generalize wayN q (f, r) n &&& n = mc at AN CN hpop
      generalize loW mc = xc at AN CN
      generalize hiW mc = yc at AN CN
      generalize pop 81 mc = pc at CN hpop
      have hpc : ¬ 1 < (pc : Int) := by omega
      clear hpop
      have HQ : Hid (∀ W, Calls Tryd.prog 13 #[.agg #[.int .u64 xa, .int .u64 ya], .int .i64 q] W fun e w' => e = .returned (.bool false) ∧ Below W.heap.size W w') := Lib.hid (fun W => by
        have := has_any (wayN q (f, r) n) q (wayN_sq _ _ _) W
        rw [HX.out.1.1, HX.out.1.2] at this
        have e : (!decide (wayN q (f, r) n &&& oneN q = 0)) = false := by
          by_cases hq : 0 ≤ q ∧ q ≤ 80
          · obtain ⟨k, rfl⟩ := Int.eq_ofNat_of_zero_le hq.1
            rw [has_nat _ k (by omega)]
            exact wayN_self n (f, r) HFR.out.1 HFR.out.2 k (by omega)
          · rw [wayN_far q (f, r) n hq, Nat.zero_and]
            rfl
        rw [e] at this
        exact this)
      have HY : Hid (∀ y : Int, 0 ≤ y → y < 81 → (wayN q (f, r) n).testBit y.toNat = true → ∀ W, Calls Tryd.prog 13 #[.agg #[.int .u64 xa, .int .u64 ya], .int .i64 y] W fun e w' => e = .returned (.bool true) ∧ Below W.heap.size W w') := Lib.hid (fun y h0 h1 hbit W => by
        have := has_any (wayN q (f, r) n) y (wayN_sq _ _ _) W
        obtain ⟨k, rfl⟩ := Int.eq_ofNat_of_zero_le h0
        rw [HX.out.1.1, HX.out.1.2, has_nat _ k (by omega), show (wayN q (f, r) n).testBit k = true from hbit] at this
        exact this)
      have HL : Hid (∀ x ∈ sqI (wayN q (f, r) n), fromF (wrap64 (-f), wrap64 (-r)) x = q ∨ (0 ≤ fromF (wrap64 (-f), wrap64 (-r)) x ∧ fromF (wrap64 (-f), wrap64 (-r)) x < 81 ∧ (wayN q (f, r) n).testBit (fromF (wrap64 (-f), wrap64 (-r)) x).toNat = true)) := Lib.hid (fun x hx => by
        have hx' := hx
        unfold sqI at hx'
        obtain ⟨i, hi, rfl⟩ := List.mem_map.1 hx'
        exact way_back q (f, r) n i HFR.out.1 HFR.out.2 ((mem_sqI _ i).1 hx).2)
      have hT' := HT.out.grow BY.out
      have SQ' := Lib.hid (fun (W : World) (hb : Below wy.heap.size wy W) => SQ.out W (hT'.grow hb) (by have := hb.size; omega))
      have h0 : f = 0 ∧ r = 0 → wayN q (f, r) n = 0 := fun h => by
        unfold wayN
        rw [if_pos h]
      have EA : Hid (f = 0 ∧ r = 0 → ∀ W, Calls Tryd.prog 10 #[.agg #[.int .u64 xa, .int .u64 ya]] W fun e w' => e = .returned (.bool true) ∧ Below W.heap.size W w') := Lib.hid (fun h W => by
        have := empty_any 0 W
        rw [← h0 h, HX.out.1.1, HX.out.1.2, h0 h] at this
        exact this)
      have hlen := sqI_le (wayN q (f, r) n)
      clear hT' SQ HT h0 HX
      generalize sqI (wayN q (f, r) n) = L at SQ' HL hlen
      go_wp2_with (first
        | (go_at_call 9; refine (MI.out _).mono ?_; rintro e w5 ⟨rfl, hb5⟩; obtain ⟨hc5, hf5⟩ := bcells hb5; have hz5 : wy.heap.size ≤ w5.heap.size := hb5.size; have z5a : pa < w5.heap.size := (by omega); have z5f : bf < w5.heap.size := (by omega); have z5d : w.heap.size < w5.heap.size := (by omega))
        | (go_at_call 10; refine (EM.out _).mono ?_; rintro e w6 ⟨rfl, hb6⟩; obtain ⟨hc6, hf6⟩ := bcells hb6; have hz6 : w5.heap.size ≤ w6.heap.size := hb6.size; have z6a : pa < w6.heap.size := (by omega); have z6f : bf < w6.heap.size := (by omega); have z6d : w.heap.size < w6.heap.size := (by omega))
        | (go_at_call 11; refine (AN.out _).mono ?_; rintro e w7 ⟨rfl, hb7⟩; obtain ⟨hc7, hf7⟩ := bcells hb7; have hz7 : w6.heap.size ≤ w7.heap.size := hb7.size; have z7a : pa < w7.heap.size := (by omega); have z7d : w.heap.size < w7.heap.size := (by omega))
        | (go_at_call 12; refine (CN.out _).mono ?_; rintro e w8 ⟨rfl, hb8⟩; obtain ⟨hc8, hf8⟩ := bcells hb8; have hz8 : w7.heap.size ≤ w8.heap.size := hb8.size; have z8a : pa < w8.heap.size := (by omega); have z8d : w.heap.size < w8.heap.size := (by omega))
        | (go_at_call 13; refine (HQ.out _).mono ?_; rintro e w9 ⟨rfl, hb9⟩; obtain ⟨hc9, hf9⟩ := bcells hb9; have hz9 : w8.heap.size ≤ w9.heap.size := hb9.size; have z9a : pa < w9.heap.size := (by omega); have z9d : w.heap.size < w9.heap.size := (by omega))
        | (go_at_call 14; refine (SQ'.out _ (bthen (bthen (bthen (bthen hb5 hb6) hb7) hb8) hb9)).mono ?_; rintro e w10 ⟨v, rfl, hO, hb10⟩; obtain ⟨o, cap, rfl, hsl⟩ := own_slice hO))
      have BZ := bthen (bthen (bthen (bthen (bthen hb5 hb6) hb7) hb8) hb9) hb10
      have a0 := (BZ.cell (p := ⟨pa, 0, none⟩) za).trans a0
      have a1 := (BZ.cell (p := ⟨pa, 1, none⟩) za).trans a1
      have d0 := (BZ.cell (p := ⟨w.heap.size, 0, none⟩) zd).trans d0'
      have d1 := (BZ.cell (p := ⟨w.heap.size, 1, none⟩) zd).trans d1'
      have za := Nat.lt_of_lt_of_le za BZ.size
      have zd := Nat.lt_of_lt_of_le zd BZ.size
      have BY2 := Lib.hid (bthen BY.out BZ)
      have HSL := Lib.hid hsl
      clear hsl hO hb5 hb6 hb7 hb8 hb9 hb10 hc5 hc6 hc7 hc8 hc9 hf5 hf6 hf7 hf8 hf9 hz5 hz6 hz7 hz8 hz9 z5a z5f z5d z6a z6f z6d z7a z7d z8a z8d z9a z9d BZ BY MI AN CN HQ SQ' hpc d0' d1' f0' f1' b0 b1 zb zf EM
      go_loopw [54] (fun i wr => ∃ j : Nat, j ≤ L.length ∧ i = .int .i64 j ∧ Below w10.heap.size w10 wr) (fun i _ => L.length - (intOf i).toNat)
      case atStart => exact ⟨0, Nat.zero_le _, rfl, bref _⟩
      case round =>
        obtain ⟨j, hj, rfl, hW⟩ := hrel
        have A0 := (hW.cell (p := ⟨pa, 0, none⟩) za).trans a0
        have A1 := (hW.cell (p := ⟨pa, 1, none⟩) za).trans a1
        have D0 := (hW.cell (p := ⟨w.heap.size, 0, none⟩) zd).trans d0
        have D1 := (hW.cell (p := ⟨w.heap.size, 1, none⟩) zd).trans d1
        have za' := Nat.lt_of_lt_of_le za hW.size
        have zd' := Nat.lt_of_lt_of_le zd hW.size
        clear a0 a1 d0 d1
        have HW := Lib.hid hW
        by_cases hlt : j < L.length
        · obtain ⟨g, rfl, hg, hc⟩ := HSL.out j hlt
          have c1 := (hW.cell (p := ⟨g, 0 + j, none⟩) hg).trans hc
          have hl := HL.out _ (List.getElem_mem hlt)
          rw [Nat.zero_add] at c1
          have FX := Lib.hid (fun W => from_any (wrap64 (-f)) (wrap64 (-r)) L[j] W)
          clear hW hc za zd
          generalize L[j] = x at c1 hl FX
          generalize fromF (wrap64 (-f), wrap64 (-r)) x = y at hl FX
          by_cases hy : y = q
          · subst hy
            clear hl
            go_wp2_with (first
              | (go_at_call 15; refine (FX.out _).mono ?_; rintro e w5 ⟨rfl, hb5⟩))
            go_roundw
            case rel => exact ⟨j + 1, by omega, by go_num, bthen HW.out hb5⟩
            case measure => simp [intOf]; omega
          · have hl' := hl.resolve_left hy
            have HYy := Lib.hid (fun W => HY.out y hl'.1 hl'.2.1 hl'.2.2 W)
            clear hl hl'
            go_wp2_with (first
              | (go_at_call 15; refine (FX.out _).mono ?_; rintro e w5 ⟨rfl, hb5⟩; obtain ⟨hc5, hf5⟩ := bcells hb5; have z5a : pa < w5.heap.size := by (have := hb5.size; omega))
              | (go_at_call 13; refine (HYy.out _).mono ?_; rintro e w6 ⟨rfl, hb6⟩))
            go_roundw
            case rel => exact ⟨j + 1, by omega, by go_num, bthen (bthen HW.out hb5) hb6⟩
            case measure => simp [intOf]; omega
        · obtain rfl : j = L.length := by omega
          clear hW
          by_cases hd : f = 0 ∧ r = 0
          · have EA' := Lib.hid (EA.out hd)
            obtain ⟨rfl, rfl⟩ := hd
            go_wp2_with (first
              | (go_at_call 10; refine (EA'.out _).mono ?_; rintro e w5 ⟨rfl, hb5⟩))
            go_ret
            exact ⟨rfl, bthen (bthen BY2.out HW.out) hb5⟩
          · go_wp2_with fail
            all_goals first | (exfalso; omega) | (go_ret; exact ⟨rfl, bthen BY2.out HW.out⟩)
end Go.Proofs.YtnmekghjkajhcaaDoor.rayWays
