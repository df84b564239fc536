/-
  The ray package's Between.
-/
import Derived.Test.YtnmekghjkajhcaaDoorRayHead
import Derived.Test.YtnmekghjkajhcaaDoorLine2
namespace Go.Proofs.YtnmekghjkajhcaaDoor
open Go.RowKit
set_option linter.unusedVariables false
set_option linter.unusedSimpArgs false

theorem nan_any (n : Int) (w : World) : Calls Tryd.prog 47 #[.int .i64 n] w fun e w' => e = .returned (.bool false) ∧ w = w' := by
  have h : (n != n) = false := by simp
  go_enter Tryd.func47, Tryd.ntmps47
  go_wp2
  go_ret
  exact ⟨by first | rfl | simp, rfl⟩
theorem compare_any (n : Int) (w : World) : Calls Tryd.prog 46 #[.int .i64 n, .int .i64 0] w fun e w' => e = .returned (.int .i64 (sgnF n)) ∧ w = w' := by
  have N := Lib.hid (fun n W => nan_any n W)
  unfold sgnF
  rcases (show n < 0 ∨ (¬ n < 0 ∧ 0 < n) ∨ (¬ n < 0 ∧ ¬ 0 < n) by omega) with h | ⟨h, h2⟩ | ⟨h, h2⟩
  · rw [if_pos h]
    go_enter Tryd.func46, Tryd.ntmps46
    go_wp2_with (go_at_call 47; refine (N.out _ _).mono ?_; rintro e w1 ⟨rfl, rfl⟩)
    go_ret
    exact ⟨rfl, rfl⟩
  · rw [if_neg h, if_pos h2]
    go_enter Tryd.func46, Tryd.ntmps46
    go_wp2_with (go_at_call 47; refine (N.out _ _).mono ?_; rintro e w1 ⟨rfl, rfl⟩)
    go_ret
    exact ⟨rfl, rfl⟩
  · rw [if_neg h, if_neg h2]
    go_enter Tryd.func46, Tryd.ntmps46
    go_wp2_with (go_at_call 47; refine (N.out _ _).mono ?_; rintro e w1 ⟨rfl, rfl⟩)
    go_ret
    exact ⟨rfl, rfl⟩
def fileG (q : Int) : Int := wrap64 (q.tdiv 9)
def rankG (q : Int) : Int := q.tmod 9
theorem fileG_in (q : Int) (h : 0 ≤ q ∧ q ≤ 80) : fileG q = q / 9 := by
  unfold fileG
  rw [Int.tdiv_eq_ediv_of_nonneg h.1]
  unfold wrap64
  omega
theorem rankG_in (q : Int) (h : 0 ≤ q ∧ q ≤ 80) : rankG q = q % 9 := by
  unfold rankG
  exact Int.tmod_eq_emod_of_nonneg h.1
theorem file_gen (q : Int) (w : World) : Calls Tryd.prog 32 #[.int .i64 q] w fun e w' => e = .returned (.int .i64 (fileG q)) ∧ w = w' := by
  unfold fileG
  go_enter Tryd.func32, Tryd.ntmps32
  go_wp2
  go_ret
  exact ⟨by first | rfl | simp, rfl⟩
theorem rank_gen (q : Int) (w : World) : Calls Tryd.prog 33 #[.int .i64 q] w fun e w' => e = .returned (.int .i64 (rankG q)) ∧ w = w' := by
  unfold rankG
  go_enter Tryd.func33, Tryd.ntmps33
  go_wp2
  go_ret
  exact ⟨by first | rfl | simp, rfl⟩
/-- The way on which a slide comes from any number to another one, as the program reckons it. -/
def dirG (a b : Int) : Int × Int :=
  if IntKind.i64.wrap (fileG b - fileG a) ≠ 0 ∧ IntKind.i64.wrap (rankG b - rankG a) ≠ 0 ∧ IntKind.i64.wrap (fileG b - fileG a) ≠ IntKind.i64.wrap (rankG b - rankG a) ∧ IntKind.i64.wrap (fileG b - fileG a) ≠ IntKind.i64.wrap (-IntKind.i64.wrap (rankG b - rankG a)) then (0, 0)
  else (sgnF (IntKind.i64.wrap (fileG b - fileG a)), sgnF (IntKind.i64.wrap (rankG b - rankG a)))
theorem dirG_small (a b : Int) : I64 (dirG a b).1 ∧ I64 (dirG a b).2 := by
  unfold dirG I64
  split
  · exact ⟨by decide, by decide⟩
  · have := sgn_bd (IntKind.i64.wrap (fileG b - fileG a))
    have := sgn_bd (IntKind.i64.wrap (rankG b - rankG a))
    exact ⟨by omega, by omega⟩
theorem dirG_in (a b : Int) (ha : 0 ≤ a ∧ a ≤ 80) (hb : 0 ≤ b ∧ b ≤ 80) : dirG a b = towardF a b := by
  unfold dirG towardF dirF
  rw [fileG_in a ha, fileG_in b hb, rankG_in a ha, rankG_in b hb]
  have e1 : IntKind.i64.wrap (b / 9 - a / 9) = b / 9 - a / 9 := by rw [IntKind.wrap_i64]; omega
  have e2 : IntKind.i64.wrap (b % 9 - a % 9) = b % 9 - a % 9 := by rw [IntKind.wrap_i64]; omega
  have e3 : IntKind.i64.wrap (-(b % 9 - a % 9)) = -(b % 9 - a % 9) := by rw [IntKind.wrap_i64]; omega
  rw [e1, e2, e3]
set_option maxHeartbeats 1000000 in
theorem toward_any (a b : Int) (w : World) : Calls Tryd.prog 42 #[.int .i64 a, .int .i64 b] w fun e w' => e = .returned (.agg #[.int .i64 (dirG a b).1, .int .i64 (dirG a b).2]) ∧ Below w.heap.size w w' := by
  have FI := Lib.hid (fun q W => file_gen q W)
  have RI := Lib.hid (fun q W => rank_gen q W)
  have CM := Lib.hid (fun n W => compare_any n W)
  unfold dirG
  generalize hF : IntKind.i64.wrap (fileG b - fileG a) = F
  generalize hR : IntKind.i64.wrap (rankG b - rankG a) = R
  generalize hN : IntKind.i64.wrap (-R) = N
  have hb : ∀ x y : Int, x = y → (x != y) = false := fun x y h => by simpa using h
  have hn : ∀ x y : Int, x ≠ y → (x != y) = true := fun x y h => by rw [bne_iff_ne]; exact h
  have HB := Lib.hid hb
  have HN := Lib.hid hn
  clear hb hn
  rcases (show F = 0 ∨ (F ≠ 0 ∧ R = 0) ∨ (F ≠ 0 ∧ R ≠ 0 ∧ F = R) ∨ (F ≠ 0 ∧ R ≠ 0 ∧ F ≠ R ∧ F = N) ∨ (F ≠ 0 ∧ R ≠ 0 ∧ F ≠ R ∧ F ≠ N) by omega) with c | ⟨c, d⟩ | ⟨c, d, e⟩ | ⟨c, d, e, f⟩ | ⟨c, d, e, f⟩
  · rw [if_neg (fun h => h.1 c)]
    have t1 := HB.out _ _ c
    clear HB HN c
    go_enter Tryd.func42, Tryd.ntmps42
    go_wp2_with (first | (go_at_call 32; refine (FI.out _ _).mono ?_; rintro e w1 ⟨rfl, rfl⟩) | (go_at_call 33; refine (RI.out _ _).mono ?_; rintro e w1 ⟨rfl, rfl⟩) | (go_at_call 46; refine (CM.out _ _).mono ?_; rintro e w1 ⟨rfl, rfl⟩))
    exact bodyPost_ret (v := .agg #[.int .i64 (sgnF F), .int .i64 (sgnF R)]) (by simp [results, Tryd.results42, go_sem]) rfl ⟨rfl, by first | exact ball (bref w) _ | exact (ball (bref w) _).setCell (Nat.le_refl _) _ | exact ((ball (bref w) _).setCell (Nat.le_refl _) _).setCell (Nat.le_refl _) _⟩
  · rw [if_neg (fun h => h.2.1 d)]
    have t1 := HN.out _ _ c
    have t2 := HB.out _ _ d
    clear HB HN c d
    go_enter Tryd.func42, Tryd.ntmps42
    go_wp2_with (first | (go_at_call 32; refine (FI.out _ _).mono ?_; rintro e w1 ⟨rfl, rfl⟩) | (go_at_call 33; refine (RI.out _ _).mono ?_; rintro e w1 ⟨rfl, rfl⟩) | (go_at_call 46; refine (CM.out _ _).mono ?_; rintro e w1 ⟨rfl, rfl⟩))
    exact bodyPost_ret (v := .agg #[.int .i64 (sgnF F), .int .i64 (sgnF R)]) (by simp [results, Tryd.results42, go_sem]) rfl ⟨rfl, by first | exact ball (bref w) _ | exact (ball (bref w) _).setCell (Nat.le_refl _) _ | exact ((ball (bref w) _).setCell (Nat.le_refl _) _).setCell (Nat.le_refl _) _⟩
  · rw [if_neg (fun h => h.2.2.1 e)]
    have t1 := HN.out _ _ c
    have t2 := HN.out _ _ d
    have t3 := HB.out _ _ e
    clear HB HN c d e
    go_enter Tryd.func42, Tryd.ntmps42
    go_wp2_with (first | (go_at_call 32; refine (FI.out _ _).mono ?_; rintro e w1 ⟨rfl, rfl⟩) | (go_at_call 33; refine (RI.out _ _).mono ?_; rintro e w1 ⟨rfl, rfl⟩) | (go_at_call 46; refine (CM.out _ _).mono ?_; rintro e w1 ⟨rfl, rfl⟩))
    exact bodyPost_ret (v := .agg #[.int .i64 (sgnF F), .int .i64 (sgnF R)]) (by simp [results, Tryd.results42, go_sem]) rfl ⟨rfl, by first | exact ball (bref w) _ | exact (ball (bref w) _).setCell (Nat.le_refl _) _ | exact ((ball (bref w) _).setCell (Nat.le_refl _) _).setCell (Nat.le_refl _) _⟩
  · rw [if_neg (fun h => h.2.2.2 f)]
    have t1 := HN.out _ _ c
    have t2 := HN.out _ _ d
    have t3 := HN.out _ _ e
    have t4 := HB.out _ _ f
    clear HB HN c d e f
    go_enter Tryd.func42, Tryd.ntmps42
    go_wp2_with (first | (go_at_call 32; refine (FI.out _ _).mono ?_; rintro e w1 ⟨rfl, rfl⟩) | (go_at_call 33; refine (RI.out _ _).mono ?_; rintro e w1 ⟨rfl, rfl⟩) | (go_at_call 46; refine (CM.out _ _).mono ?_; rintro e w1 ⟨rfl, rfl⟩))
    exact bodyPost_ret (v := .agg #[.int .i64 (sgnF F), .int .i64 (sgnF R)]) (by simp [results, Tryd.results42, go_sem]) rfl ⟨rfl, by first | exact ball (bref w) _ | exact (ball (bref w) _).setCell (Nat.le_refl _) _ | exact ((ball (bref w) _).setCell (Nat.le_refl _) _).setCell (Nat.le_refl _) _⟩
  · rw [if_pos ⟨c, d, e, f⟩]
    have t1 := HN.out _ _ c
    have t2 := HN.out _ _ d
    have t3 := HN.out _ _ e
    have t4 := HN.out _ _ f
    clear HB HN c d e f
    go_enter Tryd.func42, Tryd.ntmps42
    go_wp2_with (first | (go_at_call 32; refine (FI.out _ _).mono ?_; rintro e w1 ⟨rfl, rfl⟩) | (go_at_call 33; refine (RI.out _ _).mono ?_; rintro e w1 ⟨rfl, rfl⟩) | (go_at_call 46; refine (CM.out _ _).mono ?_; rintro e w1 ⟨rfl, rfl⟩))
    exact bodyPost_ret (v := .agg #[.int .i64 0, .int .i64 0]) (by simp [results, Tryd.results42, go_sem]) rfl ⟨rfl, by first | exact ball (bref w) _ | exact (ball (bref w) _).setCell (Nat.le_refl _) _ | exact ((ball (bref w) _).setCell (Nat.le_refl _) _).setCell (Nat.le_refl _) _⟩
def betN (a b : Int) : Nat := if 0 ≤ b ∧ b ≤ 80 then minusN (wayN a (dirG a b) (oneN b)) (oneN b) else 0
theorem betN_sq (a b : Int) : Sq (betN a b) := by
  unfold betN
  split
  · exact (wayN_sq _ _ _).minus
  · exact Sq.zero
theorem oneN_no (b : Int) (h : ¬ (0 ≤ b ∧ b ≤ 80)) : oneN b = 0 := by
  unfold oneN
  exact if_neg (by omega)
theorem oneN_pos (b : Int) (h : 0 ≤ b ∧ b ≤ 80) : oneN b ≠ 0 := by
  unfold oneN
  rw [if_pos (by omega)]
  exact Nat.ne_of_gt (Nat.two_pow_pos _)
set_option maxHeartbeats 2000000 in
theorem between_any (a b : Int) (w : World) : Calls Tryd.prog 24 #[.int .i64 a, .int .i64 b] w fun e w' => e = .returned (.agg #[.int .u64 (loW (betN a b)), .int .u64 (hiW (betN a b))]) ∧ Below w.heap.size w w' := by
  have O1 := Lib.hid (fun (g cap : Nat) (W : World) (hg : g < W.heap.size) (h : ∀ (j : Nat) (hj : j < ([b] : List Int).length), W.cell? ⟨g, 0 + j, none⟩ = some (.int .i64 ([b] : List Int)[j])) => of_any g 0 cap [b] W (by simp) hg h)
  rw [show ofN [b] = oneN b by simp [ofN]] at O1
  have EM := Lib.hid (fun W => empty_any (oneN b) W)
  unfold betN
  by_cases hb : 0 ≤ b ∧ b ≤ 80
  · rw [if_pos hb]
    rw [decide_eq_false (oneN_pos b hb)] at EM
    have TW := Lib.hid (fun W => toward_any a b W)
    have WY := Lib.hid (fun W => way_any a (dirG a b).1 (dirG a b).2 (oneN b) (dirG_small a b).1 (dirG_small a b).2 (oneN_sq b) W)
    rw [show wayN a ((dirG a b).1, (dirG a b).2) (oneN b) = wayN a (dirG a b) (oneN b) from rfl] at WY
    have MN := Lib.hid (fun W => minus_any (wayN a (dirG a b) (oneN b)) (oneN b) (wayN_sq _ _ _) (oneN_sq b) W)
    generalize loW (minusN (wayN a (dirG a b) (oneN b)) (oneN b)) = xm at MN ⊢
    generalize hiW (minusN (wayN a (dirG a b) (oneN b)) (oneN b)) = ym at MN ⊢
    generalize loW (wayN a (dirG a b) (oneN b)) = xw at WY MN
    generalize hiW (wayN a (dirG a b) (oneN b)) = yw at WY MN
    generalize loW (oneN b) = x at O1 EM WY MN
    generalize hiW (oneN b) = y at O1 EM WY MN
    generalize (dirG a b).1 = df at TW WY
    generalize (dirG a b).2 = dr at TW WY
    clear hb
    go_enter Tryd.func24, Tryd.ntmps24
    go_wp2_with fail
    refine (O1.out (w.heap.size + 1) 1 _ (by simp) ?_).mono ?_
    · intro j hj
      obtain rfl : j = 0 := by simpa using hj
      show _ = some (Value.int .i64 b)
      go_simp
    rintro e w1 ⟨rfl, hb1⟩
    have V1 : Var w1 w.heap.size 0 0 := Var.grow ⟨by simp <;> omega, by go_simp, by go_simp, by go_simp, by go_simp⟩ hb1
    have hbw : Below w.heap.size w w1 := bthen (ball (ball (bref w) _) _) hb1
    clear hb1 O1
    go_wp2_with (go_at_call 10; refine (EM.out _).mono ?_; rintro e w2 ⟨rfl, hb2⟩)
    have c0 : w2.cell? ⟨w1.heap.size, 0, none⟩ = some (.int .u64 x) := (hb2.cell (p := ⟨w1.heap.size, 0, none⟩) (by simp)).trans (by go_simp)
    have c1 : w2.cell? ⟨w1.heap.size, 1, none⟩ = some (.int .u64 y) := (hb2.cell (p := ⟨w1.heap.size, 1, none⟩) (by simp)).trans (by go_simp)
    have V0 : Var w2 w.heap.size 0 0 := V1.grow (bthen (ball (bref w1) _) hb2)
    have hbe : w1.heap.size < w2.heap.size := by have := hb2.size; simp at this; omega
    have hne : w.heap.size < w1.heap.size := V1.lt
    have BB := Lib.hid (bthen (ball hbw _) hb2)
    clear hb2 V1 hbw
    · have HBW := Lib.hid BB.out
      generalize hb0 : w.heap.size = b0 at V0 hne ⊢
      generalize w1.heap.size = be at *
      obtain ⟨wr, hwr⟩ : ∃ W, W = w2 := ⟨_, rfl⟩
      subst hwr
      have hlt0 : b0 < wr.heap.size := by omega
      refine wp_region_held_drew (S := fun w' => Below b0 wr w' ∧ be < w'.heap.size ∧ w'.cell? ⟨be, 0, none⟩ = some (.int .u64 x) ∧ w'.cell? ⟨be, 1, none⟩ = some (.int .u64 y) ∧ ∃ u v, Var w' b0 u v) (by kernel_rfl) ?_ (fun hHeld => ?_)
      · exact ⟨((bref wr).mono (Nat.le_of_lt hlt0)).drew, hbe, c0, c1, 0, 0, V0.grow (bref wr).drew⟩
      refine wpAnyH_take (i := 0) (v := ?v1) rfl (by kernel_rfl) (by kernel_rfl) (by kernel_rfl) (fun _ _ _ h => h) (Or.inl ⟨by rfl, ?y1⟩) (by assumption) ?r1
      case y1 => (intro w hSw; (go_simp <;> first | with_reducible rfl | (rw [if_pos (by omega)] <;> with_reducible rfl)))
      try simp only [Act.put, List.getElem_toArray, List.getElem_cons_zero, List.getElem_cons_succ, List.setIfInBounds_toArray, List.set_cons_zero, List.set_cons_succ]
      refine wpAnyH_take (i := 1) (v := ?v2) rfl (by kernel_rfl) (by kernel_rfl) (by kernel_rfl) (fun _ _ _ h => h) (Or.inl ⟨by rfl, ?y2⟩) (by assumption) ?r2
      case y2 => (intro w hSw; (go_simp <;> first | with_reducible rfl | (rw [if_pos (by omega)] <;> with_reducible rfl)))
      try simp only [Act.put, List.getElem_toArray, List.getElem_cons_zero, List.getElem_cons_succ, List.setIfInBounds_toArray, List.set_cons_zero, List.set_cons_succ]
      refine wpAnyH_take (i := 2) (v := ?v3) rfl (by kernel_rfl) (by kernel_rfl) (by kernel_rfl) (fun _ _ _ h => h) (Or.inl ⟨by rfl, ?y3⟩) (by assumption) ?r3
      case y3 => (intro w hSw; (go_simp <;> first | with_reducible rfl | (rw [if_pos (by omega)] <;> with_reducible rfl)))
      try simp only [Act.put, List.getElem_toArray, List.getElem_cons_zero, List.getElem_cons_succ, List.setIfInBounds_toArray, List.set_cons_zero, List.set_cons_succ]
      refine wpAnyH_take (i := 4) (v := ?v4) rfl (by kernel_rfl) (by kernel_rfl) (by kernel_rfl) (fun _ _ _ h => h) (Or.inl ⟨by rfl, ?y4⟩) (by assumption) ?r4
      case y4 => (intro w hSw; (go_simp <;> first | with_reducible rfl | (rw [if_pos (by omega)] <;> with_reducible rfl)))
      try simp only [Act.put, List.getElem_toArray, List.getElem_cons_zero, List.getElem_cons_succ, List.setIfInBounds_toArray, List.set_cons_zero, List.set_cons_succ]
      refine wpAnyH_take (i := 6) (v := ?v5) rfl (by kernel_rfl) (by kernel_rfl) (by kernel_rfl) (fun _ _ _ h => h) (Or.inl ⟨by rfl, ?y5⟩) (by assumption) ?r5
      case y5 => (intro w hSw; (go_simp <;> first | with_reducible rfl | (rw [if_pos (by omega)] <;> with_reducible rfl)))
      try simp only [Act.put, List.getElem_toArray, List.getElem_cons_zero, List.getElem_cons_succ, List.setIfInBounds_toArray, List.set_cons_zero, List.set_cons_succ]
      refine wpAnyH_ready (rs := [3]) (by kernel_rfl) (by simp) ?_
      refine AllReadyH.cons rfl (fun K hK => ?_) AllReadyH.nil
      rw [if_pos (by rfl)]
      go_simp
      go_at_call 42
      refine (TW.out _).mono ?_
      rintro e wn ⟨rfl, hb⟩
      refine hK.out _ _ (⟨hHeld.1.trans (hb.mono (Nat.le_of_lt (Nat.lt_trans hne hHeld.2.1))), Nat.lt_of_lt_of_le hHeld.2.1 hb.size, (hb.cell (p := ⟨be, 0, none⟩) hHeld.2.1).trans hHeld.2.2.1, (hb.cell (p := ⟨be, 1, none⟩) hHeld.2.1).trans hHeld.2.2.2.1, hHeld.2.2.2.2.imp fun u h => h.imp fun v h => h.grow hb⟩) (fun hHeld => ?_)
      clear hK K
      try simp only [Act.put, List.getElem_toArray, List.getElem_cons_zero, List.getElem_cons_succ, List.setIfInBounds_toArray, List.set_cons_zero, List.set_cons_succ]
      refine wpAnyH_ready (rs := [5]) (by kernel_rfl) (by simp) ?_
      refine AllReadyH.cons rfl (fun K hK => ?_) AllReadyH.nil
      rw [if_pos (by rfl)]
      go_simp
      go_at_call 8
      refine (WY.out _).mono ?_
      rintro e wn ⟨rfl, hb⟩
      refine hK.out _ _ (⟨hHeld.1.trans (hb.mono (Nat.le_of_lt (Nat.lt_trans hne hHeld.2.1))), Nat.lt_of_lt_of_le hHeld.2.1 hb.size, (hb.cell (p := ⟨be, 0, none⟩) hHeld.2.1).trans hHeld.2.2.1, (hb.cell (p := ⟨be, 1, none⟩) hHeld.2.1).trans hHeld.2.2.2.1, hHeld.2.2.2.2.imp fun u h => h.imp fun v h => h.grow hb⟩) (fun hHeld => ?_)
      clear hK K
      try simp only [Act.put, List.getElem_toArray, List.getElem_cons_zero, List.getElem_cons_succ, List.setIfInBounds_toArray, List.set_cons_zero, List.set_cons_succ]
      refine wpAnyH_ready (rs := [7]) (by kernel_rfl) (by simp) ?_
      refine AllReadyH.cons rfl (fun K hK => ?_) AllReadyH.nil
      rw [if_pos (by rfl)]
      go_simp
      go_at_call 9
      refine (MN.out _).mono ?_
      rintro e wn ⟨rfl, hb⟩
      refine hK.out _ _ (⟨hHeld.1.trans (hb.mono (Nat.le_of_lt (Nat.lt_trans hne hHeld.2.1))), Nat.lt_of_lt_of_le hHeld.2.1 hb.size, (hb.cell (p := ⟨be, 0, none⟩) hHeld.2.1).trans hHeld.2.2.1, (hb.cell (p := ⟨be, 1, none⟩) hHeld.2.1).trans hHeld.2.2.2.1, hHeld.2.2.2.2.imp fun u h => h.imp fun v h => h.grow hb⟩) (fun hHeld => ?_)
      clear hK K
      try simp only [Act.put, List.getElem_toArray, List.getElem_cons_zero, List.getElem_cons_succ, List.setIfInBounds_toArray, List.set_cons_zero, List.set_cons_succ]
      refine wpAnyH_ready (rs := [8]) (by kernel_rfl) (by simp) ?_
      refine AllReadyH.cons rfl (fun K hK => ?_) AllReadyH.nil
      rw [if_pos (by rfl)]
      obtain ⟨u, v, hV⟩ := hHeld.2.2.2.2
      have l0 := hV.lo
      have l1 := hV.hi
      have l2 := hV.f0
      have l3 := hV.f1
      have BQ := Lib.hid hHeld.1
      have k1 := Lib.hid hHeld.2.1
      have k2 := Lib.hid hHeld.2.2.1
      have k3 := Lib.hid hHeld.2.2.2.1
      go_simp
      refine hK.out _ _ (⟨(BQ.out.setCell (Nat.le_refl _) _).setCell (Nat.le_refl _) _, by simpa using k1.out, by have := k2.out; go_simp, by have := k3.out; go_simp, _, _, hV.put xm ym⟩) (fun hHeld => ?_)
      clear hK K
      try simp only [Act.put, List.getElem_toArray, List.getElem_cons_zero, List.getElem_cons_succ, List.setIfInBounds_toArray, List.set_cons_zero, List.set_cons_succ]
      refine wpAnyH_done (by kernel_rfl) ?_ _
      go_wp2
      exact bodyPost_ret (v := .agg #[.int .u64 xm, .int .u64 ym]) (by simp [results, Tryd.results24, go_sem, l0, l1, l2, l3]) rfl ⟨rfl, hb0 ▸ (BB.out.trans (hb0 ▸ hHeld.1))⟩
  · rw [if_neg hb]
    rw [oneN_no b hb] at O1 EM
    rw [lo_zero, hi_zero] at O1 EM ⊢
    rw [show decide (0 = 0) = true from rfl] at EM
    go_enter Tryd.func24, Tryd.ntmps24
    go_wp2_with fail
    refine (O1.out (w.heap.size + 1) 1 _ (by simp) ?_).mono ?_
    · intro j hj
      obtain rfl : j = 0 := by simpa using hj
      show _ = some (Value.int .i64 b)
      go_simp
    rintro e w1 ⟨rfl, hb1⟩
    have V1 : Var w1 w.heap.size 0 0 := Var.grow ⟨by simp <;> omega, by go_simp, by go_simp, by go_simp, by go_simp⟩ hb1
    have hbw : Below w.heap.size w w1 := bthen (ball (ball (bref w) _) _) hb1
    clear hb1 O1
    go_wp2_with (first
      | (go_at_call 10; refine (EM.out _).mono ?_; rintro e w2 ⟨rfl, hb2⟩
         have c0 : w2.cell? ⟨w1.heap.size, 0, none⟩ = some (.int .u64 0) := (hb2.cell (p := ⟨w1.heap.size, 0, none⟩) (by simp)).trans (by go_simp)
         have c1 : w2.cell? ⟨w1.heap.size, 1, none⟩ = some (.int .u64 0) := (hb2.cell (p := ⟨w1.heap.size, 1, none⟩) (by simp)).trans (by go_simp)
         have V0 : Var w2 w.heap.size 0 0 := V1.grow (bthen (ball (bref w1) _) hb2)
         have l0 := V0.lo
         have l1 := V0.hi
         have l2 := V0.f0
         have l3 := V0.f1))
    exact bodyPost_ret (v := .agg #[.int .u64 0, .int .u64 0]) (by simp [results, Tryd.results24, go_sem, l0, l1, l2, l3]) rfl ⟨rfl, ((bthen (ball hbw _) hb2).setCell (Nat.le_refl _) _).setCell (Nat.le_refl _) _⟩
end Go.Proofs.YtnmekghjkajhcaaDoor
