/-
  The walk of the law KeyApart: for every two names it returns true.
-/
import Derived.Test.YtmpjjdlohneiiaaKeyApart1
import Derived.Deep.RegionHeld3
import Derived.Laws.StructEq
namespace Go.Proofs.Ytmpjjdlohneiiaa.keyApart
open Go.RowKit
set_option linter.unusedVariables false
set_option linter.unusedSimpArgs false

theorem held6_fst {wc W : World} {s t : Nat} {v0 v1 v2 u0 u1 u2 : Value} (h : Below wc.heap.size wc W ∧ s < W.heap.size ∧ t < W.heap.size ∧ W.cell? ⟨s, 0, none⟩ = some v0 ∧ W.cell? ⟨s, 1, none⟩ = some v1 ∧ W.cell? ⟨s, 2, none⟩ = some v2 ∧ W.cell? ⟨t, 0, none⟩ = some u0 ∧ W.cell? ⟨t, 1, none⟩ = some u1 ∧ W.cell? ⟨t, 2, none⟩ = some u2) : Below wc.heap.size wc W := h.1
theorem held6_step {wc W w' : World} {s t : Nat} {v0 v1 v2 u0 u1 u2 : Value} (h : Below wc.heap.size wc W ∧ s < W.heap.size ∧ t < W.heap.size ∧ W.cell? ⟨s, 0, none⟩ = some v0 ∧ W.cell? ⟨s, 1, none⟩ = some v1 ∧ W.cell? ⟨s, 2, none⟩ = some v2 ∧ W.cell? ⟨t, 0, none⟩ = some u0 ∧ W.cell? ⟨t, 1, none⟩ = some u1 ∧ W.cell? ⟨t, 2, none⟩ = some u2) (hb : Below W.heap.size W w') :
    Below wc.heap.size wc w' ∧ s < w'.heap.size ∧ t < w'.heap.size ∧ w'.cell? ⟨s, 0, none⟩ = some v0 ∧ w'.cell? ⟨s, 1, none⟩ = some v1 ∧ w'.cell? ⟨s, 2, none⟩ = some v2 ∧ w'.cell? ⟨t, 0, none⟩ = some u0 ∧ w'.cell? ⟨t, 1, none⟩ = some u1 ∧ w'.cell? ⟨t, 2, none⟩ = some u2 := by
  obtain ⟨h0, hs, ht, a, b, c, d, e, f⟩ := h
  have hz := hb.size
  exact ⟨bthen h0 hb, by omega, by omega, (hb.cell (p := ⟨s, 0, none⟩) hs).trans a, (hb.cell (p := ⟨s, 1, none⟩) hs).trans b, (hb.cell (p := ⟨s, 2, none⟩) hs).trans c, (hb.cell (p := ⟨t, 0, none⟩) ht).trans d, (hb.cell (p := ⟨t, 1, none⟩) ht).trans e, (hb.cell (p := ⟨t, 2, none⟩) ht).trans f⟩

theorem infoInt1 : (Try.prog.info? 3).isSome = true := by kernel_rfl
theorem arr3_eq (a b c a' b' c' : Int) (W : World) : (Op.equalIn 10000 54 (.agg #[.int .i64 a, .int .i64 b, .int .i64 c]) (.agg #[.int .i64 a', .int .i64 b', .int .i64 c'])).run Try.prog W = .ok (a == a' && (b == b' && c == c')) W := by
  obtain ⟨i, hi⟩ := Option.isSome_iff_exists.1 infoInt1
  rw [show (10000 : Nat) = 9999 + 1 from rfl, run_equalIn_array W 9999 _ _ Try.underlying54 hi, show Try.prog.cellsOf 3 = 1 by kernel_rfl]
  have hp : ∀ (xs : Array Value) (j : Nat) (v : Value), xs[j]? = some v → (part 3 xs j).run Try.prog W = .ok v W := fun xs j v h => run_part_plain (P := Try.prog) W (e := 3) (by kernel_rfl) h
  have he : ∀ x y : Int, (Op.equalIn 9999 3 (.int .i64 x) (.int .i64 y)).run Try.prog W = .ok (x == y) W := fun x y => run_equalIn_int W 9998 3 .i64 .i64 x y Try.underlying3
  have p0 := hp #[Value.int .i64 a, .int .i64 b, .int .i64 c] 0 _ rfl
  have p1 := hp #[Value.int .i64 a, .int .i64 b, .int .i64 c] 1 _ rfl
  have p2 := hp #[Value.int .i64 a, .int .i64 b, .int .i64 c] 2 _ rfl
  have q0 := hp #[Value.int .i64 a', .int .i64 b', .int .i64 c'] 0 _ rfl
  have q1 := hp #[Value.int .i64 a', .int .i64 b', .int .i64 c'] 1 _ rfl
  have q2 := hp #[Value.int .i64 a', .int .i64 b', .int .i64 c'] 2 _ rfl
  have e0 := he a a'
  have e1 := he b b'
  have e2 := he c c'
  generalize (a == a') = p at e0 ⊢
  generalize (b == b') = q at e1 ⊢
  generalize (c == c') = r at e2 ⊢
  rw [show List.range 3 = [0, 1, 2] from rfl]
  cases p <;> cases q <;> cases r <;> simp [Op.eqItems, p0, p1, p2, q0, q1, q2, e0, e1, e2]

set_option maxHeartbeats 4000000 in
theorem walk (a b c a' b' c' : Int) (g0 : (Lit.int .i64 a).wf = true) (g1 : (Lit.int .i64 b).wf = true) (g2 : (Lit.int .i64 c).wf = true) (g3 : (Lit.int .i64 a').wf = true) (g4 : (Lit.int .i64 b').wf = true) (g5 : (Lit.int .i64 c').wf = true) (w : World) :
    Calls Try.prog 8 #[.agg #[.int .i64 a, .int .i64 b, .int .i64 c], .agg #[.int .i64 a', .int .i64 b', .int .i64 c']] w fun e w' => e = .returned (.bool true) ∧ Below w.heap.size w w' := by
  clear g0 g1 g2 g3 g4 g5
  have CT := Lib.hid (fun W => counts_true W)
  have O := Lib.hid (fun a b c W => one_any a b c W)
  have N := Lib.hid (fun a b c W => norm_any a b c W)
  have hm := Lib.hid (one_apart a b c a' b' c')
  go_enter Try.func8, Try.ntmps8
  go_wp2_with (go_at_call 23; refine (CT.out _).mono ?_; rintro e w1 ⟨rfl, hb1⟩; obtain ⟨hc1, hf1⟩ := bcells hb1; have hz1 : w.heap.size + 1 < w1.heap.size := by (have := hb1.size; simp at this; omega))
  have d0 : w1.cell? ⟨w.heap.size, 0, none⟩ = some (.int .i64 a) := by rw [hc1 _ _ (by simp; omega)]; go_simp
  have d1 : w1.cell? ⟨w.heap.size, 1, none⟩ = some (.int .i64 b) := by rw [hc1 _ _ (by simp; omega)]; go_simp
  have d2 : w1.cell? ⟨w.heap.size, 2, none⟩ = some (.int .i64 c) := by rw [hc1 _ _ (by simp; omega)]; go_simp
  have d3 : w1.cell? ⟨w.heap.size + 1, 0, none⟩ = some (.int .i64 a') := by rw [hc1 _ _ (by simp)]; go_simp
  have d4 : w1.cell? ⟨w.heap.size + 1, 1, none⟩ = some (.int .i64 b') := by rw [hc1 _ _ (by simp)]; go_simp
  have d5 : w1.cell? ⟨w.heap.size + 1, 2, none⟩ = some (.int .i64 c') := by rw [hc1 _ _ (by simp)]; go_simp
  have HB1 := Lib.hid (bthen (ball (ball (bref w) _) _) hb1)
  have hz0 : w.heap.size < w1.heap.size := by omega
  clear hc1 hf1 hb1
  go_region_held3 (fun w' => Below w1.heap.size w1 w' ∧ w.heap.size < w'.heap.size ∧ w.heap.size + 1 < w'.heap.size ∧ w'.cell? ⟨w.heap.size, 0, none⟩ = some (.int .i64 a) ∧ w'.cell? ⟨w.heap.size, 1, none⟩ = some (.int .i64 b) ∧ w'.cell? ⟨w.heap.size, 2, none⟩ = some (.int .i64 c) ∧ w'.cell? ⟨w.heap.size + 1, 0, none⟩ = some (.int .i64 a') ∧ w'.cell? ⟨w.heap.size + 1, 1, none⟩ = some (.int .i64 b') ∧ w'.cell? ⟨w.heap.size + 1, 2, none⟩ = some (.int .i64 c')) (first | assumption | exact ⟨(bref w1).drew, hz0, hz1, d0, d1, d2, d3, d4, d5⟩ | exact held6_step (by assumption) hb)
    (first
      | (go_at_call 29; refine (O.out _ _ _ _).mono ?_; rintro e wn ⟨rfl, hb⟩))
  rename_i hH
  have E := arr3_eq a b (normF a c) a' b' (normF a' c')
  have hx : ∀ n : Nat, ((n : Int) == 0) = decide (n = 0) := fun n => by rw [Bool.eq_iff_iff, beq_iff_eq, decide_eq_true_eq]; omega
  have hxy : ∀ n m : Nat, ((n : Int) == (m : Int)) = decide (n = m) := fun n m => by rw [Bool.eq_iff_iff, beq_iff_eq, decide_eq_true_eq]; omega
  have HH := Lib.hid hH
  clear hH
  have hP : ∃ p q r : Bool, (((oneF a b c : Nat) : Int) == 0) = p ∧ (((oneF a' b' c' : Nat) : Int) == 0) = q ∧ (((oneF a b c : Nat) : Int) == ((oneF a' b' c' : Nat) : Int)) = r ∧ (p = false → q = false → (r == (a == a' && (b == b' && normF a c == normF a' c'))) = true) := by
    refine ⟨_, _, _, rfl, rfl, rfl, ?_⟩
    intro h1 h2
    have h1' : oneF a b c ≠ 0 := fun e => by rw [e] at h1; exact absurd h1 (by decide)
    have h2' : oneF a' b' c' ≠ 0 := fun e => by rw [e] at h2; exact absurd h2 (by decide)
    have := hm.out h1' h2'
    rw [beq_iff_eq, Bool.eq_iff_iff]
    simp only [beq_iff_eq, Bool.and_eq_true]
    omega
  obtain ⟨p, q, r, ep, eq, er, hpq⟩ := hP
  clear hm hx hxy
  generalize ((oneF a b c : Nat) : Int) = xi at ep er ⊢
  generalize ((oneF a' b' c' : Nat) : Int) = yi at eq er ⊢
  have hz2 : w.heap.size < wn.heap.size := HH.out.2.1
  cases p
  · cases q
    · have HP := Lib.hid (hpq rfl rfl)
      clear hpq
      obtain ⟨k0, k1, k2, f0, f1, f2, f3, f4, f5⟩ := HH.out
      have HB2 := Lib.hid (bthen HB1.out k0)
      clear k0 HH
      go_wp2_with fail
      go_region_held3 (fun w' => Below wn.heap.size wn w' ∧ w.heap.size < w'.heap.size ∧ w.heap.size + 1 < w'.heap.size ∧ w'.cell? ⟨w.heap.size, 0, none⟩ = some (.int .i64 a) ∧ w'.cell? ⟨w.heap.size, 1, none⟩ = some (.int .i64 b) ∧ w'.cell? ⟨w.heap.size, 2, none⟩ = some (.int .i64 c) ∧ w'.cell? ⟨w.heap.size + 1, 0, none⟩ = some (.int .i64 a') ∧ w'.cell? ⟨w.heap.size + 1, 1, none⟩ = some (.int .i64 b') ∧ w'.cell? ⟨w.heap.size + 1, 2, none⟩ = some (.int .i64 c')) (first | assumption | exact ⟨(bref wn).drew, k1, k2, f0, f1, f2, f3, f4, f5⟩ | exact held6_step (by assumption) hb)
        (first
          | (go_at_call 30; refine (N.out _ _ _ _).mono ?_; rintro e wm ⟨rfl, hb⟩))
      rename_i hH2
      go_wp2
      go_ret
      exact ⟨by simpa using eq_of_beq HP.out, bthen HB2.out hH2.1⟩
    · clear hpq
      go_wp2
      go_ret
      exact ⟨rfl, bthen HB1.out (HH.out.1)⟩
  · clear hpq
    go_wp2
    go_ret
    exact ⟨rfl, bthen HB1.out (HH.out.1)⟩
end Go.Proofs.Ytmpjjdlohneiiaa.keyApart
