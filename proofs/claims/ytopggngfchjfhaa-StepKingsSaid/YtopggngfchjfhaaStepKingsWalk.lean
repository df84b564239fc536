/-
  The walk of the law StepKings: for every three numbers it returns true.
-/
import Derived.Test.YtopggngfchjfhaaStepMore
import Derived.Test.YtopggngfchjfhaaStepHead
namespace Go.Proofs.Ytopggngfchjfhaa.stepKings
open Go.RowKit
set_option linter.unusedVariables false

theorem wrap_i8_eq (n : Int) (h0 : -128 ≤ n) (h1 : n ≤ 127) : IntKind.i8.wrap n = n := by
  simp [IntKind.wrap, IntKind.bits, IntKind.signed]
  split <;> omega
theorem held6_fst {wc W : World} {a b c : Nat} {x0 y0 x1 y1 x2 y2 : Value}
    (h : Below wc.heap.size wc W ∧ a < W.heap.size ∧ b < W.heap.size ∧ c < W.heap.size ∧ W.cell? ⟨a, 0, none⟩ = some x0 ∧ W.cell? ⟨a, 1, none⟩ = some y0 ∧ W.cell? ⟨b, 0, none⟩ = some x1 ∧ W.cell? ⟨b, 1, none⟩ = some y1 ∧ W.cell? ⟨c, 0, none⟩ = some x2 ∧ W.cell? ⟨c, 1, none⟩ = some y2) : Below wc.heap.size wc W := h.1
theorem held6_step {wc W w' : World} {a b c : Nat} {x0 y0 x1 y1 x2 y2 : Value}
    (h : Below wc.heap.size wc W ∧ a < W.heap.size ∧ b < W.heap.size ∧ c < W.heap.size ∧ W.cell? ⟨a, 0, none⟩ = some x0 ∧ W.cell? ⟨a, 1, none⟩ = some y0 ∧ W.cell? ⟨b, 0, none⟩ = some x1 ∧ W.cell? ⟨b, 1, none⟩ = some y1 ∧ W.cell? ⟨c, 0, none⟩ = some x2 ∧ W.cell? ⟨c, 1, none⟩ = some y2) (hb : Below W.heap.size W w') :
    Below wc.heap.size wc w' ∧ a < w'.heap.size ∧ b < w'.heap.size ∧ c < w'.heap.size ∧ w'.cell? ⟨a, 0, none⟩ = some x0 ∧ w'.cell? ⟨a, 1, none⟩ = some y0 ∧ w'.cell? ⟨b, 0, none⟩ = some x1 ∧ w'.cell? ⟨b, 1, none⟩ = some y1 ∧ w'.cell? ⟨c, 0, none⟩ = some x2 ∧ w'.cell? ⟨c, 1, none⟩ = some y2 := by
  obtain ⟨h0, ha, hb', hc, h1, h2, h3, h4, h5, h6⟩ := h
  have hs := hb.size
  exact ⟨bthen h0 hb, by omega, by omega, by omega, (hb.cell (p := ⟨a, 0, none⟩) ha).trans h1, (hb.cell (p := ⟨a, 1, none⟩) ha).trans h2, (hb.cell (p := ⟨b, 0, none⟩) hb').trans h3, (hb.cell (p := ⟨b, 1, none⟩) hb').trans h4, (hb.cell (p := ⟨c, 0, none⟩) hc).trans h5, (hb.cell (p := ⟨c, 1, none⟩) hc).trans h6⟩

set_option maxHeartbeats 4000000 in
theorem walk_n0 (q : Int) (hq : 0 ≤ q ∧ q ≤ 80) (w : World) :
    Calls Try.prog 7 #[.int .i64 0, .int .i64 3, .int .i64 q] w fun e w' => e = .returned (.bool true) ∧ Below w.heap.size w w' := by
  have H := Lib.hid (steps_true w)
  have O8 := Lib.hid (fun W => stepOf_any 8 q (by omega) (by omega) W)
  have O5 := Lib.hid (fun W => stepOf_any 5 q (by omega) (by omega) W)
  have O4 := Lib.hid (fun W => stepOf_any 4 q (by omega) (by omega) W)
  have OK := Lib.hid (fun W => stepOf_any (3) q (by omega) (by omega) W)
  have U := Lib.hid (fun W => or_any (stepN 5 q) (stepN 4 q) (stepN_sq _ _) (stepN_sq _ _) W)
  rw [show stepN 5 q ||| stepN 4 q = stepN 8 q from king_both 0 q (by omega)] at U
  obtain ⟨q0, q1⟩ := hq
  have E := Lib.hid (fun W => empty_any 0 W)
  rw [lo_zero, hi_zero] at E
  have A := Lib.hid (fun W => and_any (stepN 3 q) (stepN 8 q) (stepN_sq _ _) (stepN_sq _ _) W)
  rw [show stepN 3 q &&& stepN 8 q = 0 from knight_apart 0 q (by omega), lo_zero, hi_zero] at A
  have C := Lib.hid (fun W => count_any (stepN 3 q) (stepN_sq _ _) W)
  have hc : pop 81 (stepN 3 q) ≤ 2 := knight_two 0 q (by omega)
  generalize pop 81 (stepN 3 q) = c at C hc
  have hc2 : (c : Int) ≤ 2 := by omega
  clear hc
  generalize loW (stepN (8) q) = x8 at O8 U A
  generalize hiW (stepN (8) q) = y8 at O8 U A
  generalize loW (stepN (5) q) = x5 at O5 U
  generalize hiW (stepN (5) q) = y5 at O5 U
  generalize loW (stepN (4) q) = x4 at O4 U
  generalize hiW (stepN (4) q) = y4 at O4 U
  generalize loW (stepN (3) q) = xk at OK A C
  generalize hiW (stepN (3) q) = yk at OK A C
  go_enter Try.func7, Try.ntmps7
  go_wp2_with (first
    | (go_at_call 8; refine H.out.mono ?_; rintro e w1 ⟨rfl, hb1⟩)
    | (go_at_call_of 9 (Value.int .i8 8); refine (O8.out _).mono ?_; rintro e w2 ⟨rfl, hb2⟩; obtain ⟨hc2, hf2⟩ := bcells hb2; have hz2 := hb2.size)
    | (go_at_call_of 9 (Value.int .i8 5); refine (O5.out _).mono ?_; rintro e w3 ⟨rfl, hb3⟩; obtain ⟨hc3, hf3⟩ := bcells hb3; have hz3 : w2.heap.size < w3.heap.size := by (have := hb3.size; simp at this; omega))
    | (go_at_call_of 9 (Value.int .i8 4); refine (O4.out _).mono ?_; rintro e w4 ⟨rfl, hb4⟩; obtain ⟨hc4, hf4⟩ := bcells hb4; have hz4 : w2.heap.size < w4.heap.size := by (have := hb4.size; omega))
    | (go_at_call_of 25 (Value.int .u64 x5); refine (U.out _).mono ?_; rintro e w5 ⟨rfl, hb5⟩; obtain ⟨hc5, hf5⟩ := bcells hb5; have hz5 : w2.heap.size < w5.heap.size := by (have := hb5.size; omega))
    | (go_at_call_of 9 (Value.int .i8 (3)); refine (OK.out _).mono ?_; rintro e w6 ⟨rfl, hb6⟩; obtain ⟨hc6, hf6⟩ := bcells hb6; have hz6 : w2.heap.size < w6.heap.size := by (have := hb6.size; simp at this; omega); have hy6 : w5.heap.size < w6.heap.size := by (have := hb6.size; simp at this; omega)))
  refine (OK.out _).mono ?_
  rintro e w6 ⟨rfl, hb6⟩
  have s6 : w5.heap.size + 1 ≤ w6.heap.size := by have := hb6.size; simpa using this
  have hy6 : w5.heap.size < w6.heap.size := by omega
  have hz6 : w2.heap.size < w6.heap.size := by omega
  obtain ⟨hc6, hf6⟩ := bcells hb6
  have m0 : (w6.alloc (.cells #[.int .u64 xk, .int .u64 yk] 27)).cell? ⟨w2.heap.size, 0, none⟩ = some (.int .u64 x8) := by go_simp
  have m1 : (w6.alloc (.cells #[.int .u64 xk, .int .u64 yk] 27)).cell? ⟨w2.heap.size, 1, none⟩ = some (.int .u64 y8) := by go_simp
  have m2 : (w6.alloc (.cells #[.int .u64 xk, .int .u64 yk] 27)).cell? ⟨w5.heap.size, 0, none⟩ = some (.int .u64 x8) := by go_simp
  have m3 : (w6.alloc (.cells #[.int .u64 xk, .int .u64 yk] 27)).cell? ⟨w5.heap.size, 1, none⟩ = some (.int .u64 y8) := by go_simp
  have m4 : (w6.alloc (.cells #[.int .u64 xk, .int .u64 yk] 27)).cell? ⟨w6.heap.size, 0, none⟩ = some (.int .u64 xk) := by go_simp
  have m5 : (w6.alloc (.cells #[.int .u64 xk, .int .u64 yk] 27)).cell? ⟨w6.heap.size, 1, none⟩ = some (.int .u64 yk) := by go_simp
  have HB := Lib.hid (ball (bthen hb1 (bthen hb2 (bthen (ball (bref w2) _) (bthen hb3 (bthen hb4 (bthen hb5 (bthen (ball (bref w5) _) hb6))))))) (.cells #[.int .u64 xk, .int .u64 yk] 27))
  have z0 : w2.heap.size < (w6.alloc (.cells #[.int .u64 xk, .int .u64 yk] 27)).heap.size := by simp; omega
  have z1 : w5.heap.size < (w6.alloc (.cells #[.int .u64 xk, .int .u64 yk] 27)).heap.size := by simp; omega
  have z2 : w6.heap.size < (w6.alloc (.cells #[.int .u64 xk, .int .u64 yk] 27)).heap.size := by simp
  clear hc2 hf2 hc3 hf3 hc4 hf4 hc5 hf5 hc6 hf6 hz2 hz3 hz4 hz5 hz6 hy6 s6 hb1 hb2 hb3 hb4 hb5 hb6 H O8 O5 O4 OK U
  go_wp2_with fail
  generalize w6.alloc (.cells #[.int .u64 xk, .int .u64 yk] 27) = v0 at m0 m1 m2 m3 m4 m5 HB z0 z1 z2 ⊢
  generalize w6.heap.size = p6 at m4 m5 z2 ⊢
  generalize w5.heap.size = p5 at m2 m3 z1 ⊢
  generalize w2.heap.size = p2 at m0 m1 z0 ⊢
  have K0 : Below v0.heap.size v0 v0 ∧ p2 < v0.heap.size ∧ p5 < v0.heap.size ∧ p6 < v0.heap.size ∧ v0.cell? ⟨p2, 0, none⟩ = some (.int .u64 x8) ∧ v0.cell? ⟨p2, 1, none⟩ = some (.int .u64 y8) ∧ v0.cell? ⟨p5, 0, none⟩ = some (.int .u64 x8) ∧ v0.cell? ⟨p5, 1, none⟩ = some (.int .u64 y8) ∧ v0.cell? ⟨p6, 0, none⟩ = some (.int .u64 xk) ∧ v0.cell? ⟨p6, 1, none⟩ = some (.int .u64 yk) := ⟨bref v0, z0, z1, z2, m0, m1, m2, m3, m4, m5⟩
  have G0 := Lib.hid K0
  clear K0
  refine (A.out _).mono ?_
  rintro e w7 ⟨rfl, hb7⟩
  have G7 := Lib.hid (held6_step G0.out hb7)
  obtain ⟨-, -, -, -, n70, n71, n72, n73, n74, n75⟩ := G7.out
  go_wp2_with (first
    | (go_at_call 21; refine (E.out _).mono ?_; rintro e w8 ⟨rfl, hb8⟩; have G8 := Lib.hid (held6_step G7.out hb8); obtain ⟨-, -, -, -, n80, n81, n82, n83, n84, n85⟩ := G8.out)
    | (go_at_call 17; refine (C.out _).mono ?_; rintro e w9 ⟨rfl, hb9⟩; have G9 := Lib.hid (held6_step G8.out hb9); obtain ⟨-, -, -, -, n90, n91, n92, n93, n94, n95⟩ := G9.out))
  go_ret
  exact ⟨rfl, bthen HB.out (bthen (bthen hb7 hb8) hb9)⟩


set_option maxHeartbeats 4000000 in
theorem walk_n1 (q : Int) (hq : 0 ≤ q ∧ q ≤ 80) (w : World) :
    Calls Try.prog 7 #[.int .i64 1, .int .i64 3, .int .i64 q] w fun e w' => e = .returned (.bool true) ∧ Below w.heap.size w w' := by
  have H := Lib.hid (steps_true w)
  have O8 := Lib.hid (fun W => stepOf_any 24 q (by omega) (by omega) W)
  have O5 := Lib.hid (fun W => stepOf_any 21 q (by omega) (by omega) W)
  have O4 := Lib.hid (fun W => stepOf_any 20 q (by omega) (by omega) W)
  have OK := Lib.hid (fun W => stepOf_any (19) q (by omega) (by omega) W)
  have U := Lib.hid (fun W => or_any (stepN 21 q) (stepN 20 q) (stepN_sq _ _) (stepN_sq _ _) W)
  rw [show stepN 21 q ||| stepN 20 q = stepN 24 q from king_both 1 q (by omega)] at U
  obtain ⟨q0, q1⟩ := hq
  have E := Lib.hid (fun W => empty_any 0 W)
  rw [lo_zero, hi_zero] at E
  have A := Lib.hid (fun W => and_any (stepN 19 q) (stepN 24 q) (stepN_sq _ _) (stepN_sq _ _) W)
  rw [show stepN 19 q &&& stepN 24 q = 0 from knight_apart 1 q (by omega), lo_zero, hi_zero] at A
  have C := Lib.hid (fun W => count_any (stepN 19 q) (stepN_sq _ _) W)
  have hc : pop 81 (stepN 19 q) ≤ 2 := knight_two 1 q (by omega)
  generalize pop 81 (stepN 19 q) = c at C hc
  have hc2 : (c : Int) ≤ 2 := by omega
  clear hc
  generalize loW (stepN (24) q) = x8 at O8 U A
  generalize hiW (stepN (24) q) = y8 at O8 U A
  generalize loW (stepN (21) q) = x5 at O5 U
  generalize hiW (stepN (21) q) = y5 at O5 U
  generalize loW (stepN (20) q) = x4 at O4 U
  generalize hiW (stepN (20) q) = y4 at O4 U
  generalize loW (stepN (19) q) = xk at OK A C
  generalize hiW (stepN (19) q) = yk at OK A C
  go_enter Try.func7, Try.ntmps7
  go_wp2_with (first
    | (go_at_call 8; refine H.out.mono ?_; rintro e w1 ⟨rfl, hb1⟩)
    | (go_at_call_of 9 (Value.int .i8 24); refine (O8.out _).mono ?_; rintro e w2 ⟨rfl, hb2⟩; obtain ⟨hc2, hf2⟩ := bcells hb2; have hz2 := hb2.size)
    | (go_at_call_of 9 (Value.int .i8 21); refine (O5.out _).mono ?_; rintro e w3 ⟨rfl, hb3⟩; obtain ⟨hc3, hf3⟩ := bcells hb3; have hz3 : w2.heap.size < w3.heap.size := by (have := hb3.size; simp at this; omega))
    | (go_at_call_of 9 (Value.int .i8 20); refine (O4.out _).mono ?_; rintro e w4 ⟨rfl, hb4⟩; obtain ⟨hc4, hf4⟩ := bcells hb4; have hz4 : w2.heap.size < w4.heap.size := by (have := hb4.size; omega))
    | (go_at_call_of 25 (Value.int .u64 x5); refine (U.out _).mono ?_; rintro e w5 ⟨rfl, hb5⟩; obtain ⟨hc5, hf5⟩ := bcells hb5; have hz5 : w2.heap.size < w5.heap.size := by (have := hb5.size; omega))
    | (go_at_call_of 9 (Value.int .i8 (19)); refine (OK.out _).mono ?_; rintro e w6 ⟨rfl, hb6⟩; obtain ⟨hc6, hf6⟩ := bcells hb6; have hz6 : w2.heap.size < w6.heap.size := by (have := hb6.size; simp at this; omega); have hy6 : w5.heap.size < w6.heap.size := by (have := hb6.size; simp at this; omega)))
  refine (OK.out _).mono ?_
  rintro e w6 ⟨rfl, hb6⟩
  have s6 : w5.heap.size + 1 ≤ w6.heap.size := by have := hb6.size; simpa using this
  have hy6 : w5.heap.size < w6.heap.size := by omega
  have hz6 : w2.heap.size < w6.heap.size := by omega
  obtain ⟨hc6, hf6⟩ := bcells hb6
  have m0 : (w6.alloc (.cells #[.int .u64 xk, .int .u64 yk] 27)).cell? ⟨w2.heap.size, 0, none⟩ = some (.int .u64 x8) := by go_simp
  have m1 : (w6.alloc (.cells #[.int .u64 xk, .int .u64 yk] 27)).cell? ⟨w2.heap.size, 1, none⟩ = some (.int .u64 y8) := by go_simp
  have m2 : (w6.alloc (.cells #[.int .u64 xk, .int .u64 yk] 27)).cell? ⟨w5.heap.size, 0, none⟩ = some (.int .u64 x8) := by go_simp
  have m3 : (w6.alloc (.cells #[.int .u64 xk, .int .u64 yk] 27)).cell? ⟨w5.heap.size, 1, none⟩ = some (.int .u64 y8) := by go_simp
  have m4 : (w6.alloc (.cells #[.int .u64 xk, .int .u64 yk] 27)).cell? ⟨w6.heap.size, 0, none⟩ = some (.int .u64 xk) := by go_simp
  have m5 : (w6.alloc (.cells #[.int .u64 xk, .int .u64 yk] 27)).cell? ⟨w6.heap.size, 1, none⟩ = some (.int .u64 yk) := by go_simp
  have HB := Lib.hid (ball (bthen hb1 (bthen hb2 (bthen (ball (bref w2) _) (bthen hb3 (bthen hb4 (bthen hb5 (bthen (ball (bref w5) _) hb6))))))) (.cells #[.int .u64 xk, .int .u64 yk] 27))
  have z0 : w2.heap.size < (w6.alloc (.cells #[.int .u64 xk, .int .u64 yk] 27)).heap.size := by simp; omega
  have z1 : w5.heap.size < (w6.alloc (.cells #[.int .u64 xk, .int .u64 yk] 27)).heap.size := by simp; omega
  have z2 : w6.heap.size < (w6.alloc (.cells #[.int .u64 xk, .int .u64 yk] 27)).heap.size := by simp
  clear hc2 hf2 hc3 hf3 hc4 hf4 hc5 hf5 hc6 hf6 hz2 hz3 hz4 hz5 hz6 hy6 s6 hb1 hb2 hb3 hb4 hb5 hb6 H O8 O5 O4 OK U
  go_wp2_with fail
  generalize w6.alloc (.cells #[.int .u64 xk, .int .u64 yk] 27) = v0 at m0 m1 m2 m3 m4 m5 HB z0 z1 z2 ⊢
  generalize w6.heap.size = p6 at m4 m5 z2 ⊢
  generalize w5.heap.size = p5 at m2 m3 z1 ⊢
  generalize w2.heap.size = p2 at m0 m1 z0 ⊢
  have K0 : Below v0.heap.size v0 v0 ∧ p2 < v0.heap.size ∧ p5 < v0.heap.size ∧ p6 < v0.heap.size ∧ v0.cell? ⟨p2, 0, none⟩ = some (.int .u64 x8) ∧ v0.cell? ⟨p2, 1, none⟩ = some (.int .u64 y8) ∧ v0.cell? ⟨p5, 0, none⟩ = some (.int .u64 x8) ∧ v0.cell? ⟨p5, 1, none⟩ = some (.int .u64 y8) ∧ v0.cell? ⟨p6, 0, none⟩ = some (.int .u64 xk) ∧ v0.cell? ⟨p6, 1, none⟩ = some (.int .u64 yk) := ⟨bref v0, z0, z1, z2, m0, m1, m2, m3, m4, m5⟩
  have G0 := Lib.hid K0
  clear K0
  refine (A.out _).mono ?_
  rintro e w7 ⟨rfl, hb7⟩
  have G7 := Lib.hid (held6_step G0.out hb7)
  obtain ⟨-, -, -, -, n70, n71, n72, n73, n74, n75⟩ := G7.out
  go_wp2_with (first
    | (go_at_call 21; refine (E.out _).mono ?_; rintro e w8 ⟨rfl, hb8⟩; have G8 := Lib.hid (held6_step G7.out hb8); obtain ⟨-, -, -, -, n80, n81, n82, n83, n84, n85⟩ := G8.out)
    | (go_at_call 17; refine (C.out _).mono ?_; rintro e w9 ⟨rfl, hb9⟩; have G9 := Lib.hid (held6_step G8.out hb9); obtain ⟨-, -, -, -, n90, n91, n92, n93, n94, n95⟩ := G9.out))
  go_ret
  exact ⟨rfl, bthen HB.out (bthen (bthen hb7 hb8) hb9)⟩


set_option maxHeartbeats 4000000 in
theorem walk_k0 (k q : Int) (hk : 1 ≤ k ∧ k ≤ 15) (h3 : k ≠ 3) (hq : 0 ≤ q ∧ q ≤ 80) (w : World) :
    Calls Try.prog 7 #[.int .i64 0, .int .i64 k, .int .i64 q] w fun e w' => e = .returned (.bool true) ∧ Below w.heap.size w w' := by
  have H := Lib.hid (steps_true w)
  have O8 := Lib.hid (fun W => stepOf_any 8 q (by omega) (by omega) W)
  have O5 := Lib.hid (fun W => stepOf_any 5 q (by omega) (by omega) W)
  have O4 := Lib.hid (fun W => stepOf_any 4 q (by omega) (by omega) W)
  have OK := Lib.hid (fun W => stepOf_any (k) q (by omega) (by omega) W)
  have U := Lib.hid (fun W => or_any (stepN 5 q) (stepN 4 q) (stepN_sq _ _) (stepN_sq _ _) W)
  rw [show stepN 5 q ||| stepN 4 q = stepN 8 q from king_both 0 q (by omega)] at U
  obtain ⟨q0, q1⟩ := hq
  have E := Lib.hid (fun W => empty_any 0 W)
  rw [lo_zero, hi_zero] at E
  have A := Lib.hid (fun W => minus_any (stepN (k) q) (stepN 8 q) (stepN_sq _ _) (stepN_sq _ _) W)
  have em : minusN (stepN (k) q) (stepN 8 q) = 0 := by
    have := king_sub 0 k q (by omega) hk h3
    rw [show (16 * 0 + k : Int) = k by omega] at this
    exact this
  rw [em, lo_zero, hi_zero] at A
  obtain ⟨k0, k1⟩ := hk
  have bk : (k == 3) = false := by simpa using h3
  have wk3 : IntKind.i8.wrap (k) = k := wrap_i8_eq _ (by omega) (by omega)
  clear em h3
  generalize loW (stepN (8) q) = x8 at O8 U A
  generalize hiW (stepN (8) q) = y8 at O8 U A
  generalize loW (stepN (5) q) = x5 at O5 U
  generalize hiW (stepN (5) q) = y5 at O5 U
  generalize loW (stepN (4) q) = x4 at O4 U
  generalize hiW (stepN (4) q) = y4 at O4 U
  generalize loW (stepN (k) q) = xk at OK A
  generalize hiW (stepN (k) q) = yk at OK A
  go_enter Try.func7, Try.ntmps7
  go_wp2_with (first
    | (go_at_call 8; refine H.out.mono ?_; rintro e w1 ⟨rfl, hb1⟩)
    | (go_at_call_of 9 (Value.int .i8 8); refine (O8.out _).mono ?_; rintro e w2 ⟨rfl, hb2⟩; obtain ⟨hc2, hf2⟩ := bcells hb2; have hz2 := hb2.size)
    | (go_at_call_of 9 (Value.int .i8 5); refine (O5.out _).mono ?_; rintro e w3 ⟨rfl, hb3⟩; obtain ⟨hc3, hf3⟩ := bcells hb3; have hz3 : w2.heap.size < w3.heap.size := by (have := hb3.size; simp at this; omega))
    | (go_at_call_of 9 (Value.int .i8 4); refine (O4.out _).mono ?_; rintro e w4 ⟨rfl, hb4⟩; obtain ⟨hc4, hf4⟩ := bcells hb4; have hz4 : w2.heap.size < w4.heap.size := by (have := hb4.size; omega))
    | (go_at_call_of 25 (Value.int .u64 x5); refine (U.out _).mono ?_; rintro e w5 ⟨rfl, hb5⟩; obtain ⟨hc5, hf5⟩ := bcells hb5; have hz5 : w2.heap.size < w5.heap.size := by (have := hb5.size; omega))
    | (go_at_call_of 9 (Value.int .i8 (0 + k)); refine (OK.out _).mono ?_; rintro e w6 ⟨rfl, hb6⟩; obtain ⟨hc6, hf6⟩ := bcells hb6; have hz6 : w2.heap.size < w6.heap.size := by (have := hb6.size; simp at this; omega); have hy6 : w5.heap.size < w6.heap.size := by (have := hb6.size; simp at this; omega)))
  refine (OK.out _).mono ?_
  rintro e w6 ⟨rfl, hb6⟩
  have s6 : w5.heap.size + 1 ≤ w6.heap.size := by have := hb6.size; simpa using this
  have hy6 : w5.heap.size < w6.heap.size := by omega
  have hz6 : w2.heap.size < w6.heap.size := by omega
  obtain ⟨hc6, hf6⟩ := bcells hb6
  have m0 : (w6.alloc (.cells #[.int .u64 xk, .int .u64 yk] 27)).cell? ⟨w2.heap.size, 0, none⟩ = some (.int .u64 x8) := by go_simp
  have m1 : (w6.alloc (.cells #[.int .u64 xk, .int .u64 yk] 27)).cell? ⟨w2.heap.size, 1, none⟩ = some (.int .u64 y8) := by go_simp
  have m2 : (w6.alloc (.cells #[.int .u64 xk, .int .u64 yk] 27)).cell? ⟨w5.heap.size, 0, none⟩ = some (.int .u64 x8) := by go_simp
  have m3 : (w6.alloc (.cells #[.int .u64 xk, .int .u64 yk] 27)).cell? ⟨w5.heap.size, 1, none⟩ = some (.int .u64 y8) := by go_simp
  have m4 : (w6.alloc (.cells #[.int .u64 xk, .int .u64 yk] 27)).cell? ⟨w6.heap.size, 0, none⟩ = some (.int .u64 xk) := by go_simp
  have m5 : (w6.alloc (.cells #[.int .u64 xk, .int .u64 yk] 27)).cell? ⟨w6.heap.size, 1, none⟩ = some (.int .u64 yk) := by go_simp
  have HB := Lib.hid (ball (bthen hb1 (bthen hb2 (bthen (ball (bref w2) _) (bthen hb3 (bthen hb4 (bthen hb5 (bthen (ball (bref w5) _) hb6))))))) (.cells #[.int .u64 xk, .int .u64 yk] 27))
  have z0 : w2.heap.size < (w6.alloc (.cells #[.int .u64 xk, .int .u64 yk] 27)).heap.size := by simp; omega
  have z1 : w5.heap.size < (w6.alloc (.cells #[.int .u64 xk, .int .u64 yk] 27)).heap.size := by simp; omega
  have z2 : w6.heap.size < (w6.alloc (.cells #[.int .u64 xk, .int .u64 yk] 27)).heap.size := by simp
  clear hc2 hf2 hc3 hf3 hc4 hf4 hc5 hf5 hc6 hf6 hz2 hz3 hz4 hz5 hz6 hy6 s6 hb1 hb2 hb3 hb4 hb5 hb6 H O8 O5 O4 OK U
  go_wp2_with fail
  generalize w6.alloc (.cells #[.int .u64 xk, .int .u64 yk] 27) = v0 at m0 m1 m2 m3 m4 m5 HB z0 z1 z2 ⊢
  generalize w6.heap.size = p6 at m4 m5 z2 ⊢
  generalize w5.heap.size = p5 at m2 m3 z1 ⊢
  generalize w2.heap.size = p2 at m0 m1 z0 ⊢
  have K0 : Below v0.heap.size v0 v0 ∧ p2 < v0.heap.size ∧ p5 < v0.heap.size ∧ p6 < v0.heap.size ∧ v0.cell? ⟨p2, 0, none⟩ = some (.int .u64 x8) ∧ v0.cell? ⟨p2, 1, none⟩ = some (.int .u64 y8) ∧ v0.cell? ⟨p5, 0, none⟩ = some (.int .u64 x8) ∧ v0.cell? ⟨p5, 1, none⟩ = some (.int .u64 y8) ∧ v0.cell? ⟨p6, 0, none⟩ = some (.int .u64 xk) ∧ v0.cell? ⟨p6, 1, none⟩ = some (.int .u64 yk) := ⟨bref v0, z0, z1, z2, m0, m1, m2, m3, m4, m5⟩
  have G0 := Lib.hid K0
  clear K0
  refine (A.out _).mono ?_
  rintro e w7 ⟨rfl, hb7⟩
  have G7 := Lib.hid (held6_step G0.out hb7)
  obtain ⟨-, -, -, -, n70, n71, n72, n73, n74, n75⟩ := G7.out
  go_wp2_with (first
    | (go_at_call 21; refine (E.out _).mono ?_; rintro e w8 ⟨rfl, hb8⟩; have G8 := Lib.hid (held6_step G7.out hb8); obtain ⟨-, -, -, -, n80, n81, n82, n83, n84, n85⟩ := G8.out))
  go_ret
  exact ⟨rfl, bthen HB.out (bthen hb7 hb8)⟩

set_option maxHeartbeats 4000000 in
theorem walk_k1 (k q : Int) (hk : 1 ≤ k ∧ k ≤ 15) (h3 : k ≠ 3) (hq : 0 ≤ q ∧ q ≤ 80) (w : World) :
    Calls Try.prog 7 #[.int .i64 1, .int .i64 k, .int .i64 q] w fun e w' => e = .returned (.bool true) ∧ Below w.heap.size w w' := by
  have H := Lib.hid (steps_true w)
  have O8 := Lib.hid (fun W => stepOf_any 24 q (by omega) (by omega) W)
  have O5 := Lib.hid (fun W => stepOf_any 21 q (by omega) (by omega) W)
  have O4 := Lib.hid (fun W => stepOf_any 20 q (by omega) (by omega) W)
  have OK := Lib.hid (fun W => stepOf_any (16 + k) q (by omega) (by omega) W)
  have U := Lib.hid (fun W => or_any (stepN 21 q) (stepN 20 q) (stepN_sq _ _) (stepN_sq _ _) W)
  rw [show stepN 21 q ||| stepN 20 q = stepN 24 q from king_both 1 q (by omega)] at U
  obtain ⟨q0, q1⟩ := hq
  have E := Lib.hid (fun W => empty_any 0 W)
  rw [lo_zero, hi_zero] at E
  have A := Lib.hid (fun W => minus_any (stepN (16 + k) q) (stepN 24 q) (stepN_sq _ _) (stepN_sq _ _) W)
  have em : minusN (stepN (16 + k) q) (stepN 24 q) = 0 := by
    have := king_sub 1 k q (by omega) hk h3
    rw [show (16 * 1 + k : Int) = 16 + k by omega] at this
    exact this
  rw [em, lo_zero, hi_zero] at A
  obtain ⟨k0, k1⟩ := hk
  have bk : (k == 3) = false := by simpa using h3
  have wk : IntKind.i64.wrap (16 + k) = 16 + k := by rw [wrap_i64_eq]; unfold wrap64; omega
  have wk2 : wrap64 (16 + k) = 16 + k := by unfold wrap64; omega
  have wk3 : IntKind.i8.wrap (16 + k) = 16 + k := wrap_i8_eq _ (by omega) (by omega)
  clear em h3
  generalize loW (stepN (24) q) = x8 at O8 U A
  generalize hiW (stepN (24) q) = y8 at O8 U A
  generalize loW (stepN (21) q) = x5 at O5 U
  generalize hiW (stepN (21) q) = y5 at O5 U
  generalize loW (stepN (20) q) = x4 at O4 U
  generalize hiW (stepN (20) q) = y4 at O4 U
  generalize loW (stepN (16 + k) q) = xk at OK A
  generalize hiW (stepN (16 + k) q) = yk at OK A
  go_enter Try.func7, Try.ntmps7
  go_wp2_with (first
    | (go_at_call 8; refine H.out.mono ?_; rintro e w1 ⟨rfl, hb1⟩)
    | (go_at_call_of 9 (Value.int .i8 24); refine (O8.out _).mono ?_; rintro e w2 ⟨rfl, hb2⟩; obtain ⟨hc2, hf2⟩ := bcells hb2; have hz2 := hb2.size)
    | (go_at_call_of 9 (Value.int .i8 21); refine (O5.out _).mono ?_; rintro e w3 ⟨rfl, hb3⟩; obtain ⟨hc3, hf3⟩ := bcells hb3; have hz3 : w2.heap.size < w3.heap.size := by (have := hb3.size; simp at this; omega))
    | (go_at_call_of 9 (Value.int .i8 20); refine (O4.out _).mono ?_; rintro e w4 ⟨rfl, hb4⟩; obtain ⟨hc4, hf4⟩ := bcells hb4; have hz4 : w2.heap.size < w4.heap.size := by (have := hb4.size; omega))
    | (go_at_call_of 25 (Value.int .u64 x5); refine (U.out _).mono ?_; rintro e w5 ⟨rfl, hb5⟩; obtain ⟨hc5, hf5⟩ := bcells hb5; have hz5 : w2.heap.size < w5.heap.size := by (have := hb5.size; omega))
    | (go_at_call_of 9 (Value.int .i8 (16 + k)); refine (OK.out _).mono ?_; rintro e w6 ⟨rfl, hb6⟩; obtain ⟨hc6, hf6⟩ := bcells hb6; have hz6 : w2.heap.size < w6.heap.size := by (have := hb6.size; simp at this; omega); have hy6 : w5.heap.size < w6.heap.size := by (have := hb6.size; simp at this; omega)))
  refine (OK.out _).mono ?_
  rintro e w6 ⟨rfl, hb6⟩
  have s6 : w5.heap.size + 1 ≤ w6.heap.size := by have := hb6.size; simpa using this
  have hy6 : w5.heap.size < w6.heap.size := by omega
  have hz6 : w2.heap.size < w6.heap.size := by omega
  obtain ⟨hc6, hf6⟩ := bcells hb6
  have m0 : (w6.alloc (.cells #[.int .u64 xk, .int .u64 yk] 27)).cell? ⟨w2.heap.size, 0, none⟩ = some (.int .u64 x8) := by go_simp
  have m1 : (w6.alloc (.cells #[.int .u64 xk, .int .u64 yk] 27)).cell? ⟨w2.heap.size, 1, none⟩ = some (.int .u64 y8) := by go_simp
  have m2 : (w6.alloc (.cells #[.int .u64 xk, .int .u64 yk] 27)).cell? ⟨w5.heap.size, 0, none⟩ = some (.int .u64 x8) := by go_simp
  have m3 : (w6.alloc (.cells #[.int .u64 xk, .int .u64 yk] 27)).cell? ⟨w5.heap.size, 1, none⟩ = some (.int .u64 y8) := by go_simp
  have m4 : (w6.alloc (.cells #[.int .u64 xk, .int .u64 yk] 27)).cell? ⟨w6.heap.size, 0, none⟩ = some (.int .u64 xk) := by go_simp
  have m5 : (w6.alloc (.cells #[.int .u64 xk, .int .u64 yk] 27)).cell? ⟨w6.heap.size, 1, none⟩ = some (.int .u64 yk) := by go_simp
  have HB := Lib.hid (ball (bthen hb1 (bthen hb2 (bthen (ball (bref w2) _) (bthen hb3 (bthen hb4 (bthen hb5 (bthen (ball (bref w5) _) hb6))))))) (.cells #[.int .u64 xk, .int .u64 yk] 27))
  have z0 : w2.heap.size < (w6.alloc (.cells #[.int .u64 xk, .int .u64 yk] 27)).heap.size := by simp; omega
  have z1 : w5.heap.size < (w6.alloc (.cells #[.int .u64 xk, .int .u64 yk] 27)).heap.size := by simp; omega
  have z2 : w6.heap.size < (w6.alloc (.cells #[.int .u64 xk, .int .u64 yk] 27)).heap.size := by simp
  clear hc2 hf2 hc3 hf3 hc4 hf4 hc5 hf5 hc6 hf6 hz2 hz3 hz4 hz5 hz6 hy6 s6 hb1 hb2 hb3 hb4 hb5 hb6 H O8 O5 O4 OK U
  go_wp2_with fail
  generalize w6.alloc (.cells #[.int .u64 xk, .int .u64 yk] 27) = v0 at m0 m1 m2 m3 m4 m5 HB z0 z1 z2 ⊢
  generalize w6.heap.size = p6 at m4 m5 z2 ⊢
  generalize w5.heap.size = p5 at m2 m3 z1 ⊢
  generalize w2.heap.size = p2 at m0 m1 z0 ⊢
  have K0 : Below v0.heap.size v0 v0 ∧ p2 < v0.heap.size ∧ p5 < v0.heap.size ∧ p6 < v0.heap.size ∧ v0.cell? ⟨p2, 0, none⟩ = some (.int .u64 x8) ∧ v0.cell? ⟨p2, 1, none⟩ = some (.int .u64 y8) ∧ v0.cell? ⟨p5, 0, none⟩ = some (.int .u64 x8) ∧ v0.cell? ⟨p5, 1, none⟩ = some (.int .u64 y8) ∧ v0.cell? ⟨p6, 0, none⟩ = some (.int .u64 xk) ∧ v0.cell? ⟨p6, 1, none⟩ = some (.int .u64 yk) := ⟨bref v0, z0, z1, z2, m0, m1, m2, m3, m4, m5⟩
  have G0 := Lib.hid K0
  clear K0
  refine (A.out _).mono ?_
  rintro e w7 ⟨rfl, hb7⟩
  have G7 := Lib.hid (held6_step G0.out hb7)
  obtain ⟨-, -, -, -, n70, n71, n72, n73, n74, n75⟩ := G7.out
  go_wp2_with (first
    | (go_at_call 21; refine (E.out _).mono ?_; rintro e w8 ⟨rfl, hb8⟩; have G8 := Lib.hid (held6_step G7.out hb8); obtain ⟨-, -, -, -, n80, n81, n82, n83, n84, n85⟩ := G8.out))
  go_ret
  exact ⟨rfl, bthen HB.out (bthen hb7 hb8)⟩

theorem walk_out (s k q : Int) (h : ¬ ((s = 0 ∨ s = 1) ∧ (1 ≤ k ∧ k ≤ 15) ∧ 0 ≤ q ∧ q ≤ 80)) (w : World) :
    Calls Try.prog 7 #[.int .i64 s, .int .i64 k, .int .i64 q] w fun e w' => e = .returned (.bool true) ∧ Below w.heap.size w w' := by
  have H := Lib.hid (steps_true w)
  by_cases hs : s = 0 ∨ s = 1
  · have hr : k < 1 ∨ (1 ≤ k ∧ 15 < k) ∨ ((1 ≤ k ∧ k ≤ 15) ∧ q < 0) ∨ ((1 ≤ k ∧ k ≤ 15) ∧ 0 ≤ q ∧ 80 < q) := by omega
    clear h
    rcases hs with rfl | rfl <;> rcases hr with a | ⟨a, b⟩ | ⟨⟨a, b⟩, c⟩ | ⟨⟨a, b⟩, c, d⟩
    all_goals
      go_enter Try.func7, Try.ntmps7
      go_wp2_with (go_at_call 8; refine H.out.mono ?_; rintro e w1 ⟨rfl, hb1⟩)
      go_ret
      exact ⟨rfl, hb1⟩
  · have b0 : (s != 0) = true := by simp; omega
    have b1 : (s != 1) = true := by simp; omega
    clear h hs
    go_enter Try.func7, Try.ntmps7
    go_wp2_with (go_at_call 8; refine H.out.mono ?_; rintro e w1 ⟨rfl, hb1⟩)
    go_ret
    exact ⟨rfl, hb1⟩

theorem walk (s k q : Int) (g0 : (Lit.int .i64 s).wf = true) (g1 : (Lit.int .i64 k).wf = true) (g2 : (Lit.int .i64 q).wf = true) (w : World) :
    Calls Try.prog 7 #[.int .i64 s, .int .i64 k, .int .i64 q] w fun e w' => e = .returned (.bool true) ∧ Below w.heap.size w w' := by
  by_cases h : (s = 0 ∨ s = 1) ∧ (1 ≤ k ∧ k ≤ 15) ∧ 0 ≤ q ∧ q ≤ 80
  · obtain ⟨hs, hk, hq⟩ := h
    by_cases h3 : k = 3
    · subst h3
      rcases hs with rfl | rfl
      · exact walk_n0 q hq w
      · exact walk_n1 q hq w
    · rcases hs with rfl | rfl
      · exact walk_k0 k q hk h3 hq w
      · exact walk_k1 k q hk h3 hq w
  · exact walk_out s k q h w
end Go.Proofs.Ytopggngfchjfhaa.stepKings
