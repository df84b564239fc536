/-
  The reference's Text of moves.
-/
import Derived.Test.YtfemicpfkgecbaaMvRef2
import Derived.Test.YtfemicpfkgecbaaMvParse
namespace Go.Proofs.Ytfemicpfkgecbaa
open Go.RowKit
set_option linter.unusedVariables false
set_option linter.unusedSimpArgs false

theorem refSq_b (q : Int) (h0 : 0 ≤ q) (h1 : q < 81) (w : World) : Calls Try.prog 16 #[.int .i64 q] w fun e w' => e = .returned (.string (sqS q)) ∧ Below w.heap.size w w' :=
  (refSq_any q h0 h1 w).mono fun e w' ⟨h, n, hn⟩ => ⟨h, by rw [hn]; exact bdrewN (bref w) n⟩
theorem heldR_step {w1 w' w'' : World} {B : Nat} {x y z u : Value} (h : Below w1.heap.size w1 w' ∧ B < w'.heap.size ∧ w'.cell? ⟨B, 0, none⟩ = some x ∧ w'.cell? ⟨B, 1, none⟩ = some y ∧ w'.cell? ⟨B, 2, none⟩ = some z ∧ w'.cell? ⟨B, 3, none⟩ = some u) (hb : Below w'.heap.size w' w'') :
    Below w1.heap.size w1 w'' ∧ B < w''.heap.size ∧ w''.cell? ⟨B, 0, none⟩ = some x ∧ w''.cell? ⟨B, 1, none⟩ = some y ∧ w''.cell? ⟨B, 2, none⟩ = some z ∧ w''.cell? ⟨B, 3, none⟩ = some u := by
  obtain ⟨a, b, c, d, e, f⟩ := h
  obtain ⟨k, -⟩ := bcells hb
  exact ⟨bthen a hb, Nat.lt_of_lt_of_le b hb.size, (k _ _ b).trans c, (k _ _ b).trans d, (k _ _ b).trans e, (k _ _ b).trans f⟩
set_option maxHeartbeats 1000000 in
theorem refText_mv (f t d : Int) (p : Bool) (w : World) :
    Calls Try.prog 10 #[.agg #[.int .i64 f, .int .i64 t, .int .i64 d, .bool p]] w fun e w' => e = .returned (.string (textS f t d p)) ∧ Below w.heap.size w w' := by
  have C := Lib.hid (fun W => refCheck_mv f t d p W)
  by_cases hc : checkM f t d p = 0
  · rw [hc] at C
    have hcc := (checkM_zero f t d p).1 hc
    have ht0 : 0 ≤ t := by omega
    have ht1 : t < 81 := by omega
    have ST := Lib.hid (fun W => refSq_b t ht0 ht1 W)
    have st := sqS_size t
    by_cases hd : d = 0
    · have hf0 : 0 ≤ f := by omega
      have hf1 : f < 81 := by omega
      clear hcc
      cases p
      · have e := text_go f t d false hc hd rfl
        rw [← e]
        subst hd
        clear hc e
        have SF := Lib.hid (fun W => refSq_b f hf0 hf1 W)
        have sf := sqS_size f
        generalize sqS t = x at ST st
        generalize sqS f = y at SF sf
        have hs1 : ¬ 9223372036854775807 < y.size + x.size := by omega
        have hs2 : ¬ 9223372036854775807 < y.size + x.size + 1 := by omega
        clear st sf hf0 hf1 ht0 ht1
        go_enter Try.func10, Try.ntmps10
        go_wp2_with (go_at_call 12; refine (C.out _).mono ?_; rintro e w1 ⟨rfl, hb1⟩; obtain ⟨hc1, hf1⟩ := bcells hb1; have z1 := sz1 hb1)
        have d0 : w1.cell? ⟨w.heap.size, 0, none⟩ = some (.int .i64 f) := by rw [hc1 _ _ (by simp)]; go_simp
        have d1 : w1.cell? ⟨w.heap.size, 1, none⟩ = some (.int .i64 t) := by rw [hc1 _ _ (by simp)]; go_simp
        have d2 : w1.cell? ⟨w.heap.size, 2, none⟩ = some (.int .i64 0) := by rw [hc1 _ _ (by simp)]; go_simp
        have d3 : w1.cell? ⟨w.heap.size, 3, none⟩ = some (.bool false) := by rw [hc1 _ _ (by simp)]; go_simp
        have HB1 := Lib.hid (bthen (ball (bref w) _) hb1)
        clear hc1 hf1 hb1
        go_region_held3 (fun w' => Below w1.heap.size w1 w' ∧ w.heap.size < w'.heap.size ∧ w'.cell? ⟨w.heap.size, 0, none⟩ = some (.int .i64 f) ∧ w'.cell? ⟨w.heap.size, 1, none⟩ = some (.int .i64 t) ∧ w'.cell? ⟨w.heap.size, 2, none⟩ = some (.int .i64 0) ∧ w'.cell? ⟨w.heap.size, 3, none⟩ = some (.bool false)) (first | assumption | exact ⟨(bref w1).drew, z1, d0, d1, d2, d3⟩ | exact heldR_step (by assumption) hb)
          (first 
            | (go_at_call_of 16 (Value.int .i64 f); refine (SF.out _).mono ?_; rintro e wn ⟨rfl, hb⟩)
            | (go_at_call_of 16 (Value.int .i64 t); refine (ST.out _).mono ?_; rintro e wn ⟨rfl, hb⟩))
        rename_i hH
        obtain ⟨hHb, hHz, g0, g1, g2, g3⟩ := hH
        go_wp2
        go_ret
        exact ⟨rfl, bthen HB1.out hHb⟩
      · have e := text_up f t d true hc hd rfl
        rw [← e]
        subst hd
        clear hc e
        have SF := Lib.hid (fun W => refSq_b f hf0 hf1 W)
        have sf := sqS_size f
        generalize sqS t = x at ST st
        generalize sqS f = y at SF sf
        have hs1 : ¬ 9223372036854775807 < y.size + x.size := by omega
        have hs2 : ¬ 9223372036854775807 < y.size + x.size + 1 := by omega
        clear st sf hf0 hf1 ht0 ht1
        go_enter Try.func10, Try.ntmps10
        go_wp2_with (go_at_call 12; refine (C.out _).mono ?_; rintro e w1 ⟨rfl, hb1⟩; obtain ⟨hc1, hf1⟩ := bcells hb1; have z1 := sz1 hb1)
        have d0 : w1.cell? ⟨w.heap.size, 0, none⟩ = some (.int .i64 f) := by rw [hc1 _ _ (by simp)]; go_simp
        have d1 : w1.cell? ⟨w.heap.size, 1, none⟩ = some (.int .i64 t) := by rw [hc1 _ _ (by simp)]; go_simp
        have d2 : w1.cell? ⟨w.heap.size, 2, none⟩ = some (.int .i64 0) := by rw [hc1 _ _ (by simp)]; go_simp
        have d3 : w1.cell? ⟨w.heap.size, 3, none⟩ = some (.bool true) := by rw [hc1 _ _ (by simp)]; go_simp
        have HB1 := Lib.hid (bthen (ball (bref w) _) hb1)
        clear hc1 hf1 hb1
        go_region_held3 (fun w' => Below w1.heap.size w1 w' ∧ w.heap.size < w'.heap.size ∧ w'.cell? ⟨w.heap.size, 0, none⟩ = some (.int .i64 f) ∧ w'.cell? ⟨w.heap.size, 1, none⟩ = some (.int .i64 t) ∧ w'.cell? ⟨w.heap.size, 2, none⟩ = some (.int .i64 0) ∧ w'.cell? ⟨w.heap.size, 3, none⟩ = some (.bool true)) (first | assumption | exact ⟨(bref w1).drew, z1, d0, d1, d2, d3⟩ | exact heldR_step (by assumption) hb)
          (first 
            | (go_at_call_of 16 (Value.int .i64 f); refine (SF.out _).mono ?_; rintro e wn ⟨rfl, hb⟩)
            | (go_at_call_of 16 (Value.int .i64 t); refine (ST.out _).mono ?_; rintro e wn ⟨rfl, hb⟩))
        rename_i hH
        obtain ⟨hHb, hHz, g0, g1, g2, g3⟩ := hH
        go_wp2
        go_ret
        exact ⟨rfl, bthen HB1.out hHb⟩
    · have e := text_drop f t d p hc hd
      rw [← e]
      rw [show nameF (ofF 0 d) = ⟨#[letB d]⟩ by
        obtain ⟨n, rfl⟩ : ∃ n : Nat, d = n := ⟨d.toNat, by omega⟩
        exact name_letter n (by omega) (by omega)]
      have hs4 : ¬ 9223372036854775807 < 2 + (sqS t).size := by omega
      have hs5 : ¬ 9223372036854775807 < 1 + 1 + (sqS t).size := by omega
      have RL := run_letter d (by omega) (by omega)
      have b0 : (d != 0) = true := by simpa using hd
      generalize letB d = l at RL ⊢
      generalize sqS t = x at ST st hs4 hs5 ⊢
      have hs6 : ¬ 9223372036854775807 < (⟨#[l]⟩ : ByteArray).size + (⟨#[42]⟩ : ByteArray).size + x.size := hs5
      have hz : (⟨#[l]⟩ ++ ⟨#[42]⟩ : ByteArray).size = 2 := rfl
      have hs1 : ¬ 9223372036854775807 < (⟨#[l]⟩ ++ ⟨#[42]⟩ : ByteArray).size + x.size := by rw [hz]; omega
      clear st hc e ht0 ht1 hz hcc hd
      go_enter Try.func10, Try.ntmps10
      go_wp2_with (go_at_call 12; refine (C.out _).mono ?_; rintro e w1 ⟨rfl, hb1⟩; obtain ⟨hc1, hf1⟩ := bcells hb1; have z1 := sz1 hb1)
      have d0 : w1.cell? ⟨w.heap.size, 0, none⟩ = some (.int .i64 f) := by rw [hc1 _ _ (by simp)]; go_simp
      have d1 : w1.cell? ⟨w.heap.size, 1, none⟩ = some (.int .i64 t) := by rw [hc1 _ _ (by simp)]; go_simp
      have d2 : w1.cell? ⟨w.heap.size, 2, none⟩ = some (.int .i64 d) := by rw [hc1 _ _ (by simp)]; go_simp
      have d3 : w1.cell? ⟨w.heap.size, 3, none⟩ = some (.bool p) := by rw [hc1 _ _ (by simp)]; go_simp
      have HB1 := Lib.hid (bthen (ball (bref w) _) hb1)
      clear hc1 hf1 hb1
      go_region_held3 (fun w' => Below w1.heap.size w1 w' ∧ w.heap.size < w'.heap.size ∧ w'.cell? ⟨w.heap.size, 0, none⟩ = some (.int .i64 f) ∧ w'.cell? ⟨w.heap.size, 1, none⟩ = some (.int .i64 t) ∧ w'.cell? ⟨w.heap.size, 2, none⟩ = some (.int .i64 d) ∧ w'.cell? ⟨w.heap.size, 3, none⟩ = some (.bool p)) (first | assumption | exact ⟨(bref w1).drew, z1, d0, d1, d2, d3⟩ | exact heldR_step (by assumption) hb)
        (first | (go_at_call 16; refine (ST.out _).mono ?_; rintro e wn ⟨rfl, hb⟩))
      rename_i hH
      obtain ⟨hHb, hHz, g0, g1, g2, g3⟩ := hH
      go_wp2
      go_ret
      exact ⟨rfl, bthen HB1.out hHb⟩
  · rw [show textS f t d p = ⟨#[]⟩ from if_neg hc]
    have b0 : (checkM f t d p != 0) = true := by simpa using hc
    generalize checkM f t d p = v at C b0
    clear hc
    go_enter Try.func10, Try.ntmps10
    go_wp2_with (go_at_call 12; refine (C.out _).mono ?_; rintro e w1 ⟨rfl, hb1⟩)
    go_ret
    exact ⟨rfl, bthen (ball (bref w) _) hb1⟩
end Go.Proofs.Ytfemicpfkgecbaa
