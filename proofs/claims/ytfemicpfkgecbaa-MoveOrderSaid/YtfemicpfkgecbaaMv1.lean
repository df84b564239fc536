/-
  The names of moves: what isSquare, Check, Square and Text return for every argument.
-/
import Derived.Test.YtfemicpfkgecbaaMoveMath
import Derived.Deep.RegionWith
import Derived.Deep.RegionHeld3
import Derived.Lib.Hide
namespace Go.Proofs.Ytfemicpfkgecbaa
open Go.RowKit
set_option linter.unusedVariables false
set_option linter.unusedSimpArgs false

theorem full_one (q : Int) : (!decide (full &&& oneN q = 0)) = decide (0 ≤ q ∧ q < 81) := by
  unfold oneN
  by_cases h : 0 ≤ q ∧ q < 81
  · rw [if_pos h]
    have : ∀ n : Nat, n < 81 → ¬ (full &&& 2 ^ n = 0) := by decide +kernel
    rw [decide_eq_false (this q.toNat (by omega)), decide_eq_true h]
    rfl
  · rw [if_neg h, decide_eq_true (Nat.and_zero _), decide_eq_false h]
    rfl
theorem isq_any (q : Int) (w : World) : Calls Try.prog 21 #[.int .i64 q] w fun e w' => e = .returned (.bool (decide (0 ≤ q ∧ q < 81))) ∧ Below w.heap.size w w' := by
  have H := Lib.hid (fun W => has_any full q Sq.full W)
  rw [full_one] at H
  have A := Lib.hid all_any
  generalize loW full = x at A H
  generalize hiW full = y at A H
  generalize decide (0 ≤ q ∧ q < 81) = b at H
  go_enter Try.func21, Try.ntmps21
  go_wp2_with (first
    | (go_at_call 35; refine (A.out _).mono ?_; rintro e w1 ⟨rfl, hb1⟩)
    | (go_at_call 36; refine (H.out _).mono ?_; rintro e w2 ⟨rfl, hb2⟩))
  go_ret
  exact ⟨rfl, bthen hb1 hb2⟩

theorem squareS_any (q : Int) (w : World) : Calls Try.prog 15 #[.int .i64 q] w fun e w' => e = .returned (.string (sqS q)) ∧ Below w.heap.size w w' := by
  have I := Lib.hid (fun W => isq_any q W)
  by_cases h : 0 ≤ q ∧ q < 81
  · rw [decide_eq_true h] at I
    have E := Lib.hid (sq_encode q h.1 h.2)
    obtain ⟨h0, h1⟩ := h
    have F := Lib.hid (fun W => file_any q W h0 (by omega))
    have R := Lib.hid (fun W => rank_any q W h0 (by omega))
    have e0 : 0 ≤ q / 9 := by omega
    have e1 : q / 9 ≤ 8 := by omega
    have e2 : 0 ≤ q % 9 := by omega
    have e3 : q % 9 ≤ 8 := by omega
    have z0 := encode_le (49 + q / 9)
    have z1 := encode_le (97 + q % 9)
    generalize q / 9 = a at F E e0 e1 z0
    generalize q % 9 = b at R E e2 e3 z1
    have hs : ¬ 9223372036854775807 < (Utf8.encode (49 + a)).size + (Utf8.encode (97 + b)).size := by omega
    clear z0 z1
    go_enter Try.func15, Try.ntmps15
    go_wp2_with (first
      | (go_at_call 21; refine (I.out _).mono ?_; rintro e w1 ⟨rfl, hb1⟩)
      | (go_at_call 26; refine (F.out _).mono ?_; rintro e w2 ⟨rfl, rfl⟩)
      | (go_at_call 27; refine (R.out _).mono ?_; rintro e w3 ⟨rfl, rfl⟩))
    go_ret
    exact ⟨by rw [← E.out]; rfl, hb1⟩
  · rw [decide_eq_false h] at I
    rw [show sqS q = ⟨#[]⟩ from if_neg h]
    clear h
    go_enter Try.func15, Try.ntmps15
    go_wp2_with (go_at_call 21; refine (I.out _).mono ?_; rintro e w1 ⟨rfl, hb1⟩)
    go_ret
    exact ⟨rfl, hb1⟩

theorem checkDrop_any (f t d : Int) (p : Bool) (w : World) (ht : 0 ≤ t ∧ t < 81) (hd : ¬ d = 0) :
    Calls Try.prog 22 #[.agg #[.int .i64 f, .int .i64 t, .int .i64 d, .bool p]] w fun e w' => e = .returned (.int .i64 (checkM f t d p)) ∧ Below w.heap.size w w' := by
  have hv : checkM f t d p = if 1 ≤ d ∧ d ≤ 7 ∧ f = 0 ∧ p = false then 0 else 70 := by
    unfold checkM
    rw [if_pos ht, if_neg hd]
  rw [hv]
  clear hv ht hd
  by_cases h1 : d < 1
  · rw [if_neg (by omega)]
    go_enter Try.func22, Try.ntmps22
    go_wp2
    go_ret
    exact ⟨rfl, ball (bref w) _⟩
  · by_cases h7 : 7 < d
    · rw [if_neg (by omega)]
      go_enter Try.func22, Try.ntmps22
      go_wp2
      go_ret
      exact ⟨rfl, ball (bref w) _⟩
    · by_cases hf : f = 0
      · subst hf
        cases p
        · rw [if_pos ⟨by omega, by omega, rfl, rfl⟩]
          go_enter Try.func22, Try.ntmps22
          go_wp2
          go_ret
          exact ⟨rfl, ball (bref w) _⟩
        · rw [if_neg (by simp)]
          go_enter Try.func22, Try.ntmps22
          go_wp2
          go_ret
          exact ⟨rfl, ball (bref w) _⟩
      · rw [if_neg (by omega)]
        have b1 : (f != 0) = true := by simpa using hf
        clear hf
        go_enter Try.func22, Try.ntmps22
        go_wp2
        go_ret
        exact ⟨rfl, ball (bref w) _⟩

theorem check_mv (f t d : Int) (p : Bool) (w : World) :
    Calls Try.prog 11 #[.agg #[.int .i64 f, .int .i64 t, .int .i64 d, .bool p]] w fun e w' => e = .returned (.int .i64 (checkM f t d p)) ∧ Below w.heap.size w w' := by
  have T := Lib.hid (fun W => isq_any t W)
  by_cases ht : 0 ≤ t ∧ t < 81
  · rw [decide_eq_true ht] at T
    by_cases hd : d = 0
    · subst hd
      have F := Lib.hid (fun W => isq_any f W)
      by_cases hf : 0 ≤ f ∧ f < 81
      · rw [decide_eq_true hf] at F
        by_cases he : f = t
        · have hv : checkM f t 0 p = 70 := by unfold checkM; rw [if_pos ht, if_pos rfl, if_pos hf, if_pos he]
          rw [hv]
          have b1 : (f == t) = true := by simpa using he
          clear hv ht hf he
          go_enter Try.func11, Try.ntmps11
          go_wp2_with (first
            | (go_at_call_of 21 (Value.int .i64 t); refine (T.out _).mono ?_; rintro e w1 ⟨rfl, hb1⟩; obtain ⟨hc1, hf1⟩ := bcells hb1; have z1 : w.heap.size < w1.heap.size := by (have := hb1.size; simp at this; omega))
            | (go_at_call_of 21 (Value.int .i64 f); refine (F.out _).mono ?_; rintro e w2 ⟨rfl, hb2⟩; obtain ⟨hc2, hf2⟩ := bcells hb2; have z2 : w.heap.size < w2.heap.size := by (have := hb2.size; omega)))
          go_ret
          exact ⟨rfl, bthen (bthen (ball (bref w) _) hb1) hb2⟩
        · have hv : checkM f t 0 p = 0 := by unfold checkM; rw [if_pos ht, if_pos rfl, if_pos hf, if_neg he]
          rw [hv]
          have b1 : (f == t) = false := by simpa using he
          clear hv ht hf he
          go_enter Try.func11, Try.ntmps11
          go_wp2_with (first
            | (go_at_call_of 21 (Value.int .i64 t); refine (T.out _).mono ?_; rintro e w1 ⟨rfl, hb1⟩; obtain ⟨hc1, hf1⟩ := bcells hb1; have z1 : w.heap.size < w1.heap.size := by (have := hb1.size; simp at this; omega))
            | (go_at_call_of 21 (Value.int .i64 f); refine (F.out _).mono ?_; rintro e w2 ⟨rfl, hb2⟩; obtain ⟨hc2, hf2⟩ := bcells hb2; have z2 : w.heap.size < w2.heap.size := by (have := hb2.size; omega)))
          go_ret
          exact ⟨rfl, bthen (bthen (ball (bref w) _) hb1) hb2⟩
      · rw [decide_eq_false hf] at F
        have hv : checkM f t 0 p = 1 := by unfold checkM; rw [if_pos ht, if_pos rfl, if_neg hf]
        rw [hv]
        clear hv ht hf
        go_enter Try.func11, Try.ntmps11
        go_wp2_with (first
          | (go_at_call_of 21 (Value.int .i64 t); refine (T.out _).mono ?_; rintro e w1 ⟨rfl, hb1⟩; obtain ⟨hc1, hf1⟩ := bcells hb1; have z1 : w.heap.size < w1.heap.size := by (have := hb1.size; simp at this; omega))
          | (go_at_call_of 21 (Value.int .i64 f); refine (F.out _).mono ?_; rintro e w2 ⟨rfl, hb2⟩; obtain ⟨hc2, hf2⟩ := bcells hb2; have z2 : w.heap.size < w2.heap.size := by (have := hb2.size; omega)))
        go_ret
        exact ⟨rfl, bthen (bthen (ball (bref w) _) hb1) hb2⟩
    · have D := Lib.hid (fun W => checkDrop_any f t d p W ht hd)
      have b1 : (d != 0) = true := by simpa using hd
      generalize checkM f t d p = v at D
      clear ht hd
      go_enter Try.func11, Try.ntmps11
      go_wp2_with (first
        | (go_at_call 21; refine (T.out _).mono ?_; rintro e w1 ⟨rfl, hb1⟩; obtain ⟨hc1, hf1⟩ := bcells hb1; have z1 : w.heap.size < w1.heap.size := by (have := hb1.size; simp at this; omega))
        | (go_at_call 22; refine (D.out _).mono ?_; rintro e w2 ⟨rfl, hb2⟩))
      go_ret
      exact ⟨rfl, bthen (bthen (ball (bref w) _) hb1) hb2⟩
  · rw [decide_eq_false ht] at T
    have hv : checkM f t d p = 1 := if_neg ht
    rw [hv]
    clear hv ht
    go_enter Try.func11, Try.ntmps11
    go_wp2_with (go_at_call 21; refine (T.out _).mono ?_; rintro e w1 ⟨rfl, hb1⟩)
    go_ret
    exact ⟨rfl, bthen (ball (bref w) _) hb1⟩

theorem heldM_step {w1 w' w'' : World} {B : Nat} {x y z : Value} (h : Below w1.heap.size w1 w' ∧ B < w'.heap.size ∧ w'.cell? ⟨B, 0, none⟩ = some x ∧ w'.cell? ⟨B, 1, none⟩ = some y ∧ w'.cell? ⟨B, 2, none⟩ = some z) (hb : Below w'.heap.size w' w'') :
    Below w1.heap.size w1 w'' ∧ B < w''.heap.size ∧ w''.cell? ⟨B, 0, none⟩ = some x ∧ w''.cell? ⟨B, 1, none⟩ = some y ∧ w''.cell? ⟨B, 2, none⟩ = some z := by
  obtain ⟨a, b, c, d, e⟩ := h
  obtain ⟨k, -⟩ := bcells hb
  exact ⟨bthen a hb, Nat.lt_of_lt_of_le b hb.size, (k _ _ b).trans c, (k _ _ b).trans d, (k _ _ b).trans e⟩
set_option maxHeartbeats 1000000 in
theorem text_mv (f t d : Int) (p : Bool) (w : World) (hd0 : -9223372036854775808 ≤ d) (hd1 : d ≤ 9223372036854775807) :
    Calls Try.prog 9 #[.agg #[.int .i64 f, .int .i64 t, .int .i64 d, .bool p]] w fun e w' => e = .returned (.string (textS f t d p)) ∧ Below w.heap.size w w' := by
  have C := Lib.hid (fun W => check_mv f t d p W)
  by_cases hc : checkM f t d p = 0
  · rw [hc] at C
    have ST := Lib.hid (fun W => squareS_any t W)
    have st := sqS_size t
    by_cases hd : d = 0
    · have SF := Lib.hid (fun W => squareS_any f W)
      have sf := sqS_size f
      cases p
      · have e := text_go f t d false hc hd rfl
        rw [← e]
        subst hd
        clear hc e hd0 hd1
        generalize sqS t = x at ST st
        generalize sqS f = y at SF sf
        have hs1 : ¬ 9223372036854775807 < y.size + x.size := by omega
        have hs2 : ¬ 9223372036854775807 < y.size + x.size + 1 := by omega
        clear st sf
        go_enter Try.func9, Try.ntmps9
        go_wp2_with (go_at_call 11; refine (C.out _).mono ?_; rintro e w1 ⟨rfl, hb1⟩; obtain ⟨hc1, hf1⟩ := bcells hb1; have z1 : w.heap.size < w1.heap.size := by (have := hb1.size; simp at this; omega))
        have d0 : w1.cell? ⟨w.heap.size, 0, none⟩ = some (.int .i64 f) := by rw [hc1 _ _ (by simp)]; go_simp
        have d1 : w1.cell? ⟨w.heap.size, 1, none⟩ = some (.int .i64 t) := by rw [hc1 _ _ (by simp)]; go_simp
        have d2 : w1.cell? ⟨w.heap.size, 2, none⟩ = some (.int .i64 0) := by rw [hc1 _ _ (by simp)]; go_simp
        have HB1 := Lib.hid (bthen (ball (bref w) _) hb1)
        clear hc1 hf1 hb1
        go_region_held3 (fun w' => Below w1.heap.size w1 w' ∧ w.heap.size < w'.heap.size ∧ w'.cell? ⟨w.heap.size, 0, none⟩ = some (.int .i64 f) ∧ w'.cell? ⟨w.heap.size, 1, none⟩ = some (.int .i64 t) ∧ w'.cell? ⟨w.heap.size, 2, none⟩ = some (.int .i64 0)) (first | assumption | exact ⟨(bref w1).drew, z1, d0, d1, d2⟩ | exact heldM_step (by assumption) hb)
          (first
            | (go_at_call_of 15 (Value.int .i64 f); refine (SF.out _).mono ?_; rintro e wn ⟨rfl, hb⟩)
            | (go_at_call_of 15 (Value.int .i64 t); refine (ST.out _).mono ?_; rintro e wn ⟨rfl, hb⟩))
        rename_i hH
        go_wp2
        go_ret
        exact ⟨rfl, bthen HB1.out hH.1⟩
      · have e := text_up f t d true hc hd rfl
        rw [← e]
        subst hd
        clear hc e hd0 hd1
        generalize sqS t = x at ST st
        generalize sqS f = y at SF sf
        have hs1 : ¬ 9223372036854775807 < y.size + x.size := by omega
        have hs2 : ¬ 9223372036854775807 < y.size + x.size + 1 := by omega
        clear st sf
        go_enter Try.func9, Try.ntmps9
        go_wp2_with (go_at_call 11; refine (C.out _).mono ?_; rintro e w1 ⟨rfl, hb1⟩; obtain ⟨hc1, hf1⟩ := bcells hb1; have z1 : w.heap.size < w1.heap.size := by (have := hb1.size; simp at this; omega))
        have d0 : w1.cell? ⟨w.heap.size, 0, none⟩ = some (.int .i64 f) := by rw [hc1 _ _ (by simp)]; go_simp
        have d1 : w1.cell? ⟨w.heap.size, 1, none⟩ = some (.int .i64 t) := by rw [hc1 _ _ (by simp)]; go_simp
        have d2 : w1.cell? ⟨w.heap.size, 2, none⟩ = some (.int .i64 0) := by rw [hc1 _ _ (by simp)]; go_simp
        have HB1 := Lib.hid (bthen (ball (bref w) _) hb1)
        clear hc1 hf1 hb1
        go_region_held3 (fun w' => Below w1.heap.size w1 w' ∧ w.heap.size < w'.heap.size ∧ w'.cell? ⟨w.heap.size, 0, none⟩ = some (.int .i64 f) ∧ w'.cell? ⟨w.heap.size, 1, none⟩ = some (.int .i64 t) ∧ w'.cell? ⟨w.heap.size, 2, none⟩ = some (.int .i64 0)) (first | assumption | exact ⟨(bref w1).drew, z1, d0, d1, d2⟩ | exact heldM_step (by assumption) hb)
          (first
            | (go_at_call_of 15 (Value.int .i64 f); refine (SF.out _).mono ?_; rintro e wn ⟨rfl, hb⟩)
            | (go_at_call_of 15 (Value.int .i64 t); refine (ST.out _).mono ?_; rintro e wn ⟨rfl, hb⟩))
        rename_i hH
        go_wp2
        go_ret
        exact ⟨rfl, bthen HB1.out hH.1⟩
    · have e := text_drop f t d p hc hd
      have hdd := ((checkM_zero f t d p).1 hc).2
      have PO := Lib.hid (fun W => pof_any 0 d W hd0 hd1)
      have ho : ofF 0 d = d := by
        unfold ofF
        have := rawF_cases d
        rw [if_neg (by omega), if_pos rfl]
      have NA := Lib.hid (fun W => name_any (ofF 0 d) W (by omega) (by omega))
      have sn : (nameF (ofF 0 d)).size ≤ 8 := by
        unfold nameF letterF
        split
        · exact Nat.zero_le _
        · split
          · have := encode_le (atFrom (lettersL (sideF (ofF 0 d))) (rawF (kindF (ofF 0 d))))
            omega
          · rw [ByteArray.size_append]
            have := encode_le (atFrom (lettersL (sideF (ofF 0 d))) (rawF (kindF (ofF 0 d))))
            show 1 + _ ≤ 8
            omega
      rw [← e]
      clear ho hdd
      have b1 : (d != 0) = true := by simpa using hd
      clear hc e hd0 hd1 hd
      generalize sqS t = x at ST st ⊢
      generalize nameF (ofF 0 d) = y at NA sn ⊢
      have hs1 : ¬ 9223372036854775807 < y.size + 1 := by omega
      have hs : ¬ 9223372036854775807 < y.size + 1 + x.size := by omega
      clear st sn
      go_enter Try.func9, Try.ntmps9
      go_wp2_with (go_at_call 11; refine (C.out _).mono ?_; rintro e w1 ⟨rfl, hb1⟩; obtain ⟨hc1, hf1⟩ := bcells hb1; have z1 : w.heap.size < w1.heap.size := by (have := hb1.size; simp at this; omega))
      have d0 : w1.cell? ⟨w.heap.size, 0, none⟩ = some (.int .i64 f) := by rw [hc1 _ _ (by simp)]; go_simp
      have d1 : w1.cell? ⟨w.heap.size, 1, none⟩ = some (.int .i64 t) := by rw [hc1 _ _ (by simp)]; go_simp
      have d2 : w1.cell? ⟨w.heap.size, 2, none⟩ = some (.int .i64 d) := by rw [hc1 _ _ (by simp)]; go_simp
      have HB1 := Lib.hid (bthen (ball (bref w) _) hb1)
      clear hc1 hf1 hb1
      go_region_held3 (fun w' => Below w1.heap.size w1 w' ∧ w.heap.size < w'.heap.size ∧ w'.cell? ⟨w.heap.size, 0, none⟩ = some (.int .i64 f) ∧ w'.cell? ⟨w.heap.size, 1, none⟩ = some (.int .i64 t) ∧ w'.cell? ⟨w.heap.size, 2, none⟩ = some (.int .i64 d)) (first | assumption | exact ⟨(bref w1).drew, z1, d0, d1, d2⟩ | exact heldM_step (by assumption) hb)
        (first
          | (go_at_call 20; refine (PO.out _).mono ?_; rintro e wn ⟨rfl, rfl⟩)
          | (go_at_call 19; refine (NA.out _).mono ?_; rintro e wn ⟨rfl, hb⟩)
          | (go_at_call 15; refine (ST.out _).mono ?_; rintro e wn ⟨rfl, hb⟩))
      rename_i hH
      go_wp2
      go_ret
      exact ⟨rfl, bthen HB1.out hH.1⟩
  · rw [show textS f t d p = ⟨#[]⟩ from if_neg hc]
    have b0 : (checkM f t d p != 0) = true := by simpa using hc
    generalize checkM f t d p = v at C b0
    clear hc hd0 hd1
    go_enter Try.func9, Try.ntmps9
    go_wp2_with (go_at_call 11; refine (C.out _).mono ?_; rintro e w1 ⟨rfl, hb1⟩)
    go_ret
    exact ⟨rfl, bthen (ball (bref w) _) hb1⟩
end Go.Proofs.Ytfemicpfkgecbaa
