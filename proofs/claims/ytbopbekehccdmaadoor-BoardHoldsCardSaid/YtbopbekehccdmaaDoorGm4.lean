/-
  Games in memory: Can.
-/
import Derived.Test.YtbopbekehccdmaaDoorGm3
namespace Go.Proofs.YtbopbekehccdmaaDoor
open Go.RowKit
set_option linter.unusedVariables false
set_option linter.unusedSimpArgs false

/-- Whether a move can be made at a position. -/
def canF (z : List Int) (f t d : Int) (p : Bool) : Bool :=
  if checkM f t d p = 0 then
    (if at8 z 97 = 0 ∨ at8 z 97 = 1 then
      (if d = 0 then goB (at8 z 97) (at8 z f.toNat) (at8 z t.toNat) p else decide (0 < handF z (at8 z 97) d ∧ at8 z t.toNat = 0))
    else false)
  else false
theorem mv_cells' {W : World} {b : Nat} {x0 x1 x2 x3 : Value} (h : W.heap[b]? = some (.cells #[x0, x1, x2, x3] 64)) :
    W.cell? ⟨b, 0, none⟩ = some x0 ∧ W.cell? ⟨b, 1, none⟩ = some x1 ∧ W.cell? ⟨b, 2, none⟩ = some x2 ∧ W.cell? ⟨b, 3, none⟩ = some x3 := by
  refine ⟨?_, ?_, ?_, ?_⟩ <;> simp [World.cell?, h]
theorem rowA {w w1 : World} {A : Obj} (hb : Below (w.alloc A).heap.size (w.alloc A) w1) : w1.heap[w.heap.size]? = some A :=
  (hb.block _ (show w.heap.size < (w.alloc A).heap.size by simp)).trans (heap_alloc_new w A)
theorem szA {w w1 : World} {A : Obj} (hb : Below (w.alloc A).heap.size (w.alloc A) w1) : w.heap.size < w1.heap.size := by
  have := hb.size
  simp at this
  omega
set_option maxHeartbeats 1000000 in
theorem can_check (g b : Nat) (z : List Int) (K : Nat) (v : Value) (f t d : Int) (p : Bool) (hz : z.length = 98) (h8 : I8s z) (w : World) (h : Gm w g b z K v) (hc : checkM f t d p ≠ 0) :
    Calls Tryd.prog 41 #[.pointer (some ⟨g, 0, none⟩), .agg #[.int .i64 f, .int .i64 t, .int .i64 d, .bool p]] w fun e w' => e = .returned (.bool false) ∧ Below w.heap.size w w' := by
  have C := Lib.hid (fun W => check_mv f t d p W)
  have b0 : (checkM f t d p != 0) = true := by simpa using hc
  generalize checkM f t d p = c at C b0
  clear h hz h8 hc
  go_enter Tryd.func41, Tryd.ntmps41
  go_wp2_with (go_at_call 87; refine (C.out _).mono ?_; rintro e w1 ⟨rfl, hb1⟩)
  go_ret
  exact ⟨rfl, bthen (ball (bref w) _) hb1⟩
set_option maxHeartbeats 1000000 in
theorem can_side (g b : Nat) (z : List Int) (K : Nat) (v : Value) (f t d : Int) (p : Bool) (hz : z.length = 98) (h8 : I8s z) (w : World) (h : Gm w g b z K v) (hc : checkM f t d p = 0) (h0 : at8 z 97 ≠ 0) (h1 : at8 z 97 ≠ 1) :
    Calls Tryd.prog 41 #[.pointer (some ⟨g, 0, none⟩), .agg #[.int .i64 f, .int .i64 t, .int .i64 d, .bool p]] w fun e w' => e = .returned (.bool false) ∧ Below w.heap.size w w' := by
  have C := Lib.hid (fun W => check_mv f t d p W)
  have HZ := Lib.hid hz
  have H := Lib.hid h
  have hs8 := h8.at 97
  rw [hc] at C
  have b1 : (at8 z 97 != 0) = true := by simpa using h0
  have b2 : (at8 z 97 != 1) = true := by simpa using h1
  obtain ⟨s, hsz⟩ : ∃ s, at8 z 97 = s := ⟨_, rfl⟩
  have HS := Lib.hid hsz
  rw [hsz] at b1 b2
  clear h hz h8 hc h0 h1 hs8 hsz
  go_enter Tryd.func41, Tryd.ntmps41
  go_wp2_with (first
    | (go_at_call 87; refine (C.out _).mono ?_; rintro e w1 ⟨rfl, hb1⟩; have H1 := Lib.hid ((H.out.grow (ball (bref w) _)).grow hb1); have HB1 := Lib.hid (bthen (ball (bref w) _) hb1); obtain ⟨m0, m1, m2, m3⟩ := mv_cells' (rowA hb1); have z1 := szA hb1; obtain ⟨g0, g1, g2⟩ := H1.out.1.cells; have cs := H1.out.2.1.cell HZ.out 97 (by omega); rw [HS.out] at cs)
    | fail)
  go_ret
  exact ⟨rfl, HB1.out⟩
set_option maxHeartbeats 2000000 in
theorem can_go (g b : Nat) (z : List Int) (K : Nat) (v : Value) (f t d : Int) (p : Bool) (hz : z.length = 98) (h8 : I8s z) (w : World) (h : Gm w g b z K v) (hc : checkM f t d p = 0) (h01 : at8 z 97 = 0 ∨ at8 z 97 = 1) (hd : d = 0) :
    Calls Tryd.prog 41 #[.pointer (some ⟨g, 0, none⟩), .agg #[.int .i64 f, .int .i64 t, .int .i64 d, .bool p]] w fun e w' => e = .returned (.bool (goB (at8 z 97) (at8 z f.toNat) (at8 z t.toNat) p)) ∧ Below w.heap.size w w' := by
  have C := Lib.hid (fun W => check_mv f t d p W)
  have HZ := Lib.hid hz
  have H := Lib.hid h
  have hs8 := h8.at 97
  have hcc := (checkM_zero f t d p).1 hc
  have GO := Lib.hid (fun W (h : Gm W g b z K v) => canGo_any g b z K v f t d p (by omega) (by omega) (by omega) hz h8 W h)
  rw [hc] at C
  subst hd
  generalize goB (at8 z 97) (at8 z f.toNat) (at8 z t.toNat) p = r at *
  obtain ⟨s, hsz⟩ : ∃ s, at8 z 97 = s := ⟨_, rfl⟩
  have HS := Lib.hid hsz
  rw [hsz] at h01 
  clear h hz h8 hc hcc hs8 hsz
  rcases h01 with h0 | h1
  · have b1 : (s != 0) = false := by simpa using h0
    clear h0
    go_enter Tryd.func41, Tryd.ntmps41
    go_wp2_with (first
      | (go_at_call 87; refine (C.out _).mono ?_; rintro e w1 ⟨rfl, hb1⟩; have H1 := Lib.hid ((H.out.grow (ball (bref w) _)).grow hb1); have HB1 := Lib.hid (bthen (ball (bref w) _) hb1); obtain ⟨m0, m1, m2, m3⟩ := mv_cells' (rowA hb1); have z1 := szA hb1; obtain ⟨g0, g1, g2⟩ := H1.out.1.cells; have cs := H1.out.2.1.cell HZ.out 97 (by omega); rw [HS.out] at cs)
      | (go_at_call 90; refine (GO.out _ H1.out).mono ?_; rintro e w2 ⟨rfl, hb2⟩))
    go_ret
    exact ⟨rfl, bthen HB1.out hb2⟩
  · have b1 : (s != 0) = true := by simp [h1]
    have b2 : (s != 1) = false := by simpa using h1
    clear h1
    go_enter Tryd.func41, Tryd.ntmps41
    go_wp2_with (first
      | (go_at_call 87; refine (C.out _).mono ?_; rintro e w1 ⟨rfl, hb1⟩; have H1 := Lib.hid ((H.out.grow (ball (bref w) _)).grow hb1); have HB1 := Lib.hid (bthen (ball (bref w) _) hb1); obtain ⟨m0, m1, m2, m3⟩ := mv_cells' (rowA hb1); have z1 := szA hb1; obtain ⟨g0, g1, g2⟩ := H1.out.1.cells; have cs := H1.out.2.1.cell HZ.out 97 (by omega); rw [HS.out] at cs)
      | (go_at_call 90; refine (GO.out _ H1.out).mono ?_; rintro e w2 ⟨rfl, hb2⟩))
    go_ret
    exact ⟨rfl, bthen HB1.out hb2⟩
set_option maxHeartbeats 4000000 in
theorem can_drop (g b : Nat) (z : List Int) (K : Nat) (v : Value) (f t d : Int) (p : Bool) (hz : z.length = 98) (h8 : I8s z) (w : World) (h : Gm w g b z K v) (hc : checkM f t d p = 0) (h01 : at8 z 97 = 0 ∨ at8 z 97 = 1) (hd : d ≠ 0) :
    Calls Tryd.prog 41 #[.pointer (some ⟨g, 0, none⟩), .agg #[.int .i64 f, .int .i64 t, .int .i64 d, .bool p]] w fun e w' => e = .returned (.bool (decide (0 < handF z (at8 z 97) d ∧ at8 z t.toNat = 0))) ∧ Below w.heap.size w w' := by
  have C := Lib.hid (fun W => check_mv f t d p W)
  have HZ := Lib.hid hz
  have H := Lib.hid h
  have hs8 := h8.at 97
  have hcc := (checkM_zero f t d p).1 hc
  have MO := Lib.hid (fun W (h : Gm W g b z K v) => mover_any g b z K v hz h8 W h)
  have HA := Lib.hid (fun W (hb : Brd W b z) => hand_brd b z (at8 z 97) d hz h8 W hb)
  have AT := Lib.hid (fun W (hb : Brd W b z) => at_brd b z t hz W hb)
  rw [if_pos (by omega)] at AT
  rw [hc] at C
  have bd : (d != 0) = true := by simpa using hd
  generalize handF z (at8 z 97) d = n at *
  generalize at8 z t.toNat = y at *
  obtain ⟨s, hsz⟩ : ∃ s, at8 z 97 = s := ⟨_, rfl⟩
  have HS := Lib.hid hsz
  rw [hsz] at h01 MO HA
  clear h hz h8 hc hcc hs8 hsz hd
  by_cases hn : 0 < n
  · have bn : decide (0 < n) = true := decide_eq_true hn
    by_cases hy : y = 0
    · rw [decide_eq_true ⟨hn, hy⟩]
      have by0 : (y == 0) = true := by simpa using hy
      clear hy
      rcases h01 with h0 | h1
      · have b1 : (s != 0) = false := by simpa using h0
        clear h0
        go_enter Tryd.func41, Tryd.ntmps41
        go_wp2_with (first
          | (go_at_call 87; refine (C.out _).mono ?_; rintro e w1 ⟨rfl, hb1⟩; have H1 := Lib.hid ((H.out.grow (ball (bref w) _)).grow hb1); have HB1 := Lib.hid (bthen (ball (bref w) _) hb1); obtain ⟨m0, m1, m2, m3⟩ := mv_cells' (rowA hb1); have z1 := szA hb1; obtain ⟨g0, g1, g2⟩ := H1.out.1.cells; have cs := H1.out.2.1.cell HZ.out 97 (by omega); rw [HS.out] at cs)
          | fail)
        go_quiet (first
          | (go_at_call 89; exact Calls.quiet_of_same ((MO.out _ (H1.out.drewN _)).mono fun _ _ h => ⟨h.1, h.2.symm⟩))
          | (go_at_call 88; exact Calls.quiet_of_same ((HA.out _ (H1.out.drewN _).2.1).mono fun _ _ h => ⟨h.1, h.2.symm⟩))
          | (go_at_call 19; exact Calls.quiet_of_same ((AT.out _ (H1.out.drewN _).2.1).mono fun _ _ h => ⟨h.1, h.2.symm⟩)))
        go_wp2
        go_ret
        exact ⟨rfl, bdrewN HB1.out _⟩
      · have b1 : (s != 0) = true := by simp [h1]
        have b2 : (s != 1) = false := by simpa using h1
        clear h1
        go_enter Tryd.func41, Tryd.ntmps41
        go_wp2_with (first
          | (go_at_call 87; refine (C.out _).mono ?_; rintro e w1 ⟨rfl, hb1⟩; have H1 := Lib.hid ((H.out.grow (ball (bref w) _)).grow hb1); have HB1 := Lib.hid (bthen (ball (bref w) _) hb1); obtain ⟨m0, m1, m2, m3⟩ := mv_cells' (rowA hb1); have z1 := szA hb1; obtain ⟨g0, g1, g2⟩ := H1.out.1.cells; have cs := H1.out.2.1.cell HZ.out 97 (by omega); rw [HS.out] at cs)
          | fail)
        go_quiet (first
          | (go_at_call 89; exact Calls.quiet_of_same ((MO.out _ (H1.out.drewN _)).mono fun _ _ h => ⟨h.1, h.2.symm⟩))
          | (go_at_call 88; exact Calls.quiet_of_same ((HA.out _ (H1.out.drewN _).2.1).mono fun _ _ h => ⟨h.1, h.2.symm⟩))
          | (go_at_call 19; exact Calls.quiet_of_same ((AT.out _ (H1.out.drewN _).2.1).mono fun _ _ h => ⟨h.1, h.2.symm⟩)))
        go_wp2
        go_ret
        exact ⟨rfl, bdrewN HB1.out _⟩
    · rw [decide_eq_false (fun h => hy h.2)]
      have by0 : (y == 0) = false := by simpa using hy
      clear hy
      rcases h01 with h0 | h1
      · have b1 : (s != 0) = false := by simpa using h0
        clear h0
        go_enter Tryd.func41, Tryd.ntmps41
        go_wp2_with (first
          | (go_at_call 87; refine (C.out _).mono ?_; rintro e w1 ⟨rfl, hb1⟩; have H1 := Lib.hid ((H.out.grow (ball (bref w) _)).grow hb1); have HB1 := Lib.hid (bthen (ball (bref w) _) hb1); obtain ⟨m0, m1, m2, m3⟩ := mv_cells' (rowA hb1); have z1 := szA hb1; obtain ⟨g0, g1, g2⟩ := H1.out.1.cells; have cs := H1.out.2.1.cell HZ.out 97 (by omega); rw [HS.out] at cs)
          | fail)
        go_quiet (first
          | (go_at_call 89; exact Calls.quiet_of_same ((MO.out _ (H1.out.drewN _)).mono fun _ _ h => ⟨h.1, h.2.symm⟩))
          | (go_at_call 88; exact Calls.quiet_of_same ((HA.out _ (H1.out.drewN _).2.1).mono fun _ _ h => ⟨h.1, h.2.symm⟩))
          | (go_at_call 19; exact Calls.quiet_of_same ((AT.out _ (H1.out.drewN _).2.1).mono fun _ _ h => ⟨h.1, h.2.symm⟩)))
        go_wp2
        go_ret
        exact ⟨rfl, bdrewN HB1.out _⟩
      · have b1 : (s != 0) = true := by simp [h1]
        have b2 : (s != 1) = false := by simpa using h1
        clear h1
        go_enter Tryd.func41, Tryd.ntmps41
        go_wp2_with (first
          | (go_at_call 87; refine (C.out _).mono ?_; rintro e w1 ⟨rfl, hb1⟩; have H1 := Lib.hid ((H.out.grow (ball (bref w) _)).grow hb1); have HB1 := Lib.hid (bthen (ball (bref w) _) hb1); obtain ⟨m0, m1, m2, m3⟩ := mv_cells' (rowA hb1); have z1 := szA hb1; obtain ⟨g0, g1, g2⟩ := H1.out.1.cells; have cs := H1.out.2.1.cell HZ.out 97 (by omega); rw [HS.out] at cs)
          | fail)
        go_quiet (first
          | (go_at_call 89; exact Calls.quiet_of_same ((MO.out _ (H1.out.drewN _)).mono fun _ _ h => ⟨h.1, h.2.symm⟩))
          | (go_at_call 88; exact Calls.quiet_of_same ((HA.out _ (H1.out.drewN _).2.1).mono fun _ _ h => ⟨h.1, h.2.symm⟩))
          | (go_at_call 19; exact Calls.quiet_of_same ((AT.out _ (H1.out.drewN _).2.1).mono fun _ _ h => ⟨h.1, h.2.symm⟩)))
        go_wp2
        go_ret
        exact ⟨rfl, bdrewN HB1.out _⟩
  · rw [decide_eq_false (fun h => hn h.1)]
    have bn : decide (0 < n) = false := decide_eq_false hn
    rcases h01 with h0 | h1
    · have b1 : (s != 0) = false := by simpa using h0
      clear h0
      go_enter Tryd.func41, Tryd.ntmps41
      go_wp2_with (first
        | (go_at_call 87; refine (C.out _).mono ?_; rintro e w1 ⟨rfl, hb1⟩; have H1 := Lib.hid ((H.out.grow (ball (bref w) _)).grow hb1); have HB1 := Lib.hid (bthen (ball (bref w) _) hb1); obtain ⟨m0, m1, m2, m3⟩ := mv_cells' (rowA hb1); have z1 := szA hb1; obtain ⟨g0, g1, g2⟩ := H1.out.1.cells; have cs := H1.out.2.1.cell HZ.out 97 (by omega); rw [HS.out] at cs)
        | fail)
      go_quiet (first
        | (go_at_call 89; exact Calls.quiet_of_same ((MO.out _ (H1.out.drewN _)).mono fun _ _ h => ⟨h.1, h.2.symm⟩))
        | (go_at_call 88; exact Calls.quiet_of_same ((HA.out _ (H1.out.drewN _).2.1).mono fun _ _ h => ⟨h.1, h.2.symm⟩))
        | (go_at_call 19; exact Calls.quiet_of_same ((AT.out _ (H1.out.drewN _).2.1).mono fun _ _ h => ⟨h.1, h.2.symm⟩)))
      go_wp2
      go_ret
      exact ⟨rfl, bdrewN HB1.out _⟩
    · have b1 : (s != 0) = true := by simp [h1]
      have b2 : (s != 1) = false := by simpa using h1
      clear h1
      go_enter Tryd.func41, Tryd.ntmps41
      go_wp2_with (first
        | (go_at_call 87; refine (C.out _).mono ?_; rintro e w1 ⟨rfl, hb1⟩; have H1 := Lib.hid ((H.out.grow (ball (bref w) _)).grow hb1); have HB1 := Lib.hid (bthen (ball (bref w) _) hb1); obtain ⟨m0, m1, m2, m3⟩ := mv_cells' (rowA hb1); have z1 := szA hb1; obtain ⟨g0, g1, g2⟩ := H1.out.1.cells; have cs := H1.out.2.1.cell HZ.out 97 (by omega); rw [HS.out] at cs)
        | fail)
      go_quiet (first
        | (go_at_call 89; exact Calls.quiet_of_same ((MO.out _ (H1.out.drewN _)).mono fun _ _ h => ⟨h.1, h.2.symm⟩))
        | (go_at_call 88; exact Calls.quiet_of_same ((HA.out _ (H1.out.drewN _).2.1).mono fun _ _ h => ⟨h.1, h.2.symm⟩))
        | (go_at_call 19; exact Calls.quiet_of_same ((AT.out _ (H1.out.drewN _).2.1).mono fun _ _ h => ⟨h.1, h.2.symm⟩)))
      go_wp2
      go_ret
      exact ⟨rfl, bdrewN HB1.out _⟩
theorem can_any (g b : Nat) (z : List Int) (K : Nat) (v : Value) (f t d : Int) (p : Bool) (hz : z.length = 98) (h8 : I8s z) (w : World) (h : Gm w g b z K v) :
    Calls Tryd.prog 41 #[.pointer (some ⟨g, 0, none⟩), .agg #[.int .i64 f, .int .i64 t, .int .i64 d, .bool p]] w fun e w' => e = .returned (.bool (canF z f t d p)) ∧ Below w.heap.size w w' := by
  unfold canF
  by_cases hc : checkM f t d p = 0
  · rw [if_pos hc]
    by_cases h01 : at8 z 97 = 0 ∨ at8 z 97 = 1
    · rw [if_pos h01]
      by_cases hd : d = 0
      · rw [if_pos hd]
        exact can_go g b z K v f t d p hz h8 w h hc h01 hd
      · rw [if_neg hd]
        exact can_drop g b z K v f t d p hz h8 w h hc h01 hd
    · rw [if_neg h01]
      exact can_side g b z K v f t d p hz h8 w h hc (fun e => h01 (.inl e)) (fun e => h01 (.inr e))
  · rw [if_neg hc]
    exact can_check g b z K v f t d p hz h8 w h hc
end Go.Proofs.YtbopbekehccdmaaDoor
