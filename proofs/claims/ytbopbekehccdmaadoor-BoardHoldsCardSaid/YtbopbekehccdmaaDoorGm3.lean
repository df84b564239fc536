/-
  Games in memory: canGo, Can.
-/
import Derived.Test.YtbopbekehccdmaaDoorGm1
import Derived.Test.YtbopbekehccdmaaDoorMv1
import Derived.Deep.QuietTactic
import Derived.BigQuiet
namespace Go.Proofs.YtbopbekehccdmaaDoor
open Go.RowKit
set_option linter.unusedVariables false
set_option linter.unusedSimpArgs false

theorem Gm.drewN {w : World} {g b : Nat} {z : List Int} {K : Nat} {v : Value} (h : Gm w g b z K v) (n : Nat) : Gm (w.drewN n) g b z K v := h
/-- Whether a piece x goes onto a square on which y stands. -/
def goB (s x y : Int) (p : Bool) : Bool := if sideF x ≠ s ∨ sideF y = s ∨ kindF y = 8 then false else (!p || upF (kindF x) != 0)
set_option maxHeartbeats 2000000 in
theorem canGo_any (g b : Nat) (z : List Int) (K : Nat) (v : Value) (f t d : Int) (p : Bool) (hf : 0 ≤ f ∧ f < 81) (ht : 0 ≤ t ∧ t < 81) (hft : f ≠ t) (hz : z.length = 98) (h8 : I8s z) (w : World) (h : Gm w g b z K v) :
    Calls Tryd.prog 90 #[.pointer (some ⟨g, 0, none⟩), .agg #[.int .i64 f, .int .i64 t, .int .i64 d, .bool p]] w fun e w' => e = .returned (.bool (goB (at8 z 97) (at8 z f.toNat) (at8 z t.toNat) p)) ∧ Below w.heap.size w w' := by
  have A1 := Lib.hid (fun W (hb : Brd W b z) => at_brd b z f hz W hb)
  rw [if_pos hf] at A1
  have A2 := Lib.hid (fun W (hb : Brd W b z) => at_brd b z t hz W hb)
  rw [if_pos ht] at A2
  have MO := Lib.hid (fun W (h : Gm W g b z K v) => mover_any g b z K v hz h8 W h)
  have hx := h8.at f.toNat
  have hy := h8.at t.toNat
  have S1 := Lib.hid (fun W => side_any (at8 z f.toNat) W hx.1 hx.2)
  have S2 := Lib.hid (fun W => side_any (at8 z t.toNat) W hy.1 hy.2)
  have K1 := Lib.hid (fun W => kind_any (at8 z f.toNat) W hx.1 hx.2)
  have K2 := Lib.hid (fun W => kind_any (at8 z t.toNat) W hy.1 hy.2)
  have U1 := Lib.hid (fun W => up_any (kindF (at8 z f.toNat)) W)
  unfold goB
  have H := Lib.hid (fun A => h.grow (ball (bref w) A))
  obtain ⟨g0, g1, g2⟩ := h.1.cells
  have zg := h.1.lt
  clear h hz h8 hf ht hx hy
  generalize at8 z 97 = s at *
  generalize at8 z f.toNat = x at *
  generalize at8 z t.toNat = y at *
  generalize sideF x = sx at *
  generalize sideF y = sy at *
  generalize kindF y = ky at *
  generalize kindF x = kx at *
  generalize upF kx = ux at *
  have H := Lib.hid (H.out (.cells #[.int .i64 f, .int .i64 t, .int .i64 d, .bool p] 64))
  by_cases h1 : sx = s
  · have b1 : (sx != s) = false := by simpa using h1
    by_cases h2 : sy = s
    · rw [if_pos (.inr (.inl h2))]
      have b2 : (sy == s) = true := by simpa using h2
      clear h1 h2
      go_enter Tryd.func90, Tryd.ntmps90
      go_wp2_with fail
      go_quiet (first
        | (go_at_call_of 19 (Value.int .i64 f); exact Calls.quiet_of_same ((A1.out _ (H.out.drewN _).2.1).mono fun _ _ h => ⟨h.1, h.2.symm⟩))
        | (go_at_call 19; exact Calls.quiet_of_same ((A2.out _ (H.out.drewN _).2.1).mono fun _ _ h => ⟨h.1, h.2.symm⟩)))
      go_wp2_with (first
        | (go_at_call_of 68 (Value.int .i8 x); refine (S1.out _).mono ?_; rintro e w1 ⟨rfl, rfl⟩)
        | (go_at_call 68; refine (S2.out _).mono ?_; rintro e w2 ⟨rfl, rfl⟩)
        | (go_at_call 89; refine (MO.out _ (H.out.drewN _)).mono ?_; rintro e w3 ⟨rfl, rfl⟩)
        | (go_at_call_of 108 (Value.int .i8 y); refine (K2.out _).mono ?_; rintro e w4 ⟨rfl, rfl⟩)
        | (go_at_call 108; refine (K1.out _).mono ?_; rintro e w5 ⟨rfl, rfl⟩)
        | (go_at_call 114; refine (U1.out _).mono ?_; rintro e w6 ⟨rfl, rfl⟩))
      go_ret
      exact ⟨rfl, bdrewN (ball (bref w) _) _⟩
    · have b2 : (sy == s) = false := by simpa using h2
      by_cases h3 : ky = 8
      · rw [if_pos (.inr (.inr h3))]
        have b3 : (ky == 8) = true := by simpa using h3
        clear h1 h2 h3
        go_enter Tryd.func90, Tryd.ntmps90
        go_wp2_with fail
        go_quiet (first
          | (go_at_call_of 19 (Value.int .i64 f); exact Calls.quiet_of_same ((A1.out _ (H.out.drewN _).2.1).mono fun _ _ h => ⟨h.1, h.2.symm⟩))
          | (go_at_call 19; exact Calls.quiet_of_same ((A2.out _ (H.out.drewN _).2.1).mono fun _ _ h => ⟨h.1, h.2.symm⟩)))
        go_wp2_with (first
          | (go_at_call_of 68 (Value.int .i8 x); refine (S1.out _).mono ?_; rintro e w1 ⟨rfl, rfl⟩)
          | (go_at_call 68; refine (S2.out _).mono ?_; rintro e w2 ⟨rfl, rfl⟩)
          | (go_at_call 89; refine (MO.out _ (H.out.drewN _)).mono ?_; rintro e w3 ⟨rfl, rfl⟩)
          | (go_at_call_of 108 (Value.int .i8 y); refine (K2.out _).mono ?_; rintro e w4 ⟨rfl, rfl⟩)
          | (go_at_call 108; refine (K1.out _).mono ?_; rintro e w5 ⟨rfl, rfl⟩)
          | (go_at_call 114; refine (U1.out _).mono ?_; rintro e w6 ⟨rfl, rfl⟩))
        go_ret
        exact ⟨rfl, bdrewN (ball (bref w) _) _⟩
      · rw [if_neg (by omega)]
        have b3 : (ky == 8) = false := by simpa using h3
        clear h1 h2 h3
        cases p
        all_goals
          go_enter Tryd.func90, Tryd.ntmps90
          go_wp2_with fail
          go_quiet (first
            | (go_at_call_of 19 (Value.int .i64 f); exact Calls.quiet_of_same ((A1.out _ (H.out.drewN _).2.1).mono fun _ _ h => ⟨h.1, h.2.symm⟩))
            | (go_at_call 19; exact Calls.quiet_of_same ((A2.out _ (H.out.drewN _).2.1).mono fun _ _ h => ⟨h.1, h.2.symm⟩)))
          go_wp2_with (first
            | (go_at_call_of 68 (Value.int .i8 x); refine (S1.out _).mono ?_; rintro e w1 ⟨rfl, rfl⟩)
            | (go_at_call 68; refine (S2.out _).mono ?_; rintro e w2 ⟨rfl, rfl⟩)
            | (go_at_call 89; refine (MO.out _ (H.out.drewN _)).mono ?_; rintro e w3 ⟨rfl, rfl⟩)
            | (go_at_call_of 108 (Value.int .i8 y); refine (K2.out _).mono ?_; rintro e w4 ⟨rfl, rfl⟩)
            | (go_at_call 108; refine (K1.out _).mono ?_; rintro e w5 ⟨rfl, rfl⟩)
            | (go_at_call 114; refine (U1.out _).mono ?_; rintro e w6 ⟨rfl, rfl⟩))
          go_ret
          exact ⟨rfl, bdrewN (ball (bref w) _) _⟩
  · rw [if_pos (.inl h1)]
    have b1 : (sx != s) = true := by simpa using h1
    clear h1
    go_enter Tryd.func90, Tryd.ntmps90
    go_wp2_with fail
    go_quiet (first
      | (go_at_call_of 19 (Value.int .i64 f); exact Calls.quiet_of_same ((A1.out _ (H.out.drewN _).2.1).mono fun _ _ h => ⟨h.1, h.2.symm⟩))
      | (go_at_call 19; exact Calls.quiet_of_same ((A2.out _ (H.out.drewN _).2.1).mono fun _ _ h => ⟨h.1, h.2.symm⟩)))
    go_wp2_with (first
      | (go_at_call_of 68 (Value.int .i8 x); refine (S1.out _).mono ?_; rintro e w1 ⟨rfl, rfl⟩)
      | (go_at_call 68; refine (S2.out _).mono ?_; rintro e w2 ⟨rfl, rfl⟩)
      | (go_at_call 89; refine (MO.out _ (H.out.drewN _)).mono ?_; rintro e w3 ⟨rfl, rfl⟩)
      | (go_at_call_of 108 (Value.int .i8 y); refine (K2.out _).mono ?_; rintro e w4 ⟨rfl, rfl⟩)
      | (go_at_call 108; refine (K1.out _).mono ?_; rintro e w5 ⟨rfl, rfl⟩)
      | (go_at_call 114; refine (U1.out _).mono ?_; rintro e w6 ⟨rfl, rfl⟩))
    go_ret
    exact ⟨rfl, bdrewN (ball (bref w) _) _⟩
end Go.Proofs.YtbopbekehccdmaaDoor
