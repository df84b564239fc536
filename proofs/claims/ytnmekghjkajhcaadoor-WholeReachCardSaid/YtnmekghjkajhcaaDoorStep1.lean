/-
  The step package's leaf calls: isSquare, Turn, From, Far.
-/
import Derived.Test.YtnmekghjkajhcaaDoorDirs
import Derived.Test.YtnmekghjkajhcaaDoorRefKind
namespace Go.Proofs.YtnmekghjkajhcaaDoor
open Go.RowKit
set_option linter.unusedVariables false

theorem wrap_i64_eq (n : Int) : IntKind.i64.wrap n = wrap64 n := by rw [IntKind.wrap_i64]; unfold wrap64; rfl
theorem stays {P : Program} {f : FuncId} {a : Array Value} {w : World} {E : Ending} (h : Calls P f a w fun e w' => e = E ∧ w = w') : Calls P f a w fun e w' => e = E ∧ Below w.heap.size w w' :=
  h.mono fun e w' h => ⟨h.1, h.2 ▸ bref w⟩
theorem held2_fst {wc W : World} {s : Nat} {x y : Value} (h : Below wc.heap.size wc W ∧ s < W.heap.size ∧ W.cell? ⟨s, 0, none⟩ = some x ∧ W.cell? ⟨s, 1, none⟩ = some y) : Below wc.heap.size wc W := h.1
/-- One variable of two cells, held while a statement makes memory. -/
theorem held2_step {wc W w' : World} {s : Nat} {x y : Value} (h : Below wc.heap.size wc W ∧ s < W.heap.size ∧ W.cell? ⟨s, 0, none⟩ = some x ∧ W.cell? ⟨s, 1, none⟩ = some y) (hb : Below W.heap.size W w') :
    Below wc.heap.size wc w' ∧ s < w'.heap.size ∧ w'.cell? ⟨s, 0, none⟩ = some x ∧ w'.cell? ⟨s, 1, none⟩ = some y := by
  obtain ⟨h0, h1, h3, h4⟩ := h
  have hs := hb.size
  exact ⟨bthen h0 hb, by omega, (hb.cell (p := ⟨s, 0, none⟩) h1).trans h3, (hb.cell (p := ⟨s, 1, none⟩) h1).trans h4⟩

theorem isSquare_any (q : Int) (w : World) :
    Calls Tryd.prog 30 #[.int .i64 q] w fun e w' => e = .returned (.bool (decide (0 ≤ q ∧ q < 81))) ∧ w = w' := by
  by_cases a : 0 ≤ q
  · by_cases b : q < 81
    · rw [show decide (0 ≤ q ∧ q < 81) = true by simp [a, b]]
      go_enter Tryd.func30, Tryd.ntmps30
      go_wp2
      go_ret
      exact ⟨rfl, rfl⟩
    · rw [show decide (0 ≤ q ∧ q < 81) = false by simp [a, b]]
      go_enter Tryd.func30, Tryd.ntmps30
      go_wp2
      go_ret
      exact ⟨rfl, rfl⟩
  · rw [show decide (0 ≤ q ∧ q < 81) = false by simp [a]]
    go_enter Tryd.func30, Tryd.ntmps30
    go_wp2
    go_ret
    exact ⟨rfl, rfl⟩

theorem turn_any (f r s : Int) (w : World) :
    Calls Tryd.prog 39 #[.agg #[.int .i64 f, .int .i64 r], .int .i64 s] w fun e w' => e = .returned (.agg #[.int .i64 (turnF s (f, r)).1, .int .i64 (turnF s (f, r)).2]) ∧ Below w.heap.size w w' := by
  by_cases h : s = 1
  · subst h
    rw [show turnF 1 (f, r) = (wrap64 (-f), wrap64 (-r)) from rfl]
    go_enter Tryd.func39, Tryd.ntmps39
    go_wp2
    exact bodyPost_ret (v := .agg #[.int .i64 (wrap64 (-f)), .int .i64 (wrap64 (-r))]) (by simp [results, Tryd.results39, go_sem]) rfl ⟨rfl, ball (ball (bref _) _) _⟩
  · rw [show turnF s (f, r) = (f, r) from if_neg h]
    go_enter Tryd.func39, Tryd.ntmps39
    go_wp2
    exact bodyPost_ret (v := .agg #[.int .i64 f, .int .i64 r]) (by simp [results, Tryd.results39, go_sem]) rfl ⟨rfl, ball (ball (bref _) _) _⟩

theorem from_any (f r q : Int) (w : World) :
    Calls Tryd.prog 15 #[.agg #[.int .i64 f, .int .i64 r], .int .i64 q] w fun e w' => e = .returned (.int .i64 (fromF (f, r) q)) ∧ Below w.heap.size w w' := by
  have I := Lib.hid (fun W => isSquare_any q W)
  by_cases h : 0 ≤ q ∧ q < 81
  · rw [show fromF (f, r) q = squareF (wrap64 (q / 9 + f)) (wrap64 (q % 9 + r)) from if_pos h]
    rw [show decide (0 ≤ q ∧ q < 81) = true by simp [h]] at I
    have F := Lib.hid (fun W => stays (file_any q W h.1 (by omega)))
    have R := Lib.hid (fun W => stays (rank_any q W h.1 (by omega)))
    have S := Lib.hid (fun W => stays (square_any (wrap64 (q / 9 + f)) (wrap64 (q % 9 + r)) W))
    have e1 : IntKind.i64.wrap (q / 9 + f) = wrap64 (q / 9 + f) := wrap_i64_eq _
    have e2 : IntKind.i64.wrap (q % 9 + r) = wrap64 (q % 9 + r) := wrap_i64_eq _
    generalize h1 : wrap64 (q / 9 + f) = A at S e1 ⊢
    generalize h2 : wrap64 (q % 9 + r) = B at S e2 ⊢
    generalize squareF A B = z at S ⊢
    go_enter Tryd.func15, Tryd.ntmps15
    go_wp2_with (go_at_call 30; refine (I.out _).mono ?_; rintro e w1 ⟨rfl, rfl⟩)
    go_region_held3 (fun w' => Below w.heap.size w w' ∧ w.heap.size < w'.heap.size ∧ w'.cell? ⟨w.heap.size, 0, none⟩ = some (.int .i64 f) ∧ w'.cell? ⟨w.heap.size, 1, none⟩ = some (.int .i64 r)) (first | exact ⟨(ball (bref w) _).drew, by simp, by go_simp, by go_simp⟩ | exact held2_step (by assumption) hb)
      (first
        | (go_at_call 32; refine (F.out _).mono ?_; rintro e wn ⟨rfl, hb⟩)
        | (go_at_call 33; refine (R.out _).mono ?_; rintro e wn ⟨rfl, hb⟩)
        | (go_at_call 31; refine (S.out _).mono ?_; rintro e wn ⟨rfl, hb⟩))
    go_wp2
    go_ret
    exact ⟨rfl, held2_fst (by assumption)⟩
  · rw [show fromF (f, r) q = -1 from if_neg h]
    rw [show decide (0 ≤ q ∧ q < 81) = false by simpa using h] at I
    go_enter Tryd.func15, Tryd.ntmps15
    go_wp2_with (go_at_call 30; refine (I.out _).mono ?_; rintro e w1 ⟨rfl, rfl⟩)
    go_ret
    exact ⟨rfl, ball (bref _) _⟩

def farF (s q : Int) : Int := if 0 ≤ q ∧ q < 81 then (if s = 0 then q % 9 else if s = 1 then 8 - q % 9 else -1) else -1
end Go.Proofs.YtnmekghjkajhcaaDoor
