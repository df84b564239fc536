/-
  The set package's With, Without, Has, Not.
-/
import Derived.Test.YtfemicpfkgecbaaSet1
namespace Go.Proofs.Ytfemicpfkgecbaa
open Go.RowKit
set_option linter.unusedVariables false

theorem has_any (n : Nat) (q : Int) (hn : Sq n) (w : World) :
    Calls Try.prog 36 #[.agg #[.int .u64 (loW n), .int .u64 (hiW n)], .int .i64 q] w fun e w' => e = .returned (.bool (!decide (n &&& oneN q = 0))) ∧ Below w.heap.size w w' := by
  have C := Lib.hid (fun W => and_any n (oneN q) hn (oneN_sq q) W)
  have S := Lib.hid (fun W => single_any q W)
  have E := Lib.hid (fun W => empty_any (n &&& oneN q) W)
  clear hn
  generalize decide (n &&& oneN q = 0) = z at E ⊢
  generalize loW (n &&& oneN q) = x at C E
  generalize hiW (n &&& oneN q) = y at C E
  generalize loW (oneN q) = s at C S
  generalize hiW (oneN q) = t at C S
  generalize loW n = a at C ⊢
  generalize hiW n = b at C ⊢
  go_enter Try.func36, Try.ntmps36
  go_wp2
  go_region_with (first
    | (go_at_call 43; refine (S.out _).mono ?_; rintro e w1 ⟨rfl, hb1⟩; obtain ⟨hc1, hf1⟩ := bcells hb1; have hz1 : w.heap.size < w1.heap.size := by (have := hb1.size; simp at this; omega))
    | (go_at_call 42; refine (C.out _).mono ?_; rintro e w2 ⟨rfl, hb2⟩)
    | (go_at_call 44; refine (E.out _).mono ?_; rintro e w3 ⟨rfl, hb3⟩))
  all_goals
    go_wp2
    go_ret
    exact ⟨rfl, bthen (bthen (bthen (ball (bref w) _).drew hb1) hb2) hb3⟩
end Go.Proofs.Ytfemicpfkgecbaa
