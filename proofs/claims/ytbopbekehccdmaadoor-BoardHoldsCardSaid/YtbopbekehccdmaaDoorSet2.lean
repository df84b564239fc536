/-
  The set package's With, Without, Has, Not.
-/
import Derived.Test.YtbopbekehccdmaaDoorSet1
namespace Go.Proofs.YtbopbekehccdmaaDoor
open Go.RowKit
set_option linter.unusedVariables false

theorem with_any (n : Nat) (q : Int) (hn : Sq n) (w : World) :
    Calls Tryd.prog 20 #[.agg #[.int .u64 (loW n), .int .u64 (hiW n)], .int .i64 q] w fun e w' => e = .returned (.agg #[.int .u64 (loW (n ||| oneN q)), .int .u64 (hiW (n ||| oneN q))]) ∧ Below w.heap.size w w' := by
  have C := Lib.hid (fun W => or_any n (oneN q) hn (oneN_sq q) W)
  have S := Lib.hid (fun W => single_any q W)
  clear hn
  generalize loW (n ||| oneN q) = x at C ⊢
  generalize hiW (n ||| oneN q) = y at C ⊢
  generalize loW (oneN q) = s at C S
  generalize hiW (oneN q) = t at C S
  generalize loW n = a at C ⊢
  generalize hiW n = b at C ⊢
  go_enter Tryd.func20, Tryd.ntmps20
  go_wp2
  go_region_with (first
    | (go_at_call 70; refine (S.out _).mono ?_; rintro e w1 ⟨rfl, hb1⟩; obtain ⟨hc1, hf1⟩ := bcells hb1; have hz1 : w.heap.size + 1 < w1.heap.size := by (have := hb1.size; simp at this; omega))
    | (go_at_call 25; refine (C.out _).mono ?_; rintro e w2 ⟨rfl, hb2⟩; obtain ⟨hc2, hf2⟩ := bcells hb2; have hz2 : w1.heap.size ≤ w2.heap.size := hb2.size))
  all_goals
    go_wp2
    exact bodyPost_ret (v := .agg #[.int .u64 x, .int .u64 y]) (by simp [results, Tryd.results20, go_sem, hc1, hc2, hz1]) rfl
      ⟨rfl, ((bthen (bthen (ball (ball (bref w) _) _).drew hb1) hb2).setCell (by simp) _).setCell (by simp) _⟩

theorem without_any (n : Nat) (q : Int) (hn : Sq n) (w : World) :
    Calls Tryd.prog 104 #[.agg #[.int .u64 (loW n), .int .u64 (hiW n)], .int .i64 q] w fun e w' => e = .returned (.agg #[.int .u64 (loW (minusN n (oneN q))), .int .u64 (hiW (minusN n (oneN q)))]) ∧ Below w.heap.size w w' := by
  have C := Lib.hid (fun W => minus_any n (oneN q) hn (oneN_sq q) W)
  have S := Lib.hid (fun W => single_any q W)
  clear hn
  generalize loW (minusN n (oneN q)) = x at C ⊢
  generalize hiW (minusN n (oneN q)) = y at C ⊢
  generalize loW (oneN q) = s at C S
  generalize hiW (oneN q) = t at C S
  generalize loW n = a at C ⊢
  generalize hiW n = b at C ⊢
  go_enter Tryd.func104, Tryd.ntmps104
  go_wp2
  go_region_with (first
    | (go_at_call 70; refine (S.out _).mono ?_; rintro e w1 ⟨rfl, hb1⟩; obtain ⟨hc1, hf1⟩ := bcells hb1; have hz1 : w.heap.size + 1 < w1.heap.size := by (have := hb1.size; simp at this; omega))
    | (go_at_call 60; refine (C.out _).mono ?_; rintro e w2 ⟨rfl, hb2⟩; obtain ⟨hc2, hf2⟩ := bcells hb2; have hz2 : w1.heap.size ≤ w2.heap.size := hb2.size))
  all_goals
    go_wp2
    exact bodyPost_ret (v := .agg #[.int .u64 x, .int .u64 y]) (by simp [results, Tryd.results104, go_sem, hc1, hc2, hz1]) rfl
      ⟨rfl, ((bthen (bthen (ball (ball (bref w) _) _).drew hb1) hb2).setCell (by simp) _).setCell (by simp) _⟩

theorem has_any (n : Nat) (q : Int) (hn : Sq n) (w : World) :
    Calls Tryd.prog 22 #[.agg #[.int .u64 (loW n), .int .u64 (hiW n)], .int .i64 q] w fun e w' => e = .returned (.bool (!decide (n &&& oneN q = 0))) ∧ Below w.heap.size w w' := by
  have C := Lib.hid (fun W => and_any n (oneN q) hn (oneN_sq q) W)
  have S := Lib.hid (fun W => single_any q W)
  have E := Lib.hid (fun W => empty_any (n &&& oneN q) W)
  clear hn
  generalize decide (n &&& oneN q = 0) = z at E ⊢
  generalize loW (n &&& oneN q) = x at C E
  generalize hiW (n &&& oneN q) = y at C E
  generalize loW (oneN q) = s at C S
  generalize hiW (oneN q) = t at C S
  generalize loW n = a at C ⊢
  generalize hiW n = b at C ⊢
  go_enter Tryd.func22, Tryd.ntmps22
  go_wp2
  go_region_with (first
    | (go_at_call 70; refine (S.out _).mono ?_; rintro e w1 ⟨rfl, hb1⟩; obtain ⟨hc1, hf1⟩ := bcells hb1; have hz1 : w.heap.size < w1.heap.size := by (have := hb1.size; simp at this; omega))
    | (go_at_call 62; refine (C.out _).mono ?_; rintro e w2 ⟨rfl, hb2⟩)
    | (go_at_call 46; refine (E.out _).mono ?_; rintro e w3 ⟨rfl, hb3⟩))
  all_goals
    go_wp2
    go_ret
    exact ⟨rfl, bthen (bthen (bthen (ball (bref w) _).drew hb1) hb2) hb3⟩
end Go.Proofs.YtbopbekehccdmaaDoor
