import Derived.Test.YtfemicpfkgecbaaMvRef
import Derived.Deep.QuietTactic
import Derived.BigQuiet
namespace Go.Proofs.Ytfemicpfkgecbaa
open Go.RowKit
set_option linter.unusedVariables false
set_option linter.unusedSimpArgs false

theorem quo9 (a b : Nat) (h : b < 9) : Int.tdiv (9 * a + b : Int) 9 = a := by
  rw [Int.tdiv_eq_ediv_of_nonneg (by omega)]; omega
theorem rem9 (a b : Nat) (h : b < 9) : Int.tmod (9 * a + b : Int) 9 = b := by
  rw [Int.tmod_eq_emod_of_nonneg (by omega)]; omega
theorem run_file (f : Nat) (hf : f < 9) (w : World) : Sem.run Try.prog (Instr.slice 9 (Value.string { data := #[49, 50, 51, 52, 53, 54, 55, 56, 57] }) (some (Value.int IntKind.i64 f)) (some (Value.int IntKind.i64 (IntKind.i64.wrap ((f : Int) + 1)))) none) w = Result.ok (.string ⟨#[UInt8.ofNat (49 + f)]⟩) w := by
  obtain rfl | rfl | rfl | rfl | rfl | rfl | rfl | rfl | rfl : f = 0 ∨ f = 1 ∨ f = 2 ∨ f = 3 ∨ f = 4 ∨ f = 5 ∨ f = 6 ∨ f = 7 ∨ f = 8 := by omega
  all_goals kernel_rfl
theorem run_rank (f : Nat) (hf : f < 9) (w : World) : Sem.run Try.prog (Instr.slice 9 (Value.string { data := #[97, 98, 99, 100, 101, 102, 103, 104, 105] }) (some (Value.int IntKind.i64 f)) (some (Value.int IntKind.i64 (IntKind.i64.wrap ((f : Int) + 1)))) none) w = Result.ok (.string ⟨#[UInt8.ofNat (97 + f)]⟩) w := by
  obtain rfl | rfl | rfl | rfl | rfl | rfl | rfl | rfl | rfl : f = 0 ∨ f = 1 ∨ f = 2 ∨ f = 3 ∨ f = 4 ∨ f = 5 ∨ f = 6 ∨ f = 7 ∨ f = 8 := by omega
  all_goals kernel_rfl
set_option maxHeartbeats 1000000 in
theorem refSq_any (q : Int) (h0 : 0 ≤ q) (h1 : q < 81) (w : World) : Calls Try.prog 16 #[.int .i64 q] w fun e w' => e = .returned (.string (sqS q)) ∧ ∃ n, w' = w.drewN n := by
  obtain ⟨a, b, ha, hb, rfl⟩ : ∃ a b : Nat, a < 9 ∧ b < 9 ∧ q = 9 * a + b := ⟨(q / 9).toNat, (q % 9).toNat, by omega, by omega, by omega⟩
  have E : sqS (9 * a + b) = ⟨#[UInt8.ofNat (49 + a), UInt8.ofNat (97 + b)]⟩ := by
    unfold sqS
    rw [if_pos ⟨h0, h1⟩]
    unfold sqL
    rw [show ((9 * a + b : Int) / 9).toNat = a by omega, show ((9 * a + b : Int) % 9).toNat = b by omega]
  rw [E]
  have q9 := quo9 a b hb
  have r9 := rem9 a b hb
  have rf := run_file a ha
  have rr := run_rank b hb
  have wa : IntKind.i64.wrap (a : Int) = a := by rw [IntKind.wrap_i64]; omega
  have wb : IntKind.i64.wrap (b : Int) = b := by rw [IntKind.wrap_i64]; omega
  generalize (9 * a + b : Int) = q at *
  generalize UInt8.ofNat (49 + a) = x at rf ⊢
  generalize UInt8.ofNat (97 + b) = y at rr ⊢
  clear E
  go_enter Try.func16, Try.ntmps16
  go_wp2
  go_quiet (fail)
  go_wp2
  go_ret
  exact ⟨rfl, _, rfl⟩
end Go.Proofs.Ytfemicpfkgecbaa
