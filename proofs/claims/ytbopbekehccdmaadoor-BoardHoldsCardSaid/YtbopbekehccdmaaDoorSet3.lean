/-
  The library's counts of bits, and the set package's Count.
-/
import Derived.Test.YtbopbekehccdmaaDoorSet2
import Derived.Test.YtbopbekehccdmaaDoorPop
import Derived.Deep.QuietTactic
import Derived.BigQuiet
namespace Go.Proofs.YtbopbekehccdmaaDoor
open Go.RowKit
set_option linter.unusedVariables false

theorem and_i64 (a b : Nat) (ha : a < 2 ^ 63) (hb : b < 2 ^ 63) : bits .and .i64 (a : Int) (b : Int) = ((a &&& b : Nat) : Int) :=
  (bits_nat .i64 63 (by decide) (fun n h0 h1 => by rw [IntKind.wrap_i64]; omega) a b ha hb).1
theorem wrap_nat (n : Nat) (h : n < 18446744073709551616) : IntKind.u64.wrap (n : Int) = n := by
  rw [IntKind.wrap_u64]
  omega
theorem r1 (x s m : Nat) (hx : x < 18446744073709551616) (hm : m < 9223372036854775808) :
    IntKind.u64.wrap (bits .and .u64 ((x : Int) / (s : Int)) (m : Int) + bits .and .u64 (x : Int) (m : Int)) = (((x / s &&& m) + (x &&& m) : Nat) : Int) := by
  have hd : x / s ≤ x := Nat.div_le_self _ _
  rw [← Int.natCast_ediv, u64_and_nat _ _ (by omega) (by omega), u64_and_nat _ _ hx (by omega), ← Int.natCast_add]
  apply wrap_nat
  have h1 : (x / s &&& m) ≤ m := Nat.and_le_right
  have h2 : (x &&& m) ≤ m := Nat.and_le_right
  omega
theorem r3 (x m : Nat) (hm : m < 18446744073709551616) :
    bits .and .u64 (IntKind.u64.wrap ((x : Int) / 16 + (x : Int))) (m : Int) = (((x / 16 + x) &&& m : Nat) : Int) := by
  have e : ((x : Int) / 16 + (x : Int)) = ((x / 16 + x : Nat) : Int) := by omega
  rw [e, IntKind.wrap_u64]
  have e2 : (((x / 16 + x : Nat) : Int)) % 18446744073709551616 = (((x / 16 + x) % 18446744073709551616 : Nat) : Int) := by omega
  rw [e2, u64_and_nat _ _ (Nat.mod_lt _ (by omega)) hm]
  congr 1
  exact low_and _ _ m 64 (by omega) (by rw [show (2 : Nat) ^ 64 = 18446744073709551616 from by decide, Nat.mod_mod])
theorem r4 (x s : Nat) (hx : x < 4611686018427387904) : IntKind.u64.wrap ((x : Int) + (x : Int) / (s : Int)) = ((x + x / s : Nat) : Int) := by
  have hd : x / s ≤ x := Nat.div_le_self _ _
  rw [← Int.natCast_ediv, ← Int.natCast_add]
  apply wrap_nat
  omega

theorem ones_any (x : Nat) (hx : x < 18446744073709551616) (w : World) :
    Calls Tryd.prog 95 #[.int .u64 x] w fun e w' => e = .returned (.int .i64 (pop 64 x)) ∧ w = w' := by
  have e1 : IntKind.u64.wrap (bits .and .u64 ((x : Int) / 2) 6148914691236517205 + bits .and .u64 (x : Int) 6148914691236517205) = _ := r1 x 2 6148914691236517205 hx (by omega)
  have b1 : (x / 2 &&& 6148914691236517205) + (x &&& 6148914691236517205) < 18446744073709551616 := by
    have h1 : (x / 2 &&& 6148914691236517205) ≤ 6148914691236517205 := Nat.and_le_right
    have h2 : (x &&& 6148914691236517205) ≤ 6148914691236517205 := Nat.and_le_right
    omega
  rw [← swar_pop x hx]
  have hs : swar x = s6 (s5 (s4 ((((((x / 2 &&& 6148914691236517205) + (x &&& 6148914691236517205)) / 4 &&& 3689348814741910323) + (((x / 2 &&& 6148914691236517205) + (x &&& 6148914691236517205)) &&& 3689348814741910323)) / 16 + ((((x / 2 &&& 6148914691236517205) + (x &&& 6148914691236517205)) / 4 &&& 3689348814741910323) + (((x / 2 &&& 6148914691236517205) + (x &&& 6148914691236517205)) &&& 3689348814741910323))) &&& 1085102592571150095))) % 128 := rfl
  rw [hs]
  clear hs
  generalize (x / 2 &&& 6148914691236517205) + (x &&& 6148914691236517205) = x1 at e1 b1 ⊢
  have e2 : IntKind.u64.wrap (bits .and .u64 ((x1 : Int) / 4) 3689348814741910323 + bits .and .u64 (x1 : Int) 3689348814741910323) = _ := r1 x1 4 3689348814741910323 b1 (by omega)
  generalize (x1 / 4 &&& 3689348814741910323) + (x1 &&& 3689348814741910323) = x2 at e2 ⊢
  have e3 : bits .and .u64 (IntKind.u64.wrap ((x2 : Int) / 16 + (x2 : Int))) 1085102592571150095 = _ := r3 x2 1085102592571150095 (by omega)
  have b3 : (x2 / 16 + x2) &&& 1085102592571150095 ≤ 1085102592571150095 := Nat.and_le_right
  generalize (x2 / 16 + x2) &&& 1085102592571150095 = x3 at e3 b3 ⊢
  have e4 := r4 x3 256 (by omega)
  have b4 : s4 x3 ≤ 1090000000000000000 := by unfold s4; omega
  change IntKind.u64.wrap ((x3 : Int) + (x3 : Int) / 256) = ((s4 x3 : Nat) : Int) at e4
  generalize s4 x3 = x4 at e4 b4 ⊢
  have e5 := r4 x4 65536 (by omega)
  have b5 : s5 x4 ≤ 1091000000000000000 := by unfold s5; omega
  change IntKind.u64.wrap ((x4 : Int) + (x4 : Int) / 65536) = ((s5 x4 : Nat) : Int) at e5
  generalize s5 x4 = x5 at e5 b5 ⊢
  have e6 := r4 x5 4294967296 (by omega)
  have b6 : s6 x5 ≤ 1092000000000000000 := by unfold s6; omega
  change IntKind.u64.wrap ((x5 : Int) + (x5 : Int) / 4294967296) = ((s6 x5 : Nat) : Int) at e6
  generalize s6 x5 = x6 at e6 b6 ⊢
  have e7 : bits .and .i64 (x6 : Int) 127 = ((x6 % 128 : Nat) : Int) := by
    rw [← Nat.and_two_pow_sub_one_eq_mod x6 7]
    exact and_i64 x6 127 (by omega) (by omega)
  have e8 : wrap64 (x6 : Int) = x6 := by unfold wrap64; omega
  generalize x6 % 128 = r at e7 ⊢
  clear b1 b3 b4 b5 b6 hx
  go_enter Tryd.func95, Tryd.ntmps95
  go_wp2
  go_ret
  exact ⟨rfl, rfl⟩
end Go.Proofs.YtbopbekehccdmaaDoor
