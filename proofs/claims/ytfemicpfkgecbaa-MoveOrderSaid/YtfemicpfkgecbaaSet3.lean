/-
  The library's counts of bits, and the set package's Count.
-/
import Derived.Test.YtfemicpfkgecbaaSet2
import Derived.Test.YtfemicpfkgecbaaPop
import Derived.Deep.QuietTactic
import Derived.BigQuiet
namespace Go.Proofs.Ytfemicpfkgecbaa
open Go.RowKit
set_option linter.unusedVariables false

theorem and_i64 (a b : Nat) (ha : a < 2 ^ 63) (hb : b < 2 ^ 63) : bits .and .i64 (a : Int) (b : Int) = ((a &&& b : Nat) : Int) :=
  (bits_nat .i64 63 (by decide) (fun n h0 h1 => by rw [IntKind.wrap_i64]; omega) a b ha hb).1
theorem wrap_nat (n : Nat) (h : n < 18446744073709551616) : IntKind.u64.wrap (n : Int) = n := by
  rw [IntKind.wrap_u64]
  omega
theorem r1 (x s m : Nat) (hx : x < 18446744073709551616) (hm : m < 9223372036854775808) :
    IntKind.u64.wrap (bits .and .u64 ((x : Int) / (s : Int)) (m : Int) + bits .and .u64 (x : Int) (m : Int)) = (((x / s &&& m) + (x &&& m) : Nat) : Int) := by
  have hd : x / s ≤ x := Nat.div_le_self _ _
  rw [← Int.natCast_ediv, u64_and_nat _ _ (by omega) (by omega), u64_and_nat _ _ hx (by omega), ← Int.natCast_add]
  apply wrap_nat
  have h1 : (x / s &&& m) ≤ m := Nat.and_le_right
  have h2 : (x &&& m) ≤ m := Nat.and_le_right
  omega
theorem r3 (x m : Nat) (hm : m < 18446744073709551616) :
    bits .and .u64 (IntKind.u64.wrap ((x : Int) / 16 + (x : Int))) (m : Int) = (((x / 16 + x) &&& m : Nat) : Int) := by
  have e : ((x : Int) / 16 + (x : Int)) = ((x / 16 + x : Nat) : Int) := by omega
  rw [e, IntKind.wrap_u64]
  have e2 : (((x / 16 + x : Nat) : Int)) % 18446744073709551616 = (((x / 16 + x) % 18446744073709551616 : Nat) : Int) := by omega
  rw [e2, u64_and_nat _ _ (Nat.mod_lt _ (by omega)) hm]
  congr 1
  exact low_and _ _ m 64 (by omega) (by rw [show (2 : Nat) ^ 64 = 18446744073709551616 from by decide, Nat.mod_mod])
theorem r4 (x s : Nat) (hx : x < 4611686018427387904) : IntKind.u64.wrap ((x : Int) + (x : Int) / (s : Int)) = ((x + x / s : Nat) : Int) := by
  have hd : x / s ≤ x := Nat.div_le_self _ _
  rw [← Int.natCast_ediv, ← Int.natCast_add]
  apply wrap_nat
  omega

end Go.Proofs.Ytfemicpfkgecbaa
