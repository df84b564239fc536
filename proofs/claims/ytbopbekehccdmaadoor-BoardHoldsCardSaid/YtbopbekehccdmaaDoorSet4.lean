/-
  The library's TrailingZeros64 and Len64, and the set package's Count, First, Last.
-/
import Derived.Test.YtbopbekehccdmaaDoorSet3
import Derived.Lib.TrailingZeros
import Derived.Lib.BitFns
import Derived.Lib.Tables
namespace Go.Proofs.YtbopbekehccdmaaDoor
open Go.RowKit
set_option linter.unusedVariables false

/-- The library's table lies where it was laid. -/
def Tab (w : World) : Prop := ∀ j, j < 64 → w.cell? ⟨1, j, none⟩ = some (.int .u8 (Lib.deBruijn64tab.getD j 0))

theorem tz_key (x a : Nat) (hx : x < 18446744073709551616) (hx0 : x ≠ 0) (hlow : x &&& (18446744073709551616 - x) = a) :
    IntKind.u64.wrap (bits BinOp.and IntKind.u64 (x : Int) (IntKind.u64.wrap (-(x : Int))) * 285870213051353865) / 288230376151711744 = ((a * 285870213051353865 % 18446744073709551616 / 288230376151711744 : Nat) : Int) := by
  have e1 : IntKind.u64.wrap (-(x : Int)) = ((18446744073709551616 - x : Nat) : Int) := by rw [IntKind.wrap_u64]; omega
  rw [e1, u64_and_nat x _ hx (by omega), hlow, IntKind.wrap_u64]
  omega

theorem tz_core (x k idx : Nat) (w : World) (hb : ((x : Int) == 0) = false)
    (key : IntKind.u64.wrap (bits BinOp.and IntKind.u64 (x : Int) (IntKind.u64.wrap (-(x : Int))) * 285870213051353865) / 288230376151711744 = (idx : Int))
    (hi : idx < 64) (hk : k < 64) (hcell : w.cell? ⟨1, idx, none⟩ = some (.int .u8 k)) :
    Calls Tryd.prog 72 #[.int .u64 x] w fun e w' => e = .returned (.int .i64 k) ∧ w = w' := by
  go_enter Tryd.func72, Tryd.ntmps72
  go_wp2_with (simp only [key])
  go_ret
  exact ⟨rfl, rfl⟩
theorem tz_any (x : Nat) (hx : x < 18446744073709551616) (h0 : x ≠ 0) (w : World) (hT : Tab w) :
    Calls Tryd.prog 72 #[.int .u64 x] w fun e w' => e = .returned (.int .i64 (Lib.ctz 64 x)) ∧ w = w' := by
  obtain ⟨hlow, hk⟩ := Lib.lowest_bit 64 x h0 hx
  obtain ⟨hi, htab⟩ := Lib.deBruijn64_at _ hk
  have hcell := hT _ hi
  rw [htab] at hcell
  exact tz_core x _ _ w (by simp; omega) (tz_key x _ hx h0 hlow) hi hk hcell

theorem len_close (x s : Nat) (y z : Int) (hx : x < 18446744073709551616) (hy : y = ((x / 2 ^ s : Nat) : Int)) (hs : 2 ^ s ≤ x) (hl : x / 2 ^ s < 256) (hz : z = (s : Int) + Lib.len8 y) : z = (Lib.bitLen x : Int) := by
  subst hy hz
  generalize hq : x / 2 ^ s = q at hl
  rw [Lib.len8_of _ (by omega) (by omega), Int.toNat_natCast, ← hq, Lib.bitLen_shift s x hs (by rw [show (2 : Nat) ^ 64 = 18446744073709551616 from by decide]; exact hx)]
  omega
theorem len_close0 (x : Nat) (y z : Int) (hl : x < 256) (hy : y = (x : Int)) (hz : z = Lib.len8 y) : z = (Lib.bitLen x : Int) := by
  subst hy hz
  rw [Lib.len8_of _ (by omega) (by omega), Int.toNat_natCast]

theorem len8_bd (y : Int) (h0 : 0 ≤ y) (h1 : y < 256) : 0 ≤ Lib.len8 y ∧ Lib.len8 y ≤ 8 := by
  have h := Lib.len8_of y h0 (by omega)
  have h2 := Lib.bitLen_le8' y h0 (by omega)
  omega
end Go.Proofs.YtbopbekehccdmaaDoor
