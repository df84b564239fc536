/-
  The library's TrailingZeros64 and Len64, and the set package's Count, First, Last.
-/
import Derived.Test.YtmpjjdlohneiiaaDoorSet3
import Derived.Lib.TrailingZeros
import Derived.Lib.BitFns
import Derived.Lib.Tables
namespace Go.Proofs.YtmpjjdlohneiiaaDoor
open Go.RowKit
set_option linter.unusedVariables false

/-- The library's table lies where it was laid. -/
def Tab (w : World) : Prop := ∀ j, j < 64 → w.cell? ⟨0, j, none⟩ = some (.int .u8 (Lib.deBruijn64tab.getD j 0))

theorem tz_key (x a : Nat) (hx : x < 18446744073709551616) (hx0 : x ≠ 0) (hlow : x &&& (18446744073709551616 - x) = a) :
    IntKind.u64.wrap (bits BinOp.and IntKind.u64 (x : Int) (IntKind.u64.wrap (-(x : Int))) * 285870213051353865) / 288230376151711744 = ((a * 285870213051353865 % 18446744073709551616 / 288230376151711744 : Nat) : Int) := by
  have e1 : IntKind.u64.wrap (-(x : Int)) = ((18446744073709551616 - x : Nat) : Int) := by rw [IntKind.wrap_u64]; omega
  rw [e1, u64_and_nat x _ hx (by omega), hlow, IntKind.wrap_u64]
  omega

theorem tz_core (x k idx : Nat) (w : World) (hb : ((x : Int) == 0) = false)
    (key : IntKind.u64.wrap (bits BinOp.and IntKind.u64 (x : Int) (IntKind.u64.wrap (-(x : Int))) * 285870213051353865) / 288230376151711744 = (idx : Int))
    (hi : idx < 64) (hk : k < 64) (hcell : w.cell? ⟨0, idx, none⟩ = some (.int .u8 k)) :
    Calls Tryd.prog 52 #[.int .u64 x] w fun e w' => e = .returned (.int .i64 k) ∧ w = w' := by
  go_enter Tryd.func52, Tryd.ntmps52
  go_wp2_with (simp only [key])
  go_ret
  exact ⟨rfl, rfl⟩
theorem tz_any (x : Nat) (hx : x < 18446744073709551616) (h0 : x ≠ 0) (w : World) (hT : Tab w) :
    Calls Tryd.prog 52 #[.int .u64 x] w fun e w' => e = .returned (.int .i64 (Lib.ctz 64 x)) ∧ w = w' := by
  obtain ⟨hlow, hk⟩ := Lib.lowest_bit 64 x h0 hx
  obtain ⟨hi, htab⟩ := Lib.deBruijn64_at _ hk
  have hcell := hT _ hi
  rw [htab] at hcell
  exact tz_core x _ _ w (by simp; omega) (tz_key x _ hx h0 hlow) hi hk hcell

theorem len_close (x s : Nat) (y z : Int) (hx : x < 18446744073709551616) (hy : y = ((x / 2 ^ s : Nat) : Int)) (hs : 2 ^ s ≤ x) (hl : x / 2 ^ s < 256) (hz : z = (s : Int) + Lib.len8 y) : z = (Lib.bitLen x : Int) := by
  subst hy hz
  generalize hq : x / 2 ^ s = q at hl
  rw [Lib.len8_of _ (by omega) (by omega), Int.toNat_natCast, ← hq, Lib.bitLen_shift s x hs (by rw [show (2 : Nat) ^ 64 = 18446744073709551616 from by decide]; exact hx)]
  omega
theorem len_close0 (x : Nat) (y z : Int) (hl : x < 256) (hy : y = (x : Int)) (hz : z = Lib.len8 y) : z = (Lib.bitLen x : Int) := by
  subst hy hz
  rw [Lib.len8_of _ (by omega) (by omega), Int.toNat_natCast]

theorem len8_bd (y : Int) (h0 : 0 ≤ y) (h1 : y < 256) : 0 ≤ Lib.len8 y ∧ Lib.len8 y ≤ 8 := by
  have h := Lib.len8_of y h0 (by omega)
  have h2 := Lib.bitLen_le8' y h0 (by omega)
  omega
set_option maxHeartbeats 1000000 in
set_option maxRecDepth 100000 in
theorem len_0 (x : Int) (w : World) (h0 : 0 ≤ x) (h1 : x ≤ 255) :
    Calls Tryd.prog 53 #[.int .u64 x] w fun e w' => e = .returned (.int .i64 (Lib.len8 x)) ∧ w = w' := by
  have t1 : x < 4294967296 := by omega
  have t2 : x < 65536 := by omega
  have t3 : x < 256 := by omega
  have i0 : 0 ≤ x := by omega
  have i1 : x < 256 := by omega
  obtain ⟨l0, l1⟩ := len8_bd (x) i0 i1
  clear h1
  go_enter Tryd.func53, Tryd.ntmps53
  generalize hT : ByteArray.mk (List.toArray (List.append _ _)) = T
  have hT2 : T = Lib.len8tab := by
    rw [← hT]
    kernel_rfl
  clear hT
  subst hT2
  have hix : ∀ (i : Int) (W : World), 0 ≤ i → i < 256 → (Instr.index 9 (.string Lib.len8tab) (.int .u8 i)).run Tryd.prog W = .ok (.int .u8 (Lib.len8 i)) W :=
    fun i W a b => Lib.run_index_len8tab W 9 .u8 i Tryd.underlying9 a (by omega)
  go_wp2
  go_ret
  exact ⟨rfl, rfl⟩
set_option maxHeartbeats 1000000 in
set_option maxRecDepth 100000 in
theorem len_8 (x : Int) (w : World) (h0 : 256 ≤ x) (h1 : x ≤ 65535) :
    Calls Tryd.prog 53 #[.int .u64 x] w fun e w' => e = .returned (.int .i64 (8 + Lib.len8 (x / 256))) ∧ w = w' := by
  have t1 : x < 4294967296 := by omega
  have t2 : x < 65536 := by omega
  have t3 : 256 ≤ x := by omega
  have i0 : 0 ≤ x / 256 := by omega
  have i1 : x / 256 < 256 := by omega
  obtain ⟨l0, l1⟩ := len8_bd (x / 256) i0 i1
  clear h1
  go_enter Tryd.func53, Tryd.ntmps53
  generalize hT : ByteArray.mk (List.toArray (List.append _ _)) = T
  have hT2 : T = Lib.len8tab := by
    rw [← hT]
    kernel_rfl
  clear hT
  subst hT2
  have hix : ∀ (i : Int) (W : World), 0 ≤ i → i < 256 → (Instr.index 9 (.string Lib.len8tab) (.int .u8 i)).run Tryd.prog W = .ok (.int .u8 (Lib.len8 i)) W :=
    fun i W a b => Lib.run_index_len8tab W 9 .u8 i Tryd.underlying9 a (by omega)
  go_wp2
  go_ret
  exact ⟨rfl, rfl⟩
set_option maxHeartbeats 1000000 in
set_option maxRecDepth 100000 in
theorem len_16 (x : Int) (w : World) (h0 : 65536 ≤ x) (h1 : x ≤ 16777215) :
    Calls Tryd.prog 53 #[.int .u64 x] w fun e w' => e = .returned (.int .i64 (16 + Lib.len8 (x / 65536))) ∧ w = w' := by
  have t1 : x < 4294967296 := by omega
  have t2 : 65536 ≤ x := by omega
  have t3 : x / 65536 < 256 := by omega
  have i0 : 0 ≤ x / 65536 := by omega
  have i1 : x / 65536 < 256 := by omega
  obtain ⟨l0, l1⟩ := len8_bd (x / 65536) i0 i1
  clear h1
  go_enter Tryd.func53, Tryd.ntmps53
  generalize hT : ByteArray.mk (List.toArray (List.append _ _)) = T
  have hT2 : T = Lib.len8tab := by
    rw [← hT]
    kernel_rfl
  clear hT
  subst hT2
  have hix : ∀ (i : Int) (W : World), 0 ≤ i → i < 256 → (Instr.index 9 (.string Lib.len8tab) (.int .u8 i)).run Tryd.prog W = .ok (.int .u8 (Lib.len8 i)) W :=
    fun i W a b => Lib.run_index_len8tab W 9 .u8 i Tryd.underlying9 a (by omega)
  go_wp2
  go_ret
  exact ⟨rfl, rfl⟩
set_option maxHeartbeats 1000000 in
set_option maxRecDepth 100000 in
theorem len_24 (x : Int) (w : World) (h0 : 16777216 ≤ x) (h1 : x ≤ 4294967295) :
    Calls Tryd.prog 53 #[.int .u64 x] w fun e w' => e = .returned (.int .i64 (24 + Lib.len8 (x / 65536 / 256))) ∧ w = w' := by
  have t1 : x < 4294967296 := by omega
  have t2 : 65536 ≤ x := by omega
  have t3 : 256 ≤ x / 65536 := by omega
  have i0 : 0 ≤ x / 65536 / 256 := by omega
  have i1 : x / 65536 / 256 < 256 := by omega
  obtain ⟨l0, l1⟩ := len8_bd (x / 65536 / 256) i0 i1
  clear h1
  go_enter Tryd.func53, Tryd.ntmps53
  generalize hT : ByteArray.mk (List.toArray (List.append _ _)) = T
  have hT2 : T = Lib.len8tab := by
    rw [← hT]
    kernel_rfl
  clear hT
  subst hT2
  have hix : ∀ (i : Int) (W : World), 0 ≤ i → i < 256 → (Instr.index 9 (.string Lib.len8tab) (.int .u8 i)).run Tryd.prog W = .ok (.int .u8 (Lib.len8 i)) W :=
    fun i W a b => Lib.run_index_len8tab W 9 .u8 i Tryd.underlying9 a (by omega)
  go_wp2
  go_ret
  exact ⟨rfl, rfl⟩
set_option maxHeartbeats 1000000 in
set_option maxRecDepth 100000 in
theorem len_32 (x : Int) (w : World) (h0 : 4294967296 ≤ x) (h1 : x ≤ 1099511627775) :
    Calls Tryd.prog 53 #[.int .u64 x] w fun e w' => e = .returned (.int .i64 (32 + Lib.len8 (x / 4294967296))) ∧ w = w' := by
  have t1 : 4294967296 ≤ x := by omega
  have t2 : x / 4294967296 < 65536 := by omega
  have t3 : x / 4294967296 < 256 := by omega
  have i0 : 0 ≤ x / 4294967296 := by omega
  have i1 : x / 4294967296 < 256 := by omega
  obtain ⟨l0, l1⟩ := len8_bd (x / 4294967296) i0 i1
  clear h1
  go_enter Tryd.func53, Tryd.ntmps53
  generalize hT : ByteArray.mk (List.toArray (List.append _ _)) = T
  have hT2 : T = Lib.len8tab := by
    rw [← hT]
    kernel_rfl
  clear hT
  subst hT2
  have hix : ∀ (i : Int) (W : World), 0 ≤ i → i < 256 → (Instr.index 9 (.string Lib.len8tab) (.int .u8 i)).run Tryd.prog W = .ok (.int .u8 (Lib.len8 i)) W :=
    fun i W a b => Lib.run_index_len8tab W 9 .u8 i Tryd.underlying9 a (by omega)
  go_wp2
  go_ret
  exact ⟨rfl, rfl⟩
set_option maxHeartbeats 1000000 in
set_option maxRecDepth 100000 in
theorem len_40 (x : Int) (w : World) (h0 : 1099511627776 ≤ x) (h1 : x ≤ 281474976710655) :
    Calls Tryd.prog 53 #[.int .u64 x] w fun e w' => e = .returned (.int .i64 (40 + Lib.len8 (x / 4294967296 / 256))) ∧ w = w' := by
  have t1 : 4294967296 ≤ x := by omega
  have t2 : x / 4294967296 < 65536 := by omega
  have t3 : 256 ≤ x / 4294967296 := by omega
  have i0 : 0 ≤ x / 4294967296 / 256 := by omega
  have i1 : x / 4294967296 / 256 < 256 := by omega
  obtain ⟨l0, l1⟩ := len8_bd (x / 4294967296 / 256) i0 i1
  clear h1
  go_enter Tryd.func53, Tryd.ntmps53
  generalize hT : ByteArray.mk (List.toArray (List.append _ _)) = T
  have hT2 : T = Lib.len8tab := by
    rw [← hT]
    kernel_rfl
  clear hT
  subst hT2
  have hix : ∀ (i : Int) (W : World), 0 ≤ i → i < 256 → (Instr.index 9 (.string Lib.len8tab) (.int .u8 i)).run Tryd.prog W = .ok (.int .u8 (Lib.len8 i)) W :=
    fun i W a b => Lib.run_index_len8tab W 9 .u8 i Tryd.underlying9 a (by omega)
  go_wp2
  go_ret
  exact ⟨rfl, rfl⟩
set_option maxHeartbeats 1000000 in
set_option maxRecDepth 100000 in
theorem len_48 (x : Int) (w : World) (h0 : 281474976710656 ≤ x) (h1 : x ≤ 72057594037927935) :
    Calls Tryd.prog 53 #[.int .u64 x] w fun e w' => e = .returned (.int .i64 (48 + Lib.len8 (x / 4294967296 / 65536))) ∧ w = w' := by
  have t1 : 4294967296 ≤ x := by omega
  have t2 : 65536 ≤ x / 4294967296 := by omega
  have t3 : x / 4294967296 / 65536 < 256 := by omega
  have i0 : 0 ≤ x / 4294967296 / 65536 := by omega
  have i1 : x / 4294967296 / 65536 < 256 := by omega
  obtain ⟨l0, l1⟩ := len8_bd (x / 4294967296 / 65536) i0 i1
  clear h1
  go_enter Tryd.func53, Tryd.ntmps53
  generalize hT : ByteArray.mk (List.toArray (List.append _ _)) = T
  have hT2 : T = Lib.len8tab := by
    rw [← hT]
    kernel_rfl
  clear hT
  subst hT2
  have hix : ∀ (i : Int) (W : World), 0 ≤ i → i < 256 → (Instr.index 9 (.string Lib.len8tab) (.int .u8 i)).run Tryd.prog W = .ok (.int .u8 (Lib.len8 i)) W :=
    fun i W a b => Lib.run_index_len8tab W 9 .u8 i Tryd.underlying9 a (by omega)
  go_wp2
  go_ret
  exact ⟨rfl, rfl⟩
set_option maxHeartbeats 1000000 in
set_option maxRecDepth 100000 in
theorem len_56 (x : Int) (w : World) (h0 : 72057594037927936 ≤ x) (h1 : x ≤ 18446744073709551615) :
    Calls Tryd.prog 53 #[.int .u64 x] w fun e w' => e = .returned (.int .i64 (56 + Lib.len8 (x / 4294967296 / 65536 / 256))) ∧ w = w' := by
  have t1 : 4294967296 ≤ x := by omega
  have t2 : 65536 ≤ x / 4294967296 := by omega
  have t3 : 256 ≤ x / 4294967296 / 65536 := by omega
  have i0 : 0 ≤ x / 4294967296 / 65536 / 256 := by omega
  have i1 : x / 4294967296 / 65536 / 256 < 256 := by omega
  obtain ⟨l0, l1⟩ := len8_bd (x / 4294967296 / 65536 / 256) i0 i1
  clear h1
  go_enter Tryd.func53, Tryd.ntmps53
  generalize hT : ByteArray.mk (List.toArray (List.append _ _)) = T
  have hT2 : T = Lib.len8tab := by
    rw [← hT]
    kernel_rfl
  clear hT
  subst hT2
  have hix : ∀ (i : Int) (W : World), 0 ≤ i → i < 256 → (Instr.index 9 (.string Lib.len8tab) (.int .u8 i)).run Tryd.prog W = .ok (.int .u8 (Lib.len8 i)) W :=
    fun i W a b => Lib.run_index_len8tab W 9 .u8 i Tryd.underlying9 a (by omega)
  go_wp2
  go_ret
  exact ⟨rfl, rfl⟩
theorem len_any (x : Nat) (hx : x < 18446744073709551616) (w : World) :
    Calls Tryd.prog 53 #[.int .u64 x] w fun e w' => e = .returned (.int .i64 (Lib.bitLen x)) ∧ w = w' := by
  by_cases c56 : 72057594037927936 ≤ x
  · have h := len_56 x w (by omega) (by omega)
    have e := len_close x 56 ((x : Int) / 4294967296 / 65536 / 256) _ hx (by omega) (by omega) (by omega) rfl
    rw [← e]
    exact h
  by_cases c48 : 281474976710656 ≤ x
  · have h := len_48 x w (by omega) (by omega)
    have e := len_close x 48 ((x : Int) / 4294967296 / 65536) _ hx (by omega) (by omega) (by omega) rfl
    rw [← e]
    exact h
  by_cases c40 : 1099511627776 ≤ x
  · have h := len_40 x w (by omega) (by omega)
    have e := len_close x 40 ((x : Int) / 4294967296 / 256) _ hx (by omega) (by omega) (by omega) rfl
    rw [← e]
    exact h
  by_cases c32 : 4294967296 ≤ x
  · have h := len_32 x w (by omega) (by omega)
    have e := len_close x 32 ((x : Int) / 4294967296) _ hx (by omega) (by omega) (by omega) rfl
    rw [← e]
    exact h
  by_cases c24 : 16777216 ≤ x
  · have h := len_24 x w (by omega) (by omega)
    have e := len_close x 24 ((x : Int) / 65536 / 256) _ hx (by omega) (by omega) (by omega) rfl
    rw [← e]
    exact h
  by_cases c16 : 65536 ≤ x
  · have h := len_16 x w (by omega) (by omega)
    have e := len_close x 16 ((x : Int) / 65536) _ hx (by omega) (by omega) (by omega) rfl
    rw [← e]
    exact h
  by_cases c8 : 256 ≤ x
  · have h := len_8 x w (by omega) (by omega)
    have e := len_close x 8 ((x : Int) / 256) _ hx (by omega) (by omega) (by omega) rfl
    rw [← e]
    exact h
  have h := len_0 x w (by omega) (by omega)
  have e := len_close0 x (x : Int) _ (by omega) rfl rfl
  rw [← e]
  exact h
end Go.Proofs.YtmpjjdlohneiiaaDoor
