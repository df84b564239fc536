/-
  Games in memory: hold.
-/
import Derived.Test.YtbopbekehccdmaaDoorGm1
namespace Go.Proofs.YtbopbekehccdmaaDoor
open Go.RowKit
set_option linter.unusedVariables false
set_option linter.unusedSimpArgs false

theorem hold_none (g : Nat) (m : Int) (w : World) :
    Calls Tryd.prog 80 #[.pointer (some ⟨g, 0, none⟩), .int .i64 0, .int .i8 m] w fun e w' => e = .returned (.tuple #[]) ∧ w = w' := by
  go_enter Tryd.func80, Tryd.ntmps80
  go_wp2
  exact bodyPost_ret (v := .tuple #[]) (by simp [results, Tryd.results80, go_sem]) rfl ⟨rfl, rfl⟩

set_option maxHeartbeats 4000000 in
theorem hold_any (g b : Nat) (z : List Int) (K : Nat) (v : Value) (s k : Nat) (m : Int) (hs : s < 2) (hk : 1 ≤ k ∧ k ≤ 7) (hsz : at8 z 97 = s) (hm : -128 ≤ at8 z (81 + s * 8 + k) + m ∧ at8 z (81 + s * 8 + k) + m ≤ 127)
    (hK : K < 18446744073709551616) (hz : z.length = 98) (h8 : I8s z) (w : World) (h : Gm w g b z K v) :
    Calls Tryd.prog 80 #[.pointer (some ⟨g, 0, none⟩), .int .i64 k, .int .i8 m] w fun e w' => e = .returned (.tuple #[]) ∧
      Gm w' g b (z.set (81 + s * 8 + k) (at8 z (81 + s * 8 + k) + m)) (K ^^^ handK s k (at8 z (81 + s * 8 + k)) ^^^ handK s k (at8 z (81 + s * 8 + k) + m)) v ∧ But2 g b w w' := by
  have MO := Lib.hid (fun W (h : Gm W g b z K v) => mover_any g b z K v hz h8 W h)
  rw [hsz] at MO
  have hj : 81 + s * 8 + k < 98 := by omega
  have H1 := Lib.hid (fun W (h : Brd W b z) => hand_brd b z s k hz h8 W h)
  rw [show handF z s k = at8 z (81 + s * 8 + k) from if_pos (by omega)] at H1
  have hz' : (z.set (81 + s * 8 + k) (at8 z (81 + s * 8 + k) + m)).length = 98 := by rw [List.length_set, hz]
  have h8' : I8s (z.set (81 + s * 8 + k) (at8 z (81 + s * 8 + k) + m)) := set_8 h8 _ hm
  have H2 := Lib.hid (fun W (h : Brd W b (z.set (81 + s * 8 + k) (at8 z (81 + s * 8 + k) + m))) => hand_brd b _ s k hz' h8' W h)
  rw [show handF (z.set (81 + s * 8 + k) (at8 z (81 + s * 8 + k) + m)) s k = at8 z (81 + s * 8 + k) + m by
    unfold handF
    rw [if_pos (by omega), Int.toNat_natCast, Int.toNat_natCast, at8_set _ _ _ _ (by omega), if_pos rfl]] at H2
  have K1 := Lib.hid (fun W => handK_any s k (at8 z (81 + s * 8 + k)) W)
  have K2 := Lib.hid (fun W => handK_any s k (at8 z (81 + s * 8 + k) + m) W)
  have X1 := Lib.hid (u64_xor_nat K (handK s k (at8 z (81 + s * 8 + k))) hK (handK_lt _ _ _))
  have X2 := Lib.hid (u64_xor_nat (K ^^^ handK s k (at8 z (81 + s * 8 + k))) (handK s k (at8 z (81 + s * 8 + k) + m)) (xor_lt64 hK (handK_lt _ _ _)) (handK_lt _ _ _))
  have SP := Lib.hid (fun (W : World) (h : Brd W b z) => setP_brd h hz (81 + s * 8 + k) (by omega) hj (at8 z (81 + s * 8 + k) + m))
  have CE := Lib.hid (fun (W : World) (h : Brd W b z) => h.cell hz (81 + s * 8 + k) hj)
  have HN := Lib.hid h.2.2
  have HB := Lib.hid h.2.1
  have HG := Lib.hid h.1
  have H := Lib.hid h
  have hn := h8.at (81 + s * 8 + k)
  have B0 := Lib.hid (But2.refl g b w)
  have bk : ((k : Int) == 0) = false := by simp; omega
  obtain ⟨g0, g1, g2⟩ := h.1.cells
  have fg := h.1.frozen 1
  clear h hz h8 hz' h8' hsz hK hj
  generalize z.set (81 + s * 8 + k) (at8 z (81 + s * 8 + k) + m) = z' at *
  generalize at8 z (81 + s * 8 + k) = n at *
  generalize handK s k n = k1 at *
  generalize handK s k (n + m) = k2 at *
  generalize K ^^^ k1 = k3 at *
  generalize k3 ^^^ k2 = k4 at *
  obtain ⟨hk1, hk7⟩ := hk
  obtain ⟨hm0, hm1⟩ := hm
  obtain ⟨hn0, hn1⟩ := hn
  go_enter Tryd.func80, Tryd.ntmps80
  go_wp2_with (go_at_call 89; refine (MO.out _ H.out).mono ?_; rintro e w0 ⟨rfl, rfl⟩)
  go_region_with (first
    | (go_at_call 88; refine (H1.out _ HB.out.drew).mono ?_; rintro e w1 ⟨rfl, rfl⟩)
    | (go_at_call 77; refine (K1.out _).mono ?_; rintro e w2 ⟨rfl, hb⟩; have HG2 := Lib.hid (HG.out.drew.grow hb); have P2 := Lib.hid (HB.out.drew.grow hb); have B2 := Lib.hid (B0.out.drew.grow hb); obtain ⟨d0, d1, d2⟩ := HG2.out.cells; have f2 := HG2.out.frozen 1; have x1 := X1.out))
  all_goals
    have HG3 := Lib.hid (HG2.out.setK k3)
    have P3 := Lib.hid (brd_other P2.out (Ne.symm HN.out) 1 (.int .u64 (k3 : Int)))
    have B3 := Lib.hid (B2.out.setG 1 (.int .u64 (k3 : Int)))
    clear g0 g1 g2 d0 d1 d2 f2 fg x1
    generalize w2.setCell ⟨g, 1, none⟩ (.int .u64 (k3 : Int)) = w3 at *
    obtain ⟨g0, g1, g2⟩ := HG3.out.cells
    have c3 := CE.out w3 P3.out
    have f3 := P3.out.frozen (81 + s * 8 + k)
    go_wp2_with fail
    go_region
    have HG4 := Lib.hid (HG3.out.other HN.out (81 + s * 8 + k) (.int .i8 (n + m))).drew
    have P4 := Lib.hid (SP.out w3 P3.out).drew
    have B4 := Lib.hid (B3.out.setB (81 + s * 8 + k) (.int .i8 (n + m))).drew
    clear g0 g1 g2 c3 f3
    generalize (w3.setCell ⟨b, 81 + s * 8 + k, none⟩ (.int .i8 (n + m))).drew = w4 at *
    obtain ⟨g0, g1, g2⟩ := HG4.out.cells
    have fg := HG4.out.frozen 1
    go_wp2_with fail
    go_region_with (first
      | (go_at_call 88; refine (H2.out _ P4.out.drew).mono ?_; rintro e w5 ⟨rfl, rfl⟩)
      | (go_at_call 77; refine (K2.out _).mono ?_; rintro e w6 ⟨rfl, hb⟩; have HG6 := Lib.hid (HG4.out.drew.grow hb); have P6 := Lib.hid (P4.out.drew.grow hb); have B6 := Lib.hid (B4.out.drew.grow hb); obtain ⟨d0, d1, d2⟩ := HG6.out.cells; have f6 := HG6.out.frozen 1; have x2 := X2.out))
    all_goals
      go_end0
      exact ⟨rfl, ⟨HG6.out.setK k4, brd_other P6.out (Ne.symm HN.out) 1 _, HN.out⟩, B6.out.setG 1 _⟩
end Go.Proofs.YtbopbekehccdmaaDoor
