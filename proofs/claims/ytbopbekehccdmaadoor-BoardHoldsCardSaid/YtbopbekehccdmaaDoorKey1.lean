/-
  The key package's leaf functions: what each returns.
-/
import Derived.Test.YtbopbekehccdmaaDoorKeyMath
import Derived.Test.YtbopbekehccdmaaDoorLeaf
import Derived.Test.YtbopbekehccdmaaDoorBase
import Derived.LoopTactic
import Derived.Lib.Hide
namespace Go.Proofs.YtbopbekehccdmaaDoor
open Go.RowKit
set_option linter.unusedVariables false
set_option linter.unusedSimpArgs false

theorem mulI (n c : Nat) : IntKind.u64.wrap ((n : Int) * (c : Int)) = ((mulM n c : Nat) : Int) := by
  rw [IntKind.wrap_u64, show (n : Int) * (c : Int) = ((n * c : Nat) : Int) from (Int.natCast_mul n c).symm]
  unfold mulM
  generalize n * c = m
  omega
theorem xorI (k n : Nat) (h : n < 18446744073709551616) (d : Int) (hd : d = ((2 ^ k : Nat) : Int)) : bits .xor .u64 (n : Int) ((n : Int) / d) = ((shX k n : Nat) : Int) := by
  subst hd
  rw [show (n : Int) / ((2 ^ k : Nat) : Int) = ((n / 2 ^ k : Nat) : Int) from rfl]
  exact u64_xor_nat _ _ h (Nat.lt_of_le_of_lt (Nat.div_le_self _ _) h)

theorem mixed_any (n : Nat) (h : n < 18446744073709551616) (w : World) : Calls Tryd.prog 109 #[.int .u64 (n : Int)] w fun e w' => e = .returned (.int .u64 (mixN n : Int)) ∧ w = w' := by
  go_enter Tryd.func109, Tryd.ntmps109
  go_wp2
  go_ret
  refine ⟨?_, rfl⟩
  have e1 : IntKind.u64.wrap ((n : Int) * 11400714819323198485) = _ := mulI n 11400714819323198485
  have e2 : bits .xor .u64 ((mulM n 11400714819323198485 : Nat) : Int) (((mulM n 11400714819323198485 : Nat) : Int) / 1073741824) = _ := xorI 30 _ (mulM_lt _ _) _ rfl
  rw [e1, e2]
  generalize hx : shX 30 (mulM n 11400714819323198485) = x
  have e3 : IntKind.u64.wrap ((x : Int) * 13787848793156543929) = _ := mulI x 13787848793156543929
  have e4 : bits .xor .u64 ((mulM x 13787848793156543929 : Nat) : Int) (((mulM x 13787848793156543929 : Nat) : Int) / 134217728) = _ := xorI 27 _ (mulM_lt _ _) _ rfl
  rw [e3, e4]
  generalize hy : shX 27 (mulM x 13787848793156543929) = y
  have e5 : IntKind.u64.wrap ((y : Int) * 10723151780598845931) = _ := mulI y 10723151780598845931
  have e6 : bits .xor .u64 ((mulM y 10723151780598845931 : Nat) : Int) (((mulM y 10723151780598845931 : Nat) : Int) / 2147483648) = _ := xorI 31 _ (mulM_lt _ _) _ rfl
  rw [e5, e6, ← hy, ← hx]
  rfl

theorem numI_step (l : List Int) (k : Nat) (h : k < l.length) : numI (l.take (k + 1)) = IntKind.u64.wrap (IntKind.u64.wrap (numI (l.take k) * 128) + IntKind.u64.wrap l[k]) := by
  unfold numI
  rw [List.take_succ_eq_append_getElem h, List.foldl_append]
  rfl
theorem number_any (g cap : Nat) (l : List Int) (hl : l.length ≤ 100) (w : World) (hc : ∀ (j : Nat) (hj : j < l.length), w.cell? ⟨g, j, none⟩ = some (.int .i64 l[j])) :
    Calls Tryd.prog 110 #[.slice (some ⟨g, 0, none⟩) l.length cap] w fun e w' => e = .returned (.int .u64 (numI l)) ∧ w = w' := by
  have HC := Lib.hid hc
  clear hc
  go_enter Tryd.func110, Tryd.ntmps110
  go_wp2
  go_loop [3, 5, 8] (fun n _ i => ∃ k : Nat, k ≤ l.length ∧ i = .int .i64 k ∧ n = .int .u64 (numI (l.take k))) (fun _ _ i => l.length - (intOf i).toNat)
  case atStart => exact ⟨0, Nat.zero_le _, rfl, rfl⟩
  case round =>
    obtain ⟨k, hk, rfl, rfl⟩ := hrel
    by_cases hlt : k < l.length
    · have hcell : w.cell? ⟨g, k, none⟩ = some (.int .i64 l[k]) := HC.out k hlt
      have HN := Lib.hid (numI_step l k hlt)
      generalize numI (l.take k) = n at HN
      generalize l[k] = d at hcell HN
      clear HC
      go_wp2
      go_round
      case rel => exact ⟨k + 1, by omega, by go_num, by rw [HN.out]⟩
      case measure => simp [intOf]; omega
    · obtain rfl : k = l.length := by omega
      rw [List.take_length]
      clear HC
      go_wp2
      go_ret
      exact ⟨rfl, rfl⟩

theorem pieceK_yes (q x : Int) (hq : 0 ≤ q ∧ q < 81) (hx : kindF x ≠ 0) : pieceK q x = mixN (16384 + 128 * q.toNat + x.toNat) := if_pos ⟨hq.1, hq.2, hx⟩
theorem pieceK_no (q x : Int) (h : ¬ (0 ≤ q ∧ q < 81 ∧ kindF x ≠ 0)) : pieceK q x = 0 := if_neg h
theorem kind_range (x : Int) (h : kindF x ≠ 0) : 0 ≤ x ∧ x < 32 := by
  unfold kindF cutF at h
  by_cases h16 : 16 ≤ x
  · rw [if_pos h16] at h
    have h3 := rawF_cases (x - 16)
    by_cases hr : rawF (x - 16) = 0
    · exact absurd (if_pos hr) h
    · omega
  · rw [if_neg h16] at h
    have h3 := rawF_cases x
    by_cases hr : rawF x = 0
    · exact absurd (if_pos hr) h
    · omega
set_option maxHeartbeats 1000000 in
theorem pieceK_any (q x : Int) (h0 : -128 ≤ x) (h1 : x ≤ 127) (w : World) : Calls Tryd.prog 76 #[.int .i64 q, .int .i8 x] w fun e w' => e = .returned (.int .u64 (pieceK q x : Int)) ∧ Below w.heap.size w w' := by
  have K := Lib.hid (fun W => kind_any x W h0 h1)
  by_cases hq : 0 ≤ q ∧ q < 81
  · by_cases hx : kindF x = 0
    · rw [pieceK_no q x (fun h => h.2.2 hx)]
      rw [hx] at K
      have c1 : ¬ q < 0 := by omega
      have c2 : ¬ 81 ≤ q := by omega
      clear hx hq h0 h1
      go_enter Tryd.func76, Tryd.ntmps76
      go_wp2_with (go_at_call 108; refine (K.out _).mono ?_; rintro e w1 ⟨rfl, rfl⟩)
      go_ret
      exact ⟨rfl, bref _⟩
    · have hx' := kind_range x hx
      have c3 : (kindF x == 0) = false := by simpa using hx
      rw [pieceK_yes q x hq hx]
      have M := Lib.hid (fun W => mixed_any (16384 + 128 * q.toNat + x.toNat) (by omega) W)
      have N := Lib.hid (fun (g cap : Nat) (W : World) (h : ∀ (j : Nat) (hj : j < ([1, q, wrap64 x] : List Int).length), W.cell? ⟨g, j, none⟩ = some (.int .i64 ([1, q, wrap64 x] : List Int)[j])) => number_any g cap [1, q, wrap64 x] (by simp) W h)
      have e : numI [1, q, wrap64 x] = ((16384 + 128 * q.toNat + x.toNat : Nat) : Int) := by
        have wx : wrap64 x = x := by unfold wrap64; omega
        have := numI_3 q.toNat x.toNat (by omega) (by omega)
        rw [wx]
        rwa [show ((q.toNat : Nat) : Int) = q by omega, show ((x.toNat : Nat) : Int) = x by omega] at this
      rw [e] at N
      generalize mixN (16384 + 128 * q.toNat + x.toNat) = r at M ⊢
      generalize ((16384 + 128 * q.toNat + x.toNat : Nat) : Int) = y at M N
      have c1 : ¬ q < 0 := by omega
      have c2 : ¬ 81 ≤ q := by omega
      clear hx hq h0 h1 hx' e
      generalize kindF x = k at K c3
      go_enter Tryd.func76, Tryd.ntmps76
      go_wp2_with (go_at_call 108; refine (K.out _).mono ?_; rintro e w1 ⟨rfl, rfl⟩)
      refine (N.out w.heap.size 3 _ ?_).mono ?_
      · intro j hj
        have hj3 : j < 3 := hj
        obtain rfl | rfl | rfl : j = 0 ∨ j = 1 ∨ j = 2 := by omega
        · show _ = some (Value.int .i64 1); go_simp
        · show _ = some (Value.int .i64 q); go_simp
        · show _ = some (Value.int .i64 (wrap64 x)); go_simp
      rintro e w1 ⟨rfl, rfl⟩
      clear N
      go_wp2_with (go_at_call 109; refine (M.out _).mono ?_; rintro e w1 ⟨rfl, rfl⟩)
      go_ret
      exact ⟨rfl, ball (bref w) _⟩
  · rw [pieceK_no q x (fun h => hq ⟨h.1, h.2.1⟩)]
    have hq' : q < 0 ∨ (¬ q < 0 ∧ 81 ≤ q) := by omega
    clear hq h0 h1
    rcases hq' with c1 | ⟨c1, c2⟩
    all_goals
      go_enter Tryd.func76, Tryd.ntmps76
      go_wp2
      go_ret
      exact ⟨rfl, bref _⟩
theorem handK_no (s k n : Int) (h : ¬ ((s = 0 ∨ s = 1) ∧ (1 ≤ k ∧ k ≤ 7) ∧ (1 ≤ n ∧ n ≤ 18))) : handK s k n = 0 := if_neg h
theorem handK_yes (s k n : Int) (h : (s = 0 ∨ s = 1) ∧ (1 ≤ k ∧ k ≤ 7) ∧ (1 ≤ n ∧ n ≤ 18)) : handK s k n = mixN (4194304 + 16384 * s.toNat + 128 * k.toNat + n.toNat) := if_pos h
set_option maxHeartbeats 1000000 in
theorem handK_any (s k n : Int) (w : World) : Calls Tryd.prog 77 #[.int .i64 s, .int .i64 k, .int .i64 n] w fun e w' => e = .returned (.int .u64 (handK s k n : Int)) ∧ Below w.heap.size w w' := by
  by_cases h : (s = 0 ∨ s = 1) ∧ (1 ≤ k ∧ k ≤ 7) ∧ (1 ≤ n ∧ n ≤ 18)
  · rw [handK_yes s k n h]
    obtain ⟨h1, ⟨h2, h3⟩, h4, h5⟩ := h
    have M := Lib.hid (fun W => mixed_any (4194304 + 16384 * s.toNat + 128 * k.toNat + n.toNat) (by omega) W)
    have N := Lib.hid (fun (g cap : Nat) (W : World) (h : ∀ (j : Nat) (hj : j < ([2, s, k, n] : List Int).length), W.cell? ⟨g, j, none⟩ = some (.int .i64 ([2, s, k, n] : List Int)[j])) => number_any g cap [2, s, k, n] (by simp) W h)
    have e : numI [2, s, k, n] = ((4194304 + 16384 * s.toNat + 128 * k.toNat + n.toNat : Nat) : Int) := by
      have := numI_4 s.toNat k.toNat n.toNat (by omega) (by omega) (by omega)
      rwa [show ((s.toNat : Nat) : Int) = s by omega, show ((k.toNat : Nat) : Int) = k by omega, show ((n.toNat : Nat) : Int) = n by omega] at this
    rw [e] at N
    generalize mixN (4194304 + 16384 * s.toNat + 128 * k.toNat + n.toNat) = r at M ⊢
    generalize ((4194304 + 16384 * s.toNat + 128 * k.toNat + n.toNat : Nat) : Int) = y at M N
    clear e
    have c1 : ¬ k < 1 := by omega
    have c2 : ¬ 7 < k := by omega
    have c3 : ¬ n < 1 := by omega
    have c4 : ¬ 18 < n := by omega
    clear h2 h3 h4 h5
    rcases h1 with rfl | rfl
    all_goals
      go_enter Tryd.func77, Tryd.ntmps77
      go_wp2_with fail
      refine (N.out w.heap.size 4 _ ?_).mono ?_
      · intro j hj
        have hj3 : j < 4 := hj
        obtain rfl | rfl | rfl | rfl : j = 0 ∨ j = 1 ∨ j = 2 ∨ j = 3 := by omega
        · show _ = some (Value.int .i64 2); go_simp
        · show _ = some (Value.int .i64 _); go_simp
        · show _ = some (Value.int .i64 k); go_simp
        · show _ = some (Value.int .i64 n); go_simp
      rintro e w1 ⟨rfl, rfl⟩
      clear N
      go_wp2_with (go_at_call 109; refine (M.out _).mono ?_; rintro e w1 ⟨rfl, rfl⟩)
      go_ret
      exact ⟨rfl, ball (bref w) _⟩
  · rw [handK_no s k n h]
    by_cases h1 : s = 0 ∨ s = 1
    · have h2 : k < 1 ∨ (¬ k < 1 ∧ 7 < k) ∨ (¬ k < 1 ∧ ¬ 7 < k ∧ n < 1) ∨ (¬ k < 1 ∧ ¬ 7 < k ∧ ¬ n < 1 ∧ 18 < n) := by omega
      clear h
      rcases h1 with rfl | rfl <;> rcases h2 with c1 | ⟨c1, c2⟩ | ⟨c1, c2, c3⟩ | ⟨c1, c2, c3, c4⟩
      all_goals
        go_enter Tryd.func77, Tryd.ntmps77
        go_wp2
        go_ret
        exact ⟨rfl, bref _⟩
    · have b0 : (s != 0) = true := by simp; omega
      have b1 : (s != 1) = true := by simp; omega
      clear h h1
      go_enter Tryd.func77, Tryd.ntmps77
      go_wp2
      go_ret
      exact ⟨rfl, bref _⟩
theorem sideK_any (w : World) : Calls Tryd.prog 78 #[] w fun e w' => e = .returned (.int .u64 (sideK : Int)) ∧ Below w.heap.size w w' := by
  have M := Lib.hid (fun W => mixed_any 3 (by decide) W)
  have N := Lib.hid (fun (g cap : Nat) (W : World) (h : ∀ (j : Nat) (hj : j < ([3] : List Int).length), W.cell? ⟨g, j, none⟩ = some (.int .i64 ([3] : List Int)[j])) => number_any g cap [3] (by simp) W h)
  rw [numI_1] at N
  rw [show mixN 3 = sideK from rfl] at M
  generalize sideK = r at M ⊢
  generalize ((3 : Nat) : Int) = y at M N
  go_enter Tryd.func78, Tryd.ntmps78
  go_wp2_with fail
  refine (N.out w.heap.size 1 _ ?_).mono ?_
  · intro j hj
    obtain rfl : j = 0 := by simpa using hj
    show _ = some (Value.int .i64 3)
    go_simp
  rintro e w1 ⟨rfl, rfl⟩
  clear N
  go_wp2_with (go_at_call 109; refine (M.out _).mono ?_; rintro e w1 ⟨rfl, rfl⟩)
  go_ret
  exact ⟨rfl, ball (bref w) _⟩
end Go.Proofs.YtbopbekehccdmaaDoor
