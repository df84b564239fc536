/-
  Boards: Of, At, Pieces, Taken, King, Hand, Clone.
-/
import Derived.Test.YtbopbekehccdmaaDoorBrd1
namespace Go.Proofs.YtbopbekehccdmaaDoor
open Go.RowKit
set_option linter.unusedVariables false
set_option linter.unusedSimpArgs false

theorem of_nat (s k : Int) : ∃ x : Nat, ofF s k = x ∧ x < 32 := by
  have h := rawF_cases k
  unfold ofF
  refine ⟨(if rawF k = 0 then 0 else if s = 0 then k else if s = 1 then 16 + k else 0 : Int).toNat, ?_⟩
  split
  · exact ⟨rfl, by decide⟩
  · split
    · omega
    · split <;> omega

set_option maxHeartbeats 1000000 in
theorem of_brd (b : Nat) (z : List Int) (s k : Int) (hk : -9223372036854775808 ≤ k ∧ k ≤ 9223372036854775807) (hz : z.length = 98) (w : World) (hb : Brd w b z) :
    Calls Tryd.prog 21 #[.pointer (some ⟨b, 0, none⟩), .int .i64 s, .int .i64 k] w fun e w' => e = .returned (.agg #[.int .u64 (loW (pieceN z (ofF s k))), .int .u64 (hiW (pieceN z (ofF s k)))]) ∧ Below w.heap.size w w' := by
  have PO := Lib.hid (fun W => pof_any s k W hk.1 hk.2)
  obtain ⟨x, hx, hx2⟩ := of_nat s k
  rw [hx] at PO ⊢
  have e : pieceN z x = setAt z x := (if_pos hx2).symm
  rw [e]
  have a0 := hb.lo hz x (by omega)
  have a1 := hb.hi hz x (by omega)
  have zb := hb.lt
  have HB := Lib.hid hb
  clear hk hx e hb hz
  generalize loW (setAt z x) = l at a0 ⊢
  generalize hiW (setAt z x) = h at a1 ⊢
  go_enter Tryd.func21, Tryd.ntmps21
  go_wp2
  go_region_with (go_at_call 71; refine (PO.out _).mono ?_; rintro e w1 ⟨rfl, rfl⟩)
  all_goals
    go_wp2
    exact bodyPost_ret (v := .agg #[.int .u64 l, .int .u64 h]) (by simp [results, Tryd.results21, go_sem]) rfl ⟨rfl, (ball (bref w) _).drew⟩

theorem at_brd (b : Nat) (z : List Int) (q : Int) (hz : z.length = 98) (w : World) (hb : Brd w b z) :
    Calls Tryd.prog 19 #[.pointer (some ⟨b, 0, none⟩), .int .i64 q] w fun e w' => e = .returned (.int .i8 (if 0 ≤ q ∧ q < 81 then at8 z q.toNat else 0)) ∧ w = w' := by
  have SQ := Lib.hid (fun W => bSquare_any q W)
  by_cases hq : 0 ≤ q ∧ q < 81
  · rw [decide_eq_true hq] at SQ
    rw [if_pos hq]
    obtain ⟨k, rfl⟩ : ∃ k : Nat, q = k := ⟨q.toNat, by omega⟩
    have hk : k < 81 := by omega
    rw [Int.toNat_natCast]
    have c0 := hb.cell hz k (by omega)
    clear hq hb hz
    generalize at8 z k = v at c0 ⊢
    go_enter Tryd.func19, Tryd.ntmps19
    go_wp2_with (go_at_call 66; refine (SQ.out _).mono ?_; rintro e w1 ⟨rfl, rfl⟩)
    go_ret
    exact ⟨rfl, rfl⟩
  · rw [decide_eq_false hq] at SQ
    rw [if_neg hq]
    clear hq hb hz
    go_enter Tryd.func19, Tryd.ntmps19
    go_wp2_with (go_at_call 66; refine (SQ.out _).mono ?_; rintro e w1 ⟨rfl, rfl⟩)
    go_ret
    exact ⟨rfl, rfl⟩

theorem side_set (z : List Int) (s : Nat) : sideN z s = setAt z (32 + s) := by
  unfold setAt
  rw [if_neg (by omega)]
  congr 1
  omega

set_option maxHeartbeats 1000000 in
theorem pieces_brd (b : Nat) (z : List Int) (s : Int) (hz : z.length = 98) (w : World) (hb : Brd w b z) :
    Calls Tryd.prog 26 #[.pointer (some ⟨b, 0, none⟩), .int .i64 s] w fun e w' => e = .returned (.agg #[.int .u64 (loW (if s = 0 ∨ s = 1 then sideN z s else 0)), .int .u64 (hiW (if s = 0 ∨ s = 1 then sideN z s else 0))]) ∧ Below w.heap.size w w' := by
  have SI := Lib.hid (fun W => bSide_any s W)
  by_cases hs : s = 0 ∨ s = 1
  · rw [decide_eq_true hs] at SI
    rw [if_pos hs]
    obtain ⟨k, rfl⟩ : ∃ k : Nat, s = k := ⟨s.toNat, by omega⟩
    have hk : k < 2 := by omega
    rw [side_set]
    have a0 := hb.lo hz (32 + k) (by omega)
    have a1 := hb.hi hz (32 + k) (by omega)
    rw [show 98 + (32 + k) * 2 = 162 + k * 2 by omega] at a0 a1
    have zb := hb.lt
    clear hs hb hz
    generalize loW (setAt z (32 + k)) = l at a0 ⊢
    generalize hiW (setAt z (32 + k)) = h at a1 ⊢
    go_enter Tryd.func26, Tryd.ntmps26
    go_wp2_with (go_at_call 69; refine (SI.out _).mono ?_; rintro e w1 ⟨rfl, rfl⟩)
    exact bodyPost_ret (v := .agg #[.int .u64 l, .int .u64 h]) (by simp [results, Tryd.results26, go_sem]) rfl ⟨rfl, ball (bref w) _⟩
  · rw [decide_eq_false hs] at SI
    rw [if_neg hs, lo_zero, hi_zero]
    have hz0 : (zeroValue 40).run Tryd.prog w = .ok (.agg #[.int .u64 0, .int .u64 0]) w := by kernel_rfl
    clear hs hb hz
    go_enter Tryd.func26, Tryd.ntmps26
    go_wp2_with (go_at_call 69; refine (SI.out _).mono ?_; rintro e w1 ⟨rfl, rfl⟩)
    exact bodyPost_ret (v := .agg #[.int .u64 0, .int .u64 0]) (by simp [results, Tryd.results26, go_sem]) rfl ⟨rfl, ball (bref w) _⟩

def takenN (z : List Int) : Nat := sideN z 0 ||| sideN z 1
theorem takenN_sq (z : List Int) : Sq (takenN z) := (sideN_sq z 0).or (sideN_sq z 1)
set_option maxHeartbeats 2000000 in
theorem taken_brd (b : Nat) (z : List Int) (hz : z.length = 98) (w : World) (hb : Brd w b z) :
    Calls Tryd.prog 27 #[.pointer (some ⟨b, 0, none⟩)] w fun e w' => e = .returned (.agg #[.int .u64 (loW (takenN z)), .int .u64 (hiW (takenN z))]) ∧ Below w.heap.size w w' := by
  have OR := Lib.hid (fun W => or_any (setAt z 32) (setAt z 33) (setAt_sq _ _) (setAt_sq _ _) W)
  have e : takenN z = setAt z 32 ||| setAt z 33 := rfl
  rw [e]
  have a0 := hb.lo hz 32 (by omega)
  have a1 := hb.hi hz 32 (by omega)
  have b0 := hb.lo hz 33 (by omega)
  have b1 := hb.hi hz 33 (by omega)
  have zb := hb.lt
  clear e hb hz
  generalize loW (setAt z 32 ||| setAt z 33) = l at OR ⊢
  generalize hiW (setAt z 32 ||| setAt z 33) = h at OR ⊢
  generalize loW (setAt z 32) = l0 at a0 OR
  generalize hiW (setAt z 32) = h0 at a1 OR
  generalize loW (setAt z 33) = l1 at b0 OR
  generalize hiW (setAt z 33) = h1 at b1 OR
  go_enter Tryd.func27, Tryd.ntmps27
  go_wp2
  go_region_with (go_at_call 25; refine (OR.out _).mono ?_; rintro e w1 ⟨rfl, hb1⟩; obtain ⟨hc1, hf1⟩ := bcells hb1; have hz1 : w.heap.size < w1.heap.size := by (have := hb1.size; simp at this; omega))
  all_goals
    go_wp2
    exact bodyPost_ret (v := .agg #[.int .u64 l, .int .u64 h]) (by simp [results, Tryd.results27, go_sem, hc1, hz1]) rfl ⟨rfl, ((bthen ((ball (bref w) _).drew) hb1).setCell (by simp) _).setCell (by simp) _⟩

def kingF (z : List Int) (s : Int) : Int := firstF (pieceN z (ofF s 8))
theorem king_brd (b : Nat) (z : List Int) (s : Int) (hz : z.length = 98) (w : World) (hb : Brd w b z) (hT : Tab w) :
    Calls Tryd.prog 23 #[.pointer (some ⟨b, 0, none⟩), .int .i64 s] w fun e w' => e = .returned (.int .i64 (kingF z s)) ∧ Below w.heap.size w w' := by
  have OF := Lib.hid (fun W (h : Brd W b z) => of_brd b z s 8 (by omega) hz W h)
  have FI := Lib.hid (fun W (h : Tab W) => first_any (pieceN z (ofF s 8)) (pieceN_sq _ _) W h)
  have HB := Lib.hid hb
  have HT := Lib.hid hT
  unfold kingF
  clear hb hT hz
  generalize firstF (pieceN z (ofF s 8)) = f at FI ⊢
  generalize loW (pieceN z (ofF s 8)) = l at OF FI
  generalize hiW (pieceN z (ofF s 8)) = h at OF FI
  go_enter Tryd.func23, Tryd.ntmps23
  go_wp2_with (first
    | (go_at_call 21; refine (OF.out _ HB.out).mono ?_; rintro e w1 ⟨rfl, hb1⟩)
    | (go_at_call 24; refine (FI.out _ (HT.out.grow hb1)).mono ?_; rintro e w2 ⟨rfl, hb2⟩))
  go_ret
  exact ⟨rfl, bthen hb1 hb2⟩

def handF (z : List Int) (s k : Int) : Int := if (s = 0 ∨ s = 1) ∧ 1 ≤ k ∧ k ≤ 7 then at8 z (81 + s.toNat * 8 + k.toNat) else 0
set_option maxHeartbeats 1000000 in
theorem hand_brd (b : Nat) (z : List Int) (s k : Int) (hz : z.length = 98) (h8 : I8s z) (w : World) (hb : Brd w b z) :
    Calls Tryd.prog 88 #[.pointer (some ⟨b, 0, none⟩), .int .i64 s, .int .i64 k] w fun e w' => e = .returned (.int .i64 (handF z s k)) ∧ w = w' := by
  have SI := Lib.hid (fun W => bSide_any s W)
  unfold handF
  by_cases hs : s = 0 ∨ s = 1
  · rw [decide_eq_true hs] at SI
    obtain ⟨n, rfl⟩ : ∃ n : Nat, s = n := ⟨s.toNat, by omega⟩
    have hn : n < 2 := by omega
    by_cases hk : 1 ≤ k ∧ k ≤ 7
    · rw [if_pos ⟨hs, hk⟩]
      obtain ⟨m, rfl⟩ : ∃ m : Nat, k = m := ⟨k.toNat, by omega⟩
      have hm : m < 8 := by omega
      have c1 : ¬ (m : Int) < 1 := by omega
      have c2 : ¬ 7 < (m : Int) := by omega
      rw [Int.toNat_natCast, Int.toNat_natCast]
      have c0 := hb.cell hz (81 + n * 8 + m) (by omega)
      have hv := h8.at (81 + n * 8 + m)
      have hw : wrap64 (at8 z (81 + n * 8 + m)) = at8 z (81 + n * 8 + m) := by unfold wrap64; omega
      clear hs hb hz hk hv h8
      generalize at8 z (81 + n * 8 + m) = v at c0 hw ⊢
      go_enter Tryd.func88, Tryd.ntmps88
      go_wp2_with (go_at_call 69; refine (SI.out _).mono ?_; rintro e w1 ⟨rfl, rfl⟩)
      go_ret
      rw [hw]
      exact ⟨rfl, rfl⟩
    · rw [if_neg (fun h => hk h.2)]
      clear hs hb hz h8
      by_cases h1 : k < 1
      · go_enter Tryd.func88, Tryd.ntmps88
        go_wp2_with (go_at_call 69; refine (SI.out _).mono ?_; rintro e w1 ⟨rfl, rfl⟩)
        go_ret
        exact ⟨rfl, rfl⟩
      · have h2 : 7 < k := by omega
        go_enter Tryd.func88, Tryd.ntmps88
        go_wp2_with (go_at_call 69; refine (SI.out _).mono ?_; rintro e w1 ⟨rfl, rfl⟩)
        go_ret
        exact ⟨rfl, rfl⟩
  · rw [decide_eq_false hs] at SI
    rw [if_neg (fun h => hs h.1)]
    clear hs hb hz h8
    go_enter Tryd.func88, Tryd.ntmps88
    go_wp2_with (go_at_call 69; refine (SI.out _).mono ?_; rintro e w1 ⟨rfl, rfl⟩)
    go_ret
    exact ⟨rfl, rfl⟩
end Go.Proofs.YtbopbekehccdmaaDoor
