/-
  Boards: New and Clone.
-/
import Derived.Test.YtbopbekehccdmaaDoorBrd2
namespace Go.Proofs.YtbopbekehccdmaaDoor
open Go.RowKit
set_option linter.unusedVariables false
set_option linter.unusedSimpArgs false

theorem infoBrd : (Tryd.prog.info? 45).map (·.size) = some 166 := by kernel_rfl
theorem zeroBrd_size : Tryd.zeroCells45.size = 166 := by kernel_rfl
theorem brdC_one (z : List Int) (S : Nat → Nat) : (brdC z S).toArray.all (·.oneCell') = true := all_oneCell_toArray (fun v hv => by
  unfold brdC posC at hv
  rcases List.mem_append.1 hv with h | h
  · obtain ⟨x, _, rfl⟩ := List.mem_map.1 h
    rfl
  · obtain ⟨x, _, rfl⟩ := List.mem_map.1 h
    rfl)
theorem BrdAt.range {w : World} {b : Nat} {z : List Int} {S : Nat → Nat} (h : BrdAt w b z S) : w.rangeAt b 0 (brdC z S) := fun j v hv => by
  rw [Nat.zero_add]
  exact h.at j v hv
theorem BrdAt.new (w : World) (z : List Int) (S : Nat → Nat) : BrdAt (w.alloc (.cells (brdC z S).toArray 45)) w.heap.size z S := heap_alloc_new w _

/-- The position of a board that is made of a raw one: what is no piece isn't put. -/
def nz (z : List Int) : Nat → List Int
  | 0 => List.replicate 81 0 ++ z.drop 81
  | k + 1 => putZ (nz z k) k (at8 z k)
def newZ (z : List Int) : List Int := nz z 81
theorem nz_len (z : List Int) (hz : z.length = 98) : ∀ k, (nz z k).length = 98
  | 0 => by unfold nz; rw [List.length_append, List.length_replicate, List.length_drop, hz]
  | k + 1 => by unfold nz; rw [putZ_len, nz_len z hz k]
theorem nz_at (z : List Int) (hz : z.length = 98) : ∀ k, k ≤ 81 → ∀ i, i < 98 → at8 (nz z k) i = if i < 81 then (if i < k ∧ kindF (at8 z i) ≠ 0 then at8 z i else 0) else at8 z i
  | 0, _, i, hi => by
    unfold nz at8
    rw [List.getD_eq_getElem?_getD, List.getD_eq_getElem?_getD]
    by_cases h : i < 81
    · rw [if_pos h, List.getElem?_append_left (by rw [List.length_replicate]; exact h), List.getElem?_replicate, if_pos h, if_neg (by omega)]
      rfl
    · rw [if_neg h, List.getElem?_append_right (by rw [List.length_replicate]; omega), List.length_replicate, List.getElem?_drop, show 81 + (i - 81) = i by omega]
  | k + 1, hk, i, hi => by
    unfold nz
    rw [putZ_at _ k _ (by omega), at8_set _ _ _ _ (by rw [nz_len z hz]; omega), nz_at z hz k (by omega) i hi]
    by_cases h : i = k
    · subst h
      rw [if_pos rfl]
      by_cases h0 : kindF (at8 z i) = 0
      · rw [if_pos h0, if_pos (show i < 81 by omega), if_neg (fun h => h.2 h0)]
      · rw [if_neg h0, if_pos (show i < 81 by omega), if_pos ⟨by omega, h0⟩]
    · rw [if_neg h]
      by_cases h2 : i < k
      · simp only [h2, show i < k + 1 by omega, true_and]
      · simp only [h2, show ¬ i < k + 1 by omega, false_and]
theorem nz_clean (z : List Int) (hz : z.length = 98) : ∀ k, Clean (nz z k)
  | 0 => fun q hq _ => by
    rw [nz_at z hz 0 (by omega) q (by omega), if_pos hq, if_neg (by omega)]
  | k + 1 => by unfold nz; exact putZ_clean (nz_clean z hz k) (nz_len z hz k) _ _
theorem nz_8 (z : List Int) (h8 : I8s z) : ∀ k, I8s (nz z k)
  | 0 => by
    intro x hx
    rcases List.mem_append.1 hx with h | h
    · rw [List.eq_of_mem_replicate h]; omega
    · exact h8 x (List.mem_of_mem_drop h)
  | k + 1 => by unfold nz; exact putZ_8 (nz_8 z h8 k) _ _ (h8.at k)
theorem newZ_len (z : List Int) (hz : z.length = 98) : (newZ z).length = 98 := nz_len z hz 81
theorem newZ_at (z : List Int) (hz : z.length = 98) (i : Nat) (hi : i < 98) : at8 (newZ z) i = if i < 81 ∧ kindF (at8 z i) = 0 then 0 else at8 z i := by
  unfold newZ
  rw [nz_at z hz 81 (by omega) i hi]
  by_cases h : i < 81
  · rw [if_pos h]
    by_cases h0 : kindF (at8 z i) = 0
    · rw [if_neg (fun h => h.2 h0), if_pos ⟨h, h0⟩]
    · rw [if_pos ⟨h, h0⟩, if_neg (fun h => h0 h.2)]
  · rw [if_neg h, if_neg (fun h2 => h h2.1)]
theorem newZ_clean (z : List Int) (hz : z.length = 98) : Clean (newZ z) := nz_clean z hz 81
theorem newZ_8 (z : List Int) (h8 : I8s z) : I8s (newZ z) := nz_8 z h8 81
theorem newZ_self (z : List Int) (hz : z.length = 98) (hc : Clean z) : newZ z = z := by
  refine at8_ext _ _ (newZ_len z hz) hz fun i hi => ?_
  rw [newZ_at z hz i hi]
  split
  · rename_i h
    exact (hc i h.1 h.2).symm
  · rfl

/-! The board that New builds first: nothing stands on it. -/
theorem seventeen {α : Type} (l : List α) (h : l.length = 17) : ∃ a0 a1 a2 a3 a4 a5 a6 a7 b0 b1 b2 b3 b4 b5 b6 b7 c, l = [a0, a1, a2, a3, a4, a5, a6, a7, b0, b1, b2, b3, b4, b5, b6, b7, c] := by
  match l, h with
  | [a0, a1, a2, a3, a4, a5, a6, a7, b0, b1, b2, b3, b4, b5, b6, b7, c], _ => exact ⟨a0, a1, a2, a3, a4, a5, a6, a7, b0, b1, b2, b3, b4, b5, b6, b7, c, rfl⟩
theorem set_none (z : List Int) (h : ∀ q, q < 81 → at8 z q = 0) (i : Nat) (hi : i < 34) : setAt z i = 0 := by
  have e : ∀ (f : Int → Bool), f 0 = false → whereN z f 81 = 0 := by
    intro f hf
    apply Nat.eq_of_testBit_eq
    intro j
    rw [where_test, Nat.zero_testBit]
    by_cases hj : j < 81
    · rw [h j hj, hf, Bool.and_false]
    · simp [hj]
  unfold setAt
  split
  · refine e _ ?_
    unfold pieceB
    by_cases h0 : (0 : Int) = i
    · rw [← h0, kind_zero]; rfl
    · rw [decide_eq_false h0]; rfl
  · refine e _ ?_
    unfold sideB
    rw [side_zero]
    exact decide_eq_false (by omega)
theorem built1 (a0 a1 a2 a3 a4 a5 a6 a7 b0 b1 b2 b3 b4 b5 b6 b7 : Int) :
    List.foldl (fun cs (x : Value × Nat) => cs.setIfInBounds (81 + x.snd) x.fst) Tryd.zeroCells28 (posC [a0, a1, a2, a3, a4, a5, a6, a7, b0, b1, b2, b3, b4, b5, b6, b7]).zipIdx = (posC (List.replicate 81 0 ++ [a0, a1, a2, a3, a4, a5, a6, a7, b0, b1, b2, b3, b4, b5, b6, b7, 0])).toArray := by kernel_rfl
theorem built2 (a0 a1 a2 a3 a4 a5 a6 a7 b0 b1 b2 b3 b4 b5 b6 b7 c : Int) :
    (posC (List.replicate 81 0 ++ [a0, a1, a2, a3, a4, a5, a6, a7, b0, b1, b2, b3, b4, b5, b6, b7, 0])).set 97 (.int .i8 c) = posC (List.replicate 81 0 ++ [a0, a1, a2, a3, a4, a5, a6, a7, b0, b1, b2, b3, b4, b5, b6, b7, c]) := by kernel_rfl
theorem built3 (a0 a1 a2 a3 a4 a5 a6 a7 b0 b1 b2 b3 b4 b5 b6 b7 c : Int) :
    List.foldl (fun cs (x : Value × Nat) => cs.setIfInBounds x.snd x.fst) Tryd.zeroCells45 (posC (List.replicate 81 0 ++ [a0, a1, a2, a3, a4, a5, a6, a7, b0, b1, b2, b3, b4, b5, b6, b7, c])).zipIdx = (brdC (List.replicate 81 0 ++ [a0, a1, a2, a3, a4, a5, a6, a7, b0, b1, b2, b3, b4, b5, b6, b7, c]) (fun _ => 0)).toArray := by kernel_rfl

set_option maxRecDepth 100000 in
set_option maxHeartbeats 1000000 in
theorem new_brd (z : List Int) (hz : z.length = 98) (h8 : I8s z) (w : World) :
    Calls Tryd.prog 16 #[.agg (posC z).toArray] w fun e w' => ∃ g : Nat, e = .returned (.pointer (some ⟨g, 0, none⟩)) ∧ w.heap.size ≤ g ∧ Brd w' g (newZ z) ∧ Below w.heap.size w w' := by
  have H8 := Lib.hid h8
  have HZ := Lib.hid hz
  have hl : (posC z).length = 98 := by rw [posC_len, hz]
  have hC : ∀ j, j < 98 → (posC z)[j]? = some (.int .i8 (at8 z j)) := fun j hj => posC_get z j (by omega)
  obtain ⟨a0, a1, a2, a3, a4, a5, a6, a7, b0, b1, b2, b3, b4, b5, b6, b7, c, hd⟩ := seventeen (z.drop 81) (by rw [List.length_drop, hz])
  have hhand : ((posC z).drop 81).take 16 = posC [a0, a1, a2, a3, a4, a5, a6, a7, b0, b1, b2, b3, b4, b5, b6, b7] := by
    unfold posC
    rw [← List.map_drop, hd]
    rfl
  have hside : at8 z 97 = c := by
    have : at8 z 97 = (z.drop 81).getD 16 0 := by
      unfold at8
      rw [List.getD_eq_getElem?_getD, List.getD_eq_getElem?_getD, List.getElem?_drop]
    rw [this, hd]
    rfl
  have hn0 : List.replicate 81 0 ++ [a0, a1, a2, a3, a4, a5, a6, a7, b0, b1, b2, b3, b4, b5, b6, b7, c] = nz z 0 := by rw [← hd]; rfl
  have B1 := built1 a0 a1 a2 a3 a4 a5 a6 a7 b0 b1 b2 b3 b4 b5 b6 b7
  have B2 := built2 a0 a1 a2 a3 a4 a5 a6 a7 b0 b1 b2 b3 b4 b5 b6 b7 c
  have B3 := built3 a0 a1 a2 a3 a4 a5 a6 a7 b0 b1 b2 b3 b4 b5 b6 b7 c
  have L1 : (posC (List.replicate 81 0 ++ [a0, a1, a2, a3, a4, a5, a6, a7, b0, b1, b2, b3, b4, b5, b6, b7, 0])).length = 98 := by kernel_rfl
  have L2 : (posC (List.replicate 81 0 ++ [a0, a1, a2, a3, a4, a5, a6, a7, b0, b1, b2, b3, b4, b5, b6, b7, c])).length = 98 := by kernel_rfl
  have L0 : (posC [a0, a1, a2, a3, a4, a5, a6, a7, b0, b1, b2, b3, b4, b5, b6, b7]).length = 16 := by kernel_rfl
  rw [hn0] at B2 B3 L2
  have HN0 := Lib.hid hn0
  have HBX := Lib.hid (box_range w (posC z) 28)
  have hr := part_range HBX.out 81 16
  rw [hhand] at hr
  have HR := Lib.hid hr
  have hr0 := part_range HBX.out 0 81
  have hb1 : ∀ j, j < 81 → (((posC z).drop 0).take 81)[j]? = some (.int .i8 (at8 z j)) := fun j hj => drop_get (by rw [Nat.zero_add]; exact hC j (by omega)) hj
  have hbl : (((posC z).drop 0).take 81).length = 81 := by rw [List.length_take, List.length_drop, hl]; rfl
  generalize ((posC z).drop 0).take 81 = bs at hr0 hb1 hbl
  have HR0 := Lib.hid hr0
  have HB1 := Lib.hid hb1
  have HBL := Lib.hid hbl
  have h97 : (w.alloc (.cells (posC z).toArray 28)).cell? ⟨w.heap.size, 97, none⟩ = some (.int .i8 (at8 z 97)) := box_cell w (posC z) _ 97 _ (hC 97 (by omega))
  rw [hside] at h97
  clear hr hr0 hb1 hbl hC hhand hside hn0 hd hl hz h8
  have hb0 : Below w.heap.size w (w.alloc (.cells (posC z).toArray 28)) := ball (bref w) _
  have hw1 : w.heap.size < (w.alloc (.cells (posC z).toArray 28)).heap.size := by simp
  have HSL := Lib.hid (show (Tryd.prog.info? 26).map (·.size) = some (posC [a0, a1, a2, a3, a4, a5, a6, a7, b0, b1, b2, b3, b4, b5, b6, b7]).length by kernel_rfl)
  generalize posC [a0, a1, a2, a3, a4, a5, a6, a7, b0, b1, b2, b3, b4, b5, b6, b7] = hs at HR B1 HSL L0
  generalize posC (List.replicate 81 0 ++ [a0, a1, a2, a3, a4, a5, a6, a7, b0, b1, b2, b3, b4, b5, b6, b7, 0]) = p1 at B1 B2 L1
  generalize posC (nz z 0) = pa at B2 B3 L2
  generalize hba : (brdC (nz z 0) (fun _ => 0)).toArray = ba at B3
  have HBA := Lib.hid hba
  clear hba
  have HR0' := Lib.hid (range_grow HR0.out hw1 (ball (bref (w.alloc (.cells (posC z).toArray 28))) (.cells ba 45)))
  go_enter Tryd.func16, Tryd.ntmps16
  go_wp2_with (first
    | (refine wpList_load_mid rfl 24 _ rfl w.heap.size 0 rfl bs _ HR0'.out Tryd.underlying24 rfl (by rw [HBL.out]; kernel_rfl) ?_)
    | (refine wpList_load_mid rfl 26 _ rfl w.heap.size 81 rfl hs _ HR.out Tryd.underlying26 rfl HSL.out ?_))
  have hP : BrdAt ((w.alloc (.cells (posC z).toArray 28)).alloc (.cells ba 45)) (w.heap.size + 1) (nz z 0) (fun _ => 0) := by
    have := heap_alloc_new (w.alloc (.cells (posC z).toArray 28)) (.cells ba 45)
    rw [show (w.alloc (.cells (posC z).toArray 28)).heap.size = w.heap.size + 1 by simp, ← HBA.out] at this
    rw [← HBA.out]
    exact this
  have hP := Lib.hid (hP.congr (S' := setAt (nz z 0)) (fun i hi => (set_none _ (fun q hq => by rw [nz_at z HZ.out 0 (by omega) q (by omega), if_pos hq, if_neg (by omega)]) i hi).symm))
  have hB := Lib.hid (ball hb0 (.cells ba 45))
  clear B1 B2 B3 L0 L1 L2 HR HR0 HR0' HBX h97 hb0 hw1 HBA HSL HN0
  generalize (w.alloc (.cells (posC z).toArray 28)).alloc (.cells ba 45) = w2 at *
  go_loopw [4, 5, 15] (fun _ _ i wr => ∃ j : Nat, j ≤ 81 ∧ i = .int .i64 j ∧ Brd wr (w.heap.size + 1) (nz z j) ∧ Below w.heap.size w wr) (fun _ _ i _ => 81 - (intOf i).toNat)
  case atStart => exact ⟨0, Nat.zero_le _, rfl, hP.out, hB.out⟩
  case round =>
    obtain ⟨j, hj, rfl, hP, hB⟩ := hrel
    have HP := Lib.hid hP
    have HB := Lib.hid hB
    clear hB hP
    by_cases hlt : j < 81
    · have hx := fun W => run_index_cell (P := Tryd.prog) W 24 23 81 bs.toArray j (.int .i8 (at8 z j)) Tryd.underlying24 (by kernel_rfl) (by kernel_rfl) hlt (by simpa using HB1.out j hlt)
      have PU := Lib.hid (fun W (h : Brd W (w.heap.size + 1) (nz z j)) => put_any (w.heap.size + 1) (nz z j) j (at8 z j) (H8.out.at j) (nz_len z HZ.out j) (nz_clean z HZ.out j) W h)
      have e : putZ (nz z j) j (at8 z j) = nz z (j + 1) := rfl
      rw [e] at PU
      clear e
      generalize at8 z j = x at hx PU
      go_wp2_with (go_at_call 18; refine (PU.out _ HP.out).mono ?_; rintro e w3 ⟨rfl, P3, B3⟩; have P3 := Lib.hid P3; have B3 := Lib.hid B3)
      go_roundw
      case rel => exact ⟨j + 1, by omega, by go_num, P3.out, HB.out.trans (B3.out.below (by omega) HB.out.size)⟩
      case measure => simp [intOf]; omega
    · obtain rfl : j = 81 := by omega
      go_wp2
      go_ret
      exact ⟨_, rfl, by omega, HP.out, HB.out⟩
end Go.Proofs.YtbopbekehccdmaaDoor
