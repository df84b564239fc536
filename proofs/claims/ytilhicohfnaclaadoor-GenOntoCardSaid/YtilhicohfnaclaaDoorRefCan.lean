/-
  The document's answers on moves: Check, Clean, Can.
-/
import Derived.Test.YtilhicohfnaclaaDoorCanF
import Derived.Test.YtilhicohfnaclaaDoorRefKind
import Derived.Test.YtilhicohfnaclaaDoorChkAll
import Derived.Test.YtilhicohfnaclaaDoorRefs
import Derived.LoopTactic
import Derived.Laws.IdiomStrings
import Derived.Deep.QuietTactic
import Derived.BigQuiet
import Derived.Deep.RegionHeld3
import Derived.Deep.LoopGhost
import Derived.Lib.Hide
import Derived.Deep.CutBlock
import Derived.Laws.ResultCell
/-
  The reference's Check and Text of moves.
-/
namespace Go.Proofs.YtilhicohfnaclaaDoor
open Go.RowKit
set_option linter.unusedVariables false
set_option linter.unusedSimpArgs false

theorem refCheck_mv (f t d : Int) (p : Bool) (w : World) :
    Calls Tryd.prog 96 #[.agg #[.int .i64 f, .int .i64 t, .int .i64 d, .bool p]] w fun e w' => e = .returned (.int .i64 (checkM f t d p)) ∧ Below w.heap.size w w' := by
  have hz := checkM_zero f t d p
  by_cases ht0 : t < 0
  · rw [show checkM f t d p = 1 from if_neg (by omega)]
    clear hz
    go_enter Tryd.func96, Tryd.ntmps96
    go_wp2
    go_ret
    exact ⟨rfl, ball (bref w) _⟩
  · by_cases ht1 : 80 < t
    · rw [show checkM f t d p = 1 from if_neg (by omega)]
      clear hz
      go_enter Tryd.func96, Tryd.ntmps96
      go_wp2
      go_ret
      exact ⟨rfl, ball (bref w) _⟩
    · by_cases hd : d = 0
      · subst hd
        by_cases hf0 : f < 0
        · rw [show checkM f t 0 p = 1 by unfold checkM; rw [if_pos (by omega), if_pos rfl, if_neg (by omega)]]
          clear hz
          go_enter Tryd.func96, Tryd.ntmps96
          go_wp2
          go_ret
          exact ⟨rfl, ball (bref w) _⟩
        · by_cases hf1 : 80 < f
          · rw [show checkM f t 0 p = 1 by unfold checkM; rw [if_pos (by omega), if_pos rfl, if_neg (by omega)]]
            clear hz
            go_enter Tryd.func96, Tryd.ntmps96
            go_wp2
            go_ret
            exact ⟨rfl, ball (bref w) _⟩
          · by_cases he : f = t
            · rw [show checkM f t 0 p = 70 by unfold checkM; rw [if_pos (by omega), if_pos rfl, if_pos (by omega), if_pos he]]
              have b1 : (f == t) = true := by simpa using he
              clear hz he
              go_enter Tryd.func96, Tryd.ntmps96
              go_wp2
              go_ret
              exact ⟨rfl, ball (bref w) _⟩
            · rw [show checkM f t 0 p = 0 by unfold checkM; rw [if_pos (by omega), if_pos rfl, if_pos (by omega), if_neg he]]
              have b1 : (f == t) = false := by simpa using he
              clear hz he
              go_enter Tryd.func96, Tryd.ntmps96
              go_wp2
              go_ret
              exact ⟨rfl, ball (bref w) _⟩
      · have hv : checkM f t d p = if 1 ≤ d ∧ d ≤ 7 ∧ f = 0 ∧ p = false then 0 else 70 := by unfold checkM; rw [if_pos (by omega), if_neg hd]
        rw [hv]
        have b0 : (d != 0) = true := by simpa using hd
        clear hz hv hd
        by_cases hd1 : d < 1
        · rw [if_neg (by omega)]
          go_enter Tryd.func96, Tryd.ntmps96
          go_wp2
          go_ret
          exact ⟨rfl, ball (bref w) _⟩
        · by_cases hd7 : 7 < d
          · rw [if_neg (by omega)]
            go_enter Tryd.func96, Tryd.ntmps96
            go_wp2
            go_ret
            exact ⟨rfl, ball (bref w) _⟩
          · by_cases hf : f = 0
            · subst hf
              cases p
              · rw [if_pos ⟨by omega, by omega, rfl, rfl⟩]
                go_enter Tryd.func96, Tryd.ntmps96
                go_wp2
                go_ret
                exact ⟨rfl, ball (bref w) _⟩
              · rw [if_neg (by simp)]
                go_enter Tryd.func96, Tryd.ntmps96
                go_wp2
                go_ret
                exact ⟨rfl, ball (bref w) _⟩
            · rw [if_neg (by omega)]
              have b1 : (f != 0) = true := by simpa using hf
              clear hf
              go_enter Tryd.func96, Tryd.ntmps96
              go_wp2
              go_ret
              exact ⟨rfl, ball (bref w) _⟩

end Go.Proofs.YtilhicohfnaclaaDoor
/-
  The reference of layer 9: Clean.
-/
namespace Go.Proofs.YtilhicohfnaclaaDoor
open Go.RowKit
set_option linter.unusedVariables false
set_option linter.unusedSimpArgs false

def clK (z : List Int) : Nat → List Int
  | 0 => z
  | k + 1 => if kindF (at8 z k) = 0 then (clK z k).set k 0 else clK z k
theorem clK_len (z : List Int) : ∀ k, (clK z k).length = z.length
  | 0 => rfl
  | k + 1 => by
    unfold clK
    split
    · rw [List.length_set, clK_len z k]
    · exact clK_len z k
theorem clK_at (z : List Int) (hz : z.length = 98) : ∀ k, k ≤ 81 → ∀ i, at8 (clK z k) i = if i < k ∧ kindF (at8 z i) = 0 then 0 else at8 z i
  | 0, _, i => by rw [if_neg (by omega)]; rfl
  | k + 1, hk, i => by
    have ih := clK_at z hz k (by omega)
    unfold clK
    by_cases h : kindF (at8 z k) = 0
    · rw [if_pos h, at8_set _ _ _ _ (by rw [clK_len, hz]; omega)]
      by_cases e : i = k
      · subst e
        rw [if_pos rfl, if_pos ⟨by omega, h⟩]
      · rw [if_neg e, ih i]
        by_cases h2 : i < k ∧ kindF (at8 z i) = 0
        · rw [if_pos h2, if_pos ⟨by omega, h2.2⟩]
        · rw [if_neg h2, if_neg (fun h3 => h2 ⟨by omega, h3.2⟩)]
    · rw [if_neg h, ih i]
      by_cases h2 : i < k ∧ kindF (at8 z i) = 0
      · rw [if_pos h2, if_pos ⟨by omega, h2.2⟩]
      · rw [if_neg h2, if_neg (fun h3 => h2 ⟨by
          have : i ≠ k := fun e => h (by rw [← e]; exact h3.2)
          omega, h3.2⟩)]
theorem clK_new (z : List Int) (hz : z.length = 98) : clK z 81 = newZ z :=
  at8_ext _ _ (by rw [clK_len, hz]) (newZ_len z hz) fun i hi => by
    rw [clK_at z hz 81 (Nat.le_refl _) i, newZ_at z hz i hi]
set_option maxHeartbeats 4000000 in
theorem clean_any (z : List Int) (hz : z.length = 98) (h8 : I8s z) (w : World) :
    Calls Tryd.prog 54 #[.agg (posC z).toArray] w fun e w' => e = .returned (.agg (posC (newZ z)).toArray) ∧ Below w.heap.size w w' := by
  rw [← clK_new z hz]
  have HZ := Lib.hid hz
  have H8 := Lib.hid h8
  have P0 := Lib.hid ((PosAt.new w z).grow (ball (bref _) (.cells Tryd.zeroCells28 28)))
  have D0 : ((w.alloc (.cells (posC z).toArray 28)).alloc (.cells Tryd.zeroCells28 28)).heap[w.heap.size + 1]? = some (.cells Tryd.zeroCells28 28) := by
    have := heap_alloc_new (w.alloc (.cells (posC z).toArray 28)) (.cells Tryd.zeroCells28 28)
    rwa [show (w.alloc (.cells (posC z).toArray 28)).heap.size = w.heap.size + 1 by simp] at this
  have HD0 := Lib.hid D0
  have HB0 := Lib.hid (ball (ball (bref w) (.cells (posC z).toArray 28)) (.cells Tryd.zeroCells28 28))
  have HS0 := Lib.hid (show w.heap.size + 1 < ((w.alloc (.cells (posC z).toArray 28)).alloc (.cells Tryd.zeroCells28 28)).heap.size by simp)
  clear hz h8 D0
  go_enter Tryd.func54, Tryd.ntmps54
  go_wp2
  generalize (w.alloc (.cells (posC z).toArray 28)).alloc (.cells Tryd.zeroCells28 28) = w2 at *
  go_loopw [3] (fun i wr => ∃ k : Nat, k ≤ 81 ∧ i = .int .i64 k ∧ PosAt wr w.heap.size (clK z k) ∧ But w.heap.size w2 wr) (fun i _ => 81 - (intOf i).toNat)
  case atStart => exact ⟨0, by omega, rfl, P0.out, But.refl _ _⟩
  case round =>
    obtain ⟨k, hk, rfl, hP, hB⟩ := hrel
    have HP := Lib.hid hP
    have HB := Lib.hid hB
    clear hP hB
    by_cases hlt : k < 81
    · have hx := H8.out.at k
      have K := Lib.hid (fun W => refKind_any (at8 z k) W hx.1 hx.2)
      have c0 := HP.out.cell k (by rw [clK_len, HZ.out]; omega)
      rw [clK_at z HZ.out k (by omega) k, if_neg (by omega)] at c0
      have f0 := HP.out.frozen k
      have zb := HP.out.lt
      have hw : wrap64 (at8 z k) = at8 z k := by unfold wrap64; omega
      by_cases h0 : kindF (at8 z k) = 0
      · have e := show clK z (k + 1) = (clK z k).set k 0 from if_pos h0
        have E := Lib.hid e
        have b0 : (kindF (at8 z k) == 0) = true := by simpa using h0
        generalize kindF (at8 z k) = kk at *
        generalize at8 z k = x at *
        obtain ⟨hx0, hx1⟩ := hx
        clear e h0
        go_wp2_with (go_at_call 59; refine (K.out _).mono ?_; rintro e w3 ⟨rfl, rfl⟩)
        go_roundw
        case rel => exact ⟨k + 1, by omega, by go_num, by rw [E.out]; exact HP.out.set k 0, HB.out.setCell _ rfl _⟩
        case measure => simp [intOf]; omega
      · have e := show clK z (k + 1) = clK z k from if_neg h0
        have E := Lib.hid e
        have b0 : (kindF (at8 z k) == 0) = false := by simpa using h0
        generalize kindF (at8 z k) = kk at *
        generalize at8 z k = x at *
        obtain ⟨hx0, hx1⟩ := hx
        clear e h0
        go_wp2_with (go_at_call 59; refine (K.out _).mono ?_; rintro e w3 ⟨rfl, rfl⟩)
        go_roundw
        case rel => exact ⟨k + 1, by omega, by go_num, by rw [E.out]; exact HP.out, HB.out⟩
        case measure => simp [intOf]; omega
    · obtain rfl : k = 81 := by omega
      have hl : (clK z 81).length = 98 := by rw [clK_len, HZ.out]
      have HINF := Lib.hid (show (Tryd.prog.info? 28).map (·.size) = some (posC (clK z 81)).length by rw [posC_len, hl]; exact infoPos)
      have HS := Lib.hid (show Tryd.zeroCells28.size = (posC (clK z 81)).toArray.size from zeroPos_size.trans (by rw [List.size_toArray, posC_len, hl]))
      have HD6 := Lib.hid ((HB.out.block (w.heap.size + 1) HS0.out (by omega)).trans HD0.out)
      clear hl
      generalize hc : clK z 81 = sz at *
      go_wp2_with (first
        | (refine wpList_load_mid rfl 28 _ rfl w.heap.size 0 rfl (posC sz) _ HP.out.range Tryd.underlying28 rfl HINF.out ?_)
        | (refine wpList_store_row rfl 28 _ _ rfl (w.heap.size + 1) (posC sz).toArray rfl rfl 28 Tryd.zeroCells28 HD6.out (by rw [List.size_toArray]; exact HINF.out) HS.out (posC_one sz) ?_))
      refine bodyPost_ret (results_cell_row rfl _ _ (w.heap.size + 1) 28 (posC sz).toArray (0, 0) _ rfl (setRow_heap _ _ _ _ _ _ HD6.out) Tryd.underlying28 rfl (by rw [List.size_toArray]; exact HINF.out)) rfl ?_
      exact ⟨by rw [hc], below_row (HB0.out.trans (HB.out.below (by omega) (by have := HS0.out; omega))) (by omega) _⟩
end Go.Proofs.YtilhicohfnaclaaDoor
/-
  The reference of layer 9: Can.
-/
namespace Go.Proofs.YtilhicohfnaclaaDoor
open Go.RowKit
set_option linter.unusedVariables false
set_option linter.unusedSimpArgs false

theorem rowB1 {w w1 : World} {A C : Obj} (hb : Below ((w.alloc A).alloc C).heap.size ((w.alloc A).alloc C) w1) : w1.heap[w.heap.size]? = some A := by
  refine (hb.block _ (show w.heap.size < ((w.alloc A).alloc C).heap.size by simp; omega)).trans ?_
  show ((w.heap.push A).push C)[w.heap.size]? = some A
  simp [Array.getElem?_push]
theorem rowB2 {w w1 : World} {A C : Obj} (hb : Below ((w.alloc A).alloc C).heap.size ((w.alloc A).alloc C) w1) : w1.heap[w.heap.size + 1]? = some C := by
  refine (hb.block _ (show w.heap.size + 1 < ((w.alloc A).alloc C).heap.size by simp)).trans ?_
  show ((w.heap.push A).push C)[w.heap.size + 1]? = some C
  rw [Array.getElem?_push, if_pos (by simp)]
set_option maxHeartbeats 1000000 in
theorem refCan_check (z : List Int) (f t d : Int) (p : Bool) (hz : z.length = 98) (h8 : I8s z) (w : World) (hc : checkM f t d p ≠ 0) :
    Calls Tryd.prog 57 #[.agg (posC z).toArray, .agg #[.int .i64 f, .int .i64 t, .int .i64 d, .bool p]] w fun e w' => e = .returned (.bool false) ∧ Below w.heap.size w w' := by
  have C := Lib.hid (fun W => refCheck_mv f t d p W)
  have b0 : (checkM f t d p != 0) = true := by simpa using hc
  generalize checkM f t d p = c at C b0
  clear hz h8 hc
  go_enter Tryd.func57, Tryd.ntmps57
  go_wp2_with (first
    | (go_at_call 96; refine (C.out _).mono ?_; rintro e w1 ⟨rfl, hb1⟩; have HB1 := Lib.hid (bthen (ball (ball (bref w) _) _) hb1); obtain ⟨m0, m1, m2, m3⟩ := mv_cells' (rowB2 hb1); have HP := Lib.hid (show PosAt w1 w.heap.size z from rowB1 hb1)))
  go_ret
  exact ⟨rfl, HB1.out⟩
set_option maxHeartbeats 1000000 in
theorem refCan_side (z : List Int) (f t d : Int) (p : Bool) (hz : z.length = 98) (h8 : I8s z) (w : World) (hc : checkM f t d p = 0) (h0 : at8 z 97 ≠ 0) (h1 : at8 z 97 ≠ 1) :
    Calls Tryd.prog 57 #[.agg (posC z).toArray, .agg #[.int .i64 f, .int .i64 t, .int .i64 d, .bool p]] w fun e w' => e = .returned (.bool false) ∧ Below w.heap.size w w' := by
  have C := Lib.hid (fun W => refCheck_mv f t d p W)
  have HZ := Lib.hid hz
  rw [hc] at C
  obtain ⟨s, hsz⟩ : ∃ s, at8 z 97 = s := ⟨_, rfl⟩
  have HS := Lib.hid hsz
  have hs8 := h8.at 97
  rw [hsz] at hs8
  have hws : wrap64 s = s := by unfold wrap64; omega
  rw [hsz] at h0 h1
  have b1 : (s != 0) = true := by simpa using h0
  have b2 : (s != 1) = true := by simpa using h1
  clear hz h8 hc h0 h1 hsz hs8
  go_enter Tryd.func57, Tryd.ntmps57
  go_wp2_with (first
    | (go_at_call 96; refine (C.out _).mono ?_; rintro e w1 ⟨rfl, hb1⟩; have HB1 := Lib.hid (bthen (ball (ball (bref w) _) _) hb1); obtain ⟨m0, m1, m2, m3⟩ := mv_cells' (rowB2 hb1); have HP := Lib.hid (show PosAt w1 w.heap.size z from rowB1 hb1); have cs := HP.out.cell 97 (by rw [HZ.out]; omega); rw [HS.out] at cs))
  go_ret
  exact ⟨rfl, HB1.out⟩
set_option maxHeartbeats 4000000 in
theorem refCan_drop (z : List Int) (tq dn sn : Nat) (ht : tq < 81) (hd : 1 ≤ dn ∧ dn ≤ 7) (hsn : sn < 2) (hs : at8 z 97 = sn) (hz : z.length = 98) (h8 : I8s z) (w : World) (hc : checkM 0 tq dn false = 0) :
    Calls Tryd.prog 57 #[.agg (posC z).toArray, .agg #[.int .i64 0, .int .i64 tq, .int .i64 dn, .bool false]] w fun e w' => e = .returned (.bool (decide (0 < at8 z (81 + sn * 8 + dn) ∧ at8 z tq = 0))) ∧ Below w.heap.size w w' := by
  have C := Lib.hid (fun W => refCheck_mv 0 tq dn false W)
  rw [hc] at C
  have HZ := Lib.hid hz
  have HS := Lib.hid hs
  have hn8 := h8.at (81 + sn * 8 + dn)
  have hy8 := h8.at tq
  have bd : ((dn : Int) != 0) = true := by simp; omega
  have hws : wrap64 (sn : Int) = sn := by unfold wrap64; omega
  have hwy : wrap64 (at8 z tq) = at8 z tq := by unfold wrap64; omega
  obtain ⟨hd1, hd7⟩ := hd
  have hsb : ((sn : Int) != 0) = true ∧ ((sn : Int) != 1) = false ∨ ((sn : Int) != 0) = false := by
    obtain rfl | rfl : sn = 0 ∨ sn = 1 := by omega
    · right; rfl
    · left; exact ⟨rfl, rfl⟩
  generalize hh : at8 z (81 + sn * 8 + dn) = n at *
  generalize hy : at8 z tq = y at *
  have HH := Lib.hid hh
  have HT := Lib.hid hy
  clear hz h8 hc hs hh hy hn8 hy8
  by_cases hn : 0 < n
  · have bn : decide (0 < n) = true := decide_eq_true hn
    by_cases hy0 : y = 0
    · rw [decide_eq_true ⟨hn, hy0⟩]
      have by0 : (y == 0) = true := by simpa using hy0
      clear hy0
      rcases hsb with ⟨b1, b2⟩ | b1
      · go_enter Tryd.func57, Tryd.ntmps57
        go_wp2_with (first
          | (go_at_call 96; refine (C.out _).mono ?_; rintro e w1 ⟨rfl, hb1⟩; have HB1 := Lib.hid (bthen (ball (ball (bref w) _) _) hb1); obtain ⟨m0, m1, m2, m3⟩ := mv_cells' (rowB2 hb1); have HP := Lib.hid (show PosAt w1 w.heap.size z from rowB1 hb1); have cs := HP.out.cell 97 (by rw [HZ.out]; omega); rw [HS.out] at cs; have ct := HP.out.cell tq (by rw [HZ.out]; omega); rw [HT.out] at ct; have ch := HP.out.cell (81 + sn * 8 + dn) (by rw [HZ.out]; omega); rw [HH.out] at ch))
        go_quiet (fail)
        go_wp2
        go_ret
        exact ⟨rfl, bdrewN HB1.out _⟩
      · go_enter Tryd.func57, Tryd.ntmps57
        go_wp2_with (first
          | (go_at_call 96; refine (C.out _).mono ?_; rintro e w1 ⟨rfl, hb1⟩; have HB1 := Lib.hid (bthen (ball (ball (bref w) _) _) hb1); obtain ⟨m0, m1, m2, m3⟩ := mv_cells' (rowB2 hb1); have HP := Lib.hid (show PosAt w1 w.heap.size z from rowB1 hb1); have cs := HP.out.cell 97 (by rw [HZ.out]; omega); rw [HS.out] at cs; have ct := HP.out.cell tq (by rw [HZ.out]; omega); rw [HT.out] at ct; have ch := HP.out.cell (81 + sn * 8 + dn) (by rw [HZ.out]; omega); rw [HH.out] at ch))
        go_quiet (fail)
        go_wp2
        go_ret
        exact ⟨rfl, bdrewN HB1.out _⟩
    · rw [decide_eq_false (fun h => hy0 h.2)]
      have by0 : (y == 0) = false := by simpa using hy0
      clear hy0
      rcases hsb with ⟨b1, b2⟩ | b1
      · go_enter Tryd.func57, Tryd.ntmps57
        go_wp2_with (first
          | (go_at_call 96; refine (C.out _).mono ?_; rintro e w1 ⟨rfl, hb1⟩; have HB1 := Lib.hid (bthen (ball (ball (bref w) _) _) hb1); obtain ⟨m0, m1, m2, m3⟩ := mv_cells' (rowB2 hb1); have HP := Lib.hid (show PosAt w1 w.heap.size z from rowB1 hb1); have cs := HP.out.cell 97 (by rw [HZ.out]; omega); rw [HS.out] at cs; have ct := HP.out.cell tq (by rw [HZ.out]; omega); rw [HT.out] at ct; have ch := HP.out.cell (81 + sn * 8 + dn) (by rw [HZ.out]; omega); rw [HH.out] at ch))
        go_quiet (fail)
        go_wp2
        go_ret
        exact ⟨rfl, bdrewN HB1.out _⟩
      · go_enter Tryd.func57, Tryd.ntmps57
        go_wp2_with (first
          | (go_at_call 96; refine (C.out _).mono ?_; rintro e w1 ⟨rfl, hb1⟩; have HB1 := Lib.hid (bthen (ball (ball (bref w) _) _) hb1); obtain ⟨m0, m1, m2, m3⟩ := mv_cells' (rowB2 hb1); have HP := Lib.hid (show PosAt w1 w.heap.size z from rowB1 hb1); have cs := HP.out.cell 97 (by rw [HZ.out]; omega); rw [HS.out] at cs; have ct := HP.out.cell tq (by rw [HZ.out]; omega); rw [HT.out] at ct; have ch := HP.out.cell (81 + sn * 8 + dn) (by rw [HZ.out]; omega); rw [HH.out] at ch))
        go_quiet (fail)
        go_wp2
        go_ret
        exact ⟨rfl, bdrewN HB1.out _⟩
  · rw [decide_eq_false (fun h => hn h.1)]
    have bn : decide (0 < n) = false := decide_eq_false hn
    rcases hsb with ⟨b1, b2⟩ | b1
    · go_enter Tryd.func57, Tryd.ntmps57
      go_wp2_with (first
        | (go_at_call 96; refine (C.out _).mono ?_; rintro e w1 ⟨rfl, hb1⟩; have HB1 := Lib.hid (bthen (ball (ball (bref w) _) _) hb1); obtain ⟨m0, m1, m2, m3⟩ := mv_cells' (rowB2 hb1); have HP := Lib.hid (show PosAt w1 w.heap.size z from rowB1 hb1); have cs := HP.out.cell 97 (by rw [HZ.out]; omega); rw [HS.out] at cs; have ct := HP.out.cell tq (by rw [HZ.out]; omega); rw [HT.out] at ct; have ch := HP.out.cell (81 + sn * 8 + dn) (by rw [HZ.out]; omega); rw [HH.out] at ch))
      go_quiet (fail)
      go_wp2
      go_ret
      exact ⟨rfl, bdrewN HB1.out _⟩
    · go_enter Tryd.func57, Tryd.ntmps57
      go_wp2_with (first
        | (go_at_call 96; refine (C.out _).mono ?_; rintro e w1 ⟨rfl, hb1⟩; have HB1 := Lib.hid (bthen (ball (ball (bref w) _) _) hb1); obtain ⟨m0, m1, m2, m3⟩ := mv_cells' (rowB2 hb1); have HP := Lib.hid (show PosAt w1 w.heap.size z from rowB1 hb1); have cs := HP.out.cell 97 (by rw [HZ.out]; omega); rw [HS.out] at cs; have ct := HP.out.cell tq (by rw [HZ.out]; omega); rw [HT.out] at ct; have ch := HP.out.cell (81 + sn * 8 + dn) (by rw [HZ.out]; omega); rw [HH.out] at ch))
      go_quiet (fail)
      go_wp2
      go_ret
      exact ⟨rfl, bdrewN HB1.out _⟩
set_option maxHeartbeats 4000000 in
theorem refCan_go (z : List Int) (fq tq sn : Nat) (p : Bool) (hf : fq < 81) (ht : tq < 81) (hsn : sn < 2) (hs : at8 z 97 = sn) (hz : z.length = 98) (h8 : I8s z) (w : World) (hc : checkM fq tq 0 p = 0) :
    Calls Tryd.prog 57 #[.agg (posC z).toArray, .agg #[.int .i64 fq, .int .i64 tq, .int .i64 0, .bool p]] w fun e w' => e = .returned (.bool (goB sn (at8 z fq) (at8 z tq) p)) ∧ Below w.heap.size w w' := by
  have C := Lib.hid (fun W => refCheck_mv fq tq 0 p W)
  rw [hc] at C
  have HZ := Lib.hid hz
  have HS := Lib.hid hs
  have hx8 := h8.at fq
  have hy8 := h8.at tq
  have S1 := Lib.hid (fun W => refSide_any (at8 z fq) W hx8.1 hx8.2)
  have S2 := Lib.hid (fun W => refSide_any (at8 z tq) W hy8.1 hy8.2)
  have K1 := Lib.hid (fun W => refKind_any (at8 z fq) W hx8.1 hx8.2)
  have K2 := Lib.hid (fun W => refKind_any (at8 z tq) W hy8.1 hy8.2)
  have U1 := Lib.hid (fun W => refUp_any (kindF (at8 z fq)) W)
  unfold goB
  have hws : wrap64 (sn : Int) = sn := by unfold wrap64; omega
  have hwy : wrap64 (at8 z tq) = at8 z tq := by unfold wrap64; omega
  have hwx : wrap64 (at8 z fq) = at8 z fq := by unfold wrap64; omega
  have hsb : ((sn : Int) != 0) = true ∧ ((sn : Int) != 1) = false ∨ ((sn : Int) != 0) = false := by
    obtain rfl | rfl : sn = 0 ∨ sn = 1 := by omega
    · right; rfl
    · left; exact ⟨rfl, rfl⟩
  generalize hh : at8 z fq = x at *
  generalize hy : at8 z tq = y at *
  have HF := Lib.hid hh
  have HT := Lib.hid hy
  clear hz h8 hc hs hh hy hx8 hy8
  generalize sideF x = sx at *
  generalize sideF y = sy at *
  generalize kindF y = ky at *
  generalize kindF x = kx at *
  generalize upF kx = ux at *
  by_cases h1 : sx = sn
  · have b1 : (sx != (sn : Int)) = false := by simpa using h1
    by_cases h2 : sy = sn
    · rw [if_pos (.inr (.inl h2))]
      have b2 : (sy == (sn : Int)) = true := by simpa using h2
      clear h1 h2
      rcases hsb with ⟨c1, c2⟩ | c1
      · go_enter Tryd.func57, Tryd.ntmps57
        go_wp2_with (first
          | (go_at_call 96; refine (C.out _).mono ?_; rintro e w1 ⟨rfl, hb1⟩; have HB1 := Lib.hid (bthen (ball (ball (bref w) _) _) hb1); obtain ⟨m0, m1, m2, m3⟩ := mv_cells' (rowB2 hb1); have HP := Lib.hid (show PosAt w1 w.heap.size z from rowB1 hb1); have cs := HP.out.cell 97 (by rw [HZ.out]; omega); rw [HS.out] at cs; have ct := HP.out.cell tq (by rw [HZ.out]; omega); rw [HT.out] at ct; have cf := HP.out.cell fq (by rw [HZ.out]; omega); rw [HF.out] at cf)
          | (go_at_call_of 35 (Value.int .i64 x); refine (S1.out _).mono ?_; rintro e w2 ⟨rfl, rfl⟩)
          | (go_at_call 35; refine (S2.out _).mono ?_; rintro e w3 ⟨rfl, rfl⟩)
          | (go_at_call_of 59 (Value.int .i64 y); refine (K2.out _).mono ?_; rintro e w4 ⟨rfl, rfl⟩)
          | (go_at_call 59; refine (K1.out _).mono ?_; rintro e w5 ⟨rfl, rfl⟩)
          | (go_at_call 91; refine (U1.out _).mono ?_; rintro e w6 ⟨rfl, rfl⟩))
        go_ret
        exact ⟨rfl, HB1.out⟩
      · go_enter Tryd.func57, Tryd.ntmps57
        go_wp2_with (first
          | (go_at_call 96; refine (C.out _).mono ?_; rintro e w1 ⟨rfl, hb1⟩; have HB1 := Lib.hid (bthen (ball (ball (bref w) _) _) hb1); obtain ⟨m0, m1, m2, m3⟩ := mv_cells' (rowB2 hb1); have HP := Lib.hid (show PosAt w1 w.heap.size z from rowB1 hb1); have cs := HP.out.cell 97 (by rw [HZ.out]; omega); rw [HS.out] at cs; have ct := HP.out.cell tq (by rw [HZ.out]; omega); rw [HT.out] at ct; have cf := HP.out.cell fq (by rw [HZ.out]; omega); rw [HF.out] at cf)
          | (go_at_call_of 35 (Value.int .i64 x); refine (S1.out _).mono ?_; rintro e w2 ⟨rfl, rfl⟩)
          | (go_at_call 35; refine (S2.out _).mono ?_; rintro e w3 ⟨rfl, rfl⟩)
          | (go_at_call_of 59 (Value.int .i64 y); refine (K2.out _).mono ?_; rintro e w4 ⟨rfl, rfl⟩)
          | (go_at_call 59; refine (K1.out _).mono ?_; rintro e w5 ⟨rfl, rfl⟩)
          | (go_at_call 91; refine (U1.out _).mono ?_; rintro e w6 ⟨rfl, rfl⟩))
        go_ret
        exact ⟨rfl, HB1.out⟩
    · have b2 : (sy == (sn : Int)) = false := by simpa using h2
      by_cases h3 : ky = 8
      · rw [if_pos (.inr (.inr h3))]
        have b3 : (ky == 8) = true := by simpa using h3
        clear h1 h2 h3
        rcases hsb with ⟨c1, c2⟩ | c1
        · go_enter Tryd.func57, Tryd.ntmps57
          go_wp2_with (first
            | (go_at_call 96; refine (C.out _).mono ?_; rintro e w1 ⟨rfl, hb1⟩; have HB1 := Lib.hid (bthen (ball (ball (bref w) _) _) hb1); obtain ⟨m0, m1, m2, m3⟩ := mv_cells' (rowB2 hb1); have HP := Lib.hid (show PosAt w1 w.heap.size z from rowB1 hb1); have cs := HP.out.cell 97 (by rw [HZ.out]; omega); rw [HS.out] at cs; have ct := HP.out.cell tq (by rw [HZ.out]; omega); rw [HT.out] at ct; have cf := HP.out.cell fq (by rw [HZ.out]; omega); rw [HF.out] at cf)
            | (go_at_call_of 35 (Value.int .i64 x); refine (S1.out _).mono ?_; rintro e w2 ⟨rfl, rfl⟩)
            | (go_at_call 35; refine (S2.out _).mono ?_; rintro e w3 ⟨rfl, rfl⟩)
            | (go_at_call_of 59 (Value.int .i64 y); refine (K2.out _).mono ?_; rintro e w4 ⟨rfl, rfl⟩)
            | (go_at_call 59; refine (K1.out _).mono ?_; rintro e w5 ⟨rfl, rfl⟩)
            | (go_at_call 91; refine (U1.out _).mono ?_; rintro e w6 ⟨rfl, rfl⟩))
          go_ret
          exact ⟨rfl, HB1.out⟩
        · go_enter Tryd.func57, Tryd.ntmps57
          go_wp2_with (first
            | (go_at_call 96; refine (C.out _).mono ?_; rintro e w1 ⟨rfl, hb1⟩; have HB1 := Lib.hid (bthen (ball (ball (bref w) _) _) hb1); obtain ⟨m0, m1, m2, m3⟩ := mv_cells' (rowB2 hb1); have HP := Lib.hid (show PosAt w1 w.heap.size z from rowB1 hb1); have cs := HP.out.cell 97 (by rw [HZ.out]; omega); rw [HS.out] at cs; have ct := HP.out.cell tq (by rw [HZ.out]; omega); rw [HT.out] at ct; have cf := HP.out.cell fq (by rw [HZ.out]; omega); rw [HF.out] at cf)
            | (go_at_call_of 35 (Value.int .i64 x); refine (S1.out _).mono ?_; rintro e w2 ⟨rfl, rfl⟩)
            | (go_at_call 35; refine (S2.out _).mono ?_; rintro e w3 ⟨rfl, rfl⟩)
            | (go_at_call_of 59 (Value.int .i64 y); refine (K2.out _).mono ?_; rintro e w4 ⟨rfl, rfl⟩)
            | (go_at_call 59; refine (K1.out _).mono ?_; rintro e w5 ⟨rfl, rfl⟩)
            | (go_at_call 91; refine (U1.out _).mono ?_; rintro e w6 ⟨rfl, rfl⟩))
          go_ret
          exact ⟨rfl, HB1.out⟩
      · rw [if_neg (by omega)]
        have b3 : (ky == 8) = false := by simpa using h3
        clear h1 h2 h3
        cases p
        · rcases hsb with ⟨c1, c2⟩ | c1
          · go_enter Tryd.func57, Tryd.ntmps57
            go_wp2_with (first
              | (go_at_call 96; refine (C.out _).mono ?_; rintro e w1 ⟨rfl, hb1⟩; have HB1 := Lib.hid (bthen (ball (ball (bref w) _) _) hb1); obtain ⟨m0, m1, m2, m3⟩ := mv_cells' (rowB2 hb1); have HP := Lib.hid (show PosAt w1 w.heap.size z from rowB1 hb1); have cs := HP.out.cell 97 (by rw [HZ.out]; omega); rw [HS.out] at cs; have ct := HP.out.cell tq (by rw [HZ.out]; omega); rw [HT.out] at ct; have cf := HP.out.cell fq (by rw [HZ.out]; omega); rw [HF.out] at cf)
              | (go_at_call_of 35 (Value.int .i64 x); refine (S1.out _).mono ?_; rintro e w2 ⟨rfl, rfl⟩)
              | (go_at_call 35; refine (S2.out _).mono ?_; rintro e w3 ⟨rfl, rfl⟩)
              | (go_at_call_of 59 (Value.int .i64 y); refine (K2.out _).mono ?_; rintro e w4 ⟨rfl, rfl⟩)
              | (go_at_call 59; refine (K1.out _).mono ?_; rintro e w5 ⟨rfl, rfl⟩)
              | (go_at_call 91; refine (U1.out _).mono ?_; rintro e w6 ⟨rfl, rfl⟩))
            go_ret
            exact ⟨rfl, HB1.out⟩
          · go_enter Tryd.func57, Tryd.ntmps57
            go_wp2_with (first
              | (go_at_call 96; refine (C.out _).mono ?_; rintro e w1 ⟨rfl, hb1⟩; have HB1 := Lib.hid (bthen (ball (ball (bref w) _) _) hb1); obtain ⟨m0, m1, m2, m3⟩ := mv_cells' (rowB2 hb1); have HP := Lib.hid (show PosAt w1 w.heap.size z from rowB1 hb1); have cs := HP.out.cell 97 (by rw [HZ.out]; omega); rw [HS.out] at cs; have ct := HP.out.cell tq (by rw [HZ.out]; omega); rw [HT.out] at ct; have cf := HP.out.cell fq (by rw [HZ.out]; omega); rw [HF.out] at cf)
              | (go_at_call_of 35 (Value.int .i64 x); refine (S1.out _).mono ?_; rintro e w2 ⟨rfl, rfl⟩)
              | (go_at_call 35; refine (S2.out _).mono ?_; rintro e w3 ⟨rfl, rfl⟩)
              | (go_at_call_of 59 (Value.int .i64 y); refine (K2.out _).mono ?_; rintro e w4 ⟨rfl, rfl⟩)
              | (go_at_call 59; refine (K1.out _).mono ?_; rintro e w5 ⟨rfl, rfl⟩)
              | (go_at_call 91; refine (U1.out _).mono ?_; rintro e w6 ⟨rfl, rfl⟩))
            go_ret
            exact ⟨rfl, HB1.out⟩
        · rcases hsb with ⟨c1, c2⟩ | c1
          · go_enter Tryd.func57, Tryd.ntmps57
            go_wp2_with (first
              | (go_at_call 96; refine (C.out _).mono ?_; rintro e w1 ⟨rfl, hb1⟩; have HB1 := Lib.hid (bthen (ball (ball (bref w) _) _) hb1); obtain ⟨m0, m1, m2, m3⟩ := mv_cells' (rowB2 hb1); have HP := Lib.hid (show PosAt w1 w.heap.size z from rowB1 hb1); have cs := HP.out.cell 97 (by rw [HZ.out]; omega); rw [HS.out] at cs; have ct := HP.out.cell tq (by rw [HZ.out]; omega); rw [HT.out] at ct; have cf := HP.out.cell fq (by rw [HZ.out]; omega); rw [HF.out] at cf)
              | (go_at_call_of 35 (Value.int .i64 x); refine (S1.out _).mono ?_; rintro e w2 ⟨rfl, rfl⟩)
              | (go_at_call 35; refine (S2.out _).mono ?_; rintro e w3 ⟨rfl, rfl⟩)
              | (go_at_call_of 59 (Value.int .i64 y); refine (K2.out _).mono ?_; rintro e w4 ⟨rfl, rfl⟩)
              | (go_at_call 59; refine (K1.out _).mono ?_; rintro e w5 ⟨rfl, rfl⟩)
              | (go_at_call 91; refine (U1.out _).mono ?_; rintro e w6 ⟨rfl, rfl⟩))
            go_ret
            exact ⟨rfl, HB1.out⟩
          · go_enter Tryd.func57, Tryd.ntmps57
            go_wp2_with (first
              | (go_at_call 96; refine (C.out _).mono ?_; rintro e w1 ⟨rfl, hb1⟩; have HB1 := Lib.hid (bthen (ball (ball (bref w) _) _) hb1); obtain ⟨m0, m1, m2, m3⟩ := mv_cells' (rowB2 hb1); have HP := Lib.hid (show PosAt w1 w.heap.size z from rowB1 hb1); have cs := HP.out.cell 97 (by rw [HZ.out]; omega); rw [HS.out] at cs; have ct := HP.out.cell tq (by rw [HZ.out]; omega); rw [HT.out] at ct; have cf := HP.out.cell fq (by rw [HZ.out]; omega); rw [HF.out] at cf)
              | (go_at_call_of 35 (Value.int .i64 x); refine (S1.out _).mono ?_; rintro e w2 ⟨rfl, rfl⟩)
              | (go_at_call 35; refine (S2.out _).mono ?_; rintro e w3 ⟨rfl, rfl⟩)
              | (go_at_call_of 59 (Value.int .i64 y); refine (K2.out _).mono ?_; rintro e w4 ⟨rfl, rfl⟩)
              | (go_at_call 59; refine (K1.out _).mono ?_; rintro e w5 ⟨rfl, rfl⟩)
              | (go_at_call 91; refine (U1.out _).mono ?_; rintro e w6 ⟨rfl, rfl⟩))
            go_ret
            exact ⟨rfl, HB1.out⟩
  · rw [if_pos (.inl h1)]
    have b1 : (sx != (sn : Int)) = true := by simpa using h1
    clear h1
    rcases hsb with ⟨c1, c2⟩ | c1
    · go_enter Tryd.func57, Tryd.ntmps57
      go_wp2_with (first
        | (go_at_call 96; refine (C.out _).mono ?_; rintro e w1 ⟨rfl, hb1⟩; have HB1 := Lib.hid (bthen (ball (ball (bref w) _) _) hb1); obtain ⟨m0, m1, m2, m3⟩ := mv_cells' (rowB2 hb1); have HP := Lib.hid (show PosAt w1 w.heap.size z from rowB1 hb1); have cs := HP.out.cell 97 (by rw [HZ.out]; omega); rw [HS.out] at cs; have ct := HP.out.cell tq (by rw [HZ.out]; omega); rw [HT.out] at ct; have cf := HP.out.cell fq (by rw [HZ.out]; omega); rw [HF.out] at cf)
        | (go_at_call_of 35 (Value.int .i64 x); refine (S1.out _).mono ?_; rintro e w2 ⟨rfl, rfl⟩)
        | (go_at_call 35; refine (S2.out _).mono ?_; rintro e w3 ⟨rfl, rfl⟩)
        | (go_at_call_of 59 (Value.int .i64 y); refine (K2.out _).mono ?_; rintro e w4 ⟨rfl, rfl⟩)
        | (go_at_call 59; refine (K1.out _).mono ?_; rintro e w5 ⟨rfl, rfl⟩)
        | (go_at_call 91; refine (U1.out _).mono ?_; rintro e w6 ⟨rfl, rfl⟩))
      go_ret
      exact ⟨rfl, HB1.out⟩
    · go_enter Tryd.func57, Tryd.ntmps57
      go_wp2_with (first
        | (go_at_call 96; refine (C.out _).mono ?_; rintro e w1 ⟨rfl, hb1⟩; have HB1 := Lib.hid (bthen (ball (ball (bref w) _) _) hb1); obtain ⟨m0, m1, m2, m3⟩ := mv_cells' (rowB2 hb1); have HP := Lib.hid (show PosAt w1 w.heap.size z from rowB1 hb1); have cs := HP.out.cell 97 (by rw [HZ.out]; omega); rw [HS.out] at cs; have ct := HP.out.cell tq (by rw [HZ.out]; omega); rw [HT.out] at ct; have cf := HP.out.cell fq (by rw [HZ.out]; omega); rw [HF.out] at cf)
        | (go_at_call_of 35 (Value.int .i64 x); refine (S1.out _).mono ?_; rintro e w2 ⟨rfl, rfl⟩)
        | (go_at_call 35; refine (S2.out _).mono ?_; rintro e w3 ⟨rfl, rfl⟩)
        | (go_at_call_of 59 (Value.int .i64 y); refine (K2.out _).mono ?_; rintro e w4 ⟨rfl, rfl⟩)
        | (go_at_call 59; refine (K1.out _).mono ?_; rintro e w5 ⟨rfl, rfl⟩)
        | (go_at_call 91; refine (U1.out _).mono ?_; rintro e w6 ⟨rfl, rfl⟩))
      go_ret
      exact ⟨rfl, HB1.out⟩
/-- The reference's Can is whether the program can. -/
theorem refCan_any (z : List Int) (f t d : Int) (p : Bool) (hz : z.length = 98) (h8 : I8s z) (w : World) :
    Calls Tryd.prog 57 #[.agg (posC z).toArray, .agg #[.int .i64 f, .int .i64 t, .int .i64 d, .bool p]] w fun e w' => e = .returned (.bool (canF z f t d p)) ∧ Below w.heap.size w w' := by
  unfold canF
  by_cases hc : checkM f t d p = 0
  · rw [if_pos hc]
    have hcc := (checkM_zero f t d p).1 hc
    by_cases h01 : at8 z 97 = 0 ∨ at8 z 97 = 1
    · rw [if_pos h01]
      obtain ⟨sn, hs, hsn⟩ : ∃ sn : Nat, at8 z 97 = sn ∧ sn < 2 := ⟨(at8 z 97).toNat, by omega, by omega⟩
      obtain ⟨tq, rfl⟩ : ∃ tq : Nat, t = tq := ⟨t.toNat, by omega⟩
      by_cases hd : d = 0
      · rw [if_pos hd]
        subst hd
        obtain ⟨fq, rfl⟩ : ∃ fq : Nat, f = fq := ⟨f.toNat, by omega⟩
        rw [hs, Int.toNat_natCast, Int.toNat_natCast]
        exact refCan_go z fq tq sn p (by omega) (by omega) hsn hs hz h8 w hc
      · rw [if_neg hd]
        obtain ⟨dn, rfl⟩ : ∃ dn : Nat, d = dn := ⟨d.toNat, by omega⟩
        obtain ⟨h1, h2⟩ := hcc
        rcases h2 with h2 | ⟨h2, h3, rfl, rfl⟩
        · exact absurd h2.1 hd
        · have e : handF z (at8 z 97) dn = at8 z (81 + sn * 8 + dn) := by
            unfold handF
            rw [if_pos (by omega), hs, Int.toNat_natCast, Int.toNat_natCast]
          rw [e, Int.toNat_natCast]
          exact refCan_drop z tq dn sn (by omega) (by omega) hsn hs hz h8 w hc
    · rw [if_neg h01]
      exact refCan_side z f t d p hz h8 w hc (fun e => h01 (.inl e)) (fun e => h01 (.inr e))
  · rw [if_neg hc]
    exact refCan_check z f t d p hz h8 w hc
end Go.Proofs.YtilhicohfnaclaaDoor
