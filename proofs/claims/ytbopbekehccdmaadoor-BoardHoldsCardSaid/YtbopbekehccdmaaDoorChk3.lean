/-
  board.Check's parts: count.
-/
import Derived.Test.YtbopbekehccdmaaDoorChk2
namespace Go.Proofs.YtbopbekehccdmaaDoor
open Go.RowKit
set_option linter.unusedVariables false
set_option linter.unusedSimpArgs false

def cntN (z : List Int) (f : Int → Bool) : Nat → Nat
  | 0 => 0
  | k + 1 => cntN z f k + (if f (at8 z k) then 1 else 0)
theorem cntN_le (z : List Int) (f : Int → Bool) : ∀ k, cntN z f k ≤ k
  | 0 => Nat.le_refl _
  | k + 1 => by
    unfold cntN
    have := cntN_le z f k
    split <;> omega
def cenB (t : Nat) (x : Int) : Bool := if t = 0 then decide (x = 8) else if t = 1 then decide (x = 24) else decide (rawF (kindF x) = (t : Int) - 2) && !decide (t = 2)
def FB (z : List Int) (k : Nat) : Nat → Int := fun t => cntN z (cenB t) k
theorem FB_bd (z : List Int) (k t : Nat) : 0 ≤ FB z k t ∧ FB z k t ≤ k := by
  unfold FB
  have := cntN_le z (cenB t) k
  omega
theorem FB_step (z : List Int) (k t : Nat) : FB z (k + 1) t = FB z k t + (if cenB t (at8 z k) then 1 else 0) := by
  unfold FB
  rw [cntN]
  split <;> simp
theorem cenB_kind (t : Nat) (x : Int) (h2 : 2 < t) : cenB t x = decide (rawF (kindF x) = (t : Int) - 2) := by
  unfold cenB
  rw [if_neg (by omega), if_neg (by omega), decide_eq_false (show ¬ t = 2 by omega)]
  simp
theorem FB_add (z : List Int) (k : Nat) (hk : k < 81) : ∀ t, t < 11 → addF (FB z k) (at8 z k) t = FB z (k + 1) t := by
  intro t ht
  rw [FB_step]
  have hw : ∀ i, wrap64 (FB z k i + 1) = FB z k i + 1 := fun i => by
    have := FB_bd z k i
    unfold wrap64
    omega
  have hs := kind_side (at8 z k)
  have hr := rawF_cases (kindF (at8 z k))
  unfold addF
  rw [hw, hw, hw]
  generalize at8 z k = x at hs hr
  unfold putF
  by_cases h8 : rawF (kindF x) = 8
  · rw [if_pos h8]
    have hx : (x = 8 ∧ sideF x = 0) ∨ (x = 24 ∧ sideF x = 1) := by omega
    by_cases t10 : t = 10
    · subst t10
      rw [if_pos rfl, cenB_kind 10 x (by omega), decide_eq_true (show rawF (kindF x) = ((10 : Nat) : Int) - 2 by omega)]
      rfl
    · rw [if_neg t10]
      unfold cenB
      rcases hx with ⟨rfl, hs⟩ | ⟨rfl, hs⟩
      · rw [hs]
        by_cases t0 : t = 0
        · subst t0; rfl
        · rw [if_neg (by simpa using t0), if_neg t0]
          by_cases t1 : t = 1
          · subst t1; simp
          · rw [if_neg t1, decide_eq_false (by omega)]; simp
      · rw [hs]
        by_cases t1 : t = 1
        · subst t1; rfl
        · rw [if_neg (by simpa using t1)]
          by_cases t0 : t = 0
          · subst t0; simp
          · rw [if_neg t0, if_neg t1, decide_eq_false (by omega)]; simp
  · rw [if_neg h8]
    have n8 : ¬ x = 8 := by rintro rfl; exact h8 (by decide)
    have n24 : ¬ x = 24 := by rintro rfl; exact h8 (by decide)
    by_cases h0 : rawF (kindF x) = 0
    · rw [if_pos h0]
      unfold cenB
      by_cases t0 : t = 0
      · subst t0; rw [if_pos rfl, decide_eq_false n8]; simp
      · rw [if_neg t0]
        by_cases t1 : t = 1
        · subst t1; rw [if_pos rfl, decide_eq_false n24]; simp
        · rw [if_neg t1, h0]
          by_cases t2 : t = 2
          · subst t2; simp
          · rw [decide_eq_false (show ¬ (0 : Int) = (t : Int) - 2 by omega)]; simp
    · rw [if_neg h0]
      obtain ⟨m, hm, hm1⟩ : ∃ m : Nat, rawF (kindF x) = m ∧ 1 ≤ m := ⟨(rawF (kindF x)).toNat, by omega, by omega⟩
      rw [show (rawF (kindF x)).toNat = m by rw [hm, Int.toNat_natCast]]
      by_cases e : t = 2 + m
      · subst e
        rw [if_pos rfl, cenB_kind _ x (by omega), hm, decide_eq_true (show (m : Int) = ((2 + m : Nat) : Int) - 2 by omega)]
        rfl
      · rw [if_neg e]
        unfold cenB
        rw [hm]
        by_cases t0 : t = 0
        · subst t0; rw [if_pos rfl, decide_eq_false n8]; simp
        · rw [if_neg t0]
          by_cases t1 : t = 1
          · subst t1; rw [if_pos rfl, decide_eq_false n24]; simp
          · rw [if_neg t1, decide_eq_false (show ¬ (m : Int) = (t : Int) - 2 by omega)]; simp

def FH (z : List Int) : Nat → Nat → Int
  | 0 => FB z 81
  | j + 1 => putF (FH z j) (2 + j % 8) (wrap64 (FH z j (2 + j % 8) + at8 z (81 + j)))
def handsF (z : List Int) (j t : Nat) : Int := if 2 ≤ t ∧ t < 10 then (if t - 2 < j then at8 z (81 + (t - 2)) else 0) + (if 8 + (t - 2) < j then at8 z (81 + (8 + (t - 2))) else 0) else 0
theorem FH_at (z : List Int) (h8 : I8s z) (t : Nat) : ∀ j, j ≤ 16 → FH z j t = FB z 81 t + handsF z j t
  | 0, _ => by
    unfold FH handsF
    split
    · rw [if_neg (by omega), if_neg (by omega)]; omega
    · omega
  | j + 1, hj => by
    have ih := FH_at z h8 t j (by omega)
    have hb := FB_bd z 81 t
    unfold FH putF
    by_cases e : t = 2 + j % 8
    · rw [if_pos e, ← e, ih]
      have h1 := h8.at (81 + (t - 2))
      have h2 := h8.at (81 + (8 + (t - 2)))
      have ht : 2 ≤ t ∧ t < 10 := by omega
      unfold handsF
      rw [if_pos ht, if_pos ht]
      by_cases hlt : j < 8
      · have e1 : 81 + j = 81 + (t - 2) := by omega
        rw [if_neg (show ¬ t - 2 < j by omega), if_neg (show ¬ 8 + (t - 2) < j by omega), if_pos (show t - 2 < j + 1 by omega), if_neg (show ¬ 8 + (t - 2) < j + 1 by omega), e1]
        unfold wrap64
        omega
      · have e1 : 81 + j = 81 + (8 + (t - 2)) := by omega
        rw [if_pos (show t - 2 < j by omega), if_neg (show ¬ 8 + (t - 2) < j by omega), if_pos (show t - 2 < j + 1 by omega), if_pos (show 8 + (t - 2) < j + 1 by omega), e1]
        unfold wrap64
        omega
    · rw [if_neg e, ih]
      unfold handsF
      by_cases ht : 2 ≤ t ∧ t < 10
      · rw [if_pos ht, if_pos ht]
        have c1 : (t - 2 < j + 1) = (t - 2 < j) := by
          apply propext
          constructor <;> intro h <;> omega
        have c2 : (8 + (t - 2) < j + 1) = (8 + (t - 2) < j) := by
          apply propext
          constructor <;> intro h <;> omega
        simp only [c1, c2]
      · rw [if_neg ht, if_neg ht]

theorem range_but {w w' : World} {b o g : Nat} {cs : List Value} (h : w.rangeAt b o cs) (hb : b < w.heap.size) (hg : b ≠ g) (hB : But g w w') : w'.rangeAt b o cs :=
  fun j v hv => (hB.cell (p := ⟨b, o + j, none⟩) hb hg).trans (h j v hv)

theorem below_row {B : Nat} {a w : World} (h : Below B a w) {g : Nat} (hg : B ≤ g) (cs : Array Value) : Below B a (w.setRow g cs) := by
  refine h.trans ⟨rfl, rfl, rfl, by simp [World.setRow], fun k hk => ?_⟩
  simp only [World.setRow, Array.getElem?_modify]
  rw [if_neg (by omega)]
theorem run_storeCells_row {P : Program} (w : World) (g : Nat) (t : TypeId) (c c' : Array Value) (hg : w.heap[g]? = some (.cells c t)) (hi : (P.info? t).map (·.size) = some c'.size) (ho : c.size = c'.size) (h1 : c'.all (·.oneCell') = true) :
    (storeCells ⟨g, 0, none⟩ c'.toList 0).run P w = .ok () (w.setRow g c') := by
  have := run_storeVar_row (P := P) w g t t c c' hg hi ho h1
  cases hq : P.info? t with
  | none => simp [hq] at hi
  | some i =>
    have hs : c'.size = i.size := by simp [hq] at hi; omega
    simpa [storeVar, sizeOf, typeInfo, hq, Value.cells, hs] using this
def cen0 : Array Value := #[.int .i64 0, .int .i64 0, .int .i64 0, .int .i64 0, .int .i64 0, .int .i64 0, .int .i64 0, .int .i64 0, .int .i64 0, .int .i64 0, .int .i64 0]
set_option maxHeartbeats 2000000 in
theorem count_any' (z : List Int) (hz : z.length = 98) (h8 : I8s z) (w : World) :
    Calls Tryd.prog 100 #[.agg (posC z).toArray] w fun e w' => e = .returned (.agg (cenC (FH z 16)).toArray) ∧ Below w.heap.size w w' := by
  have H8 := Lib.hid h8
  obtain ⟨bs, hs, hR⟩ := posRows z hz w
  have HR := Lib.hid hR
  have hs1 : (w.alloc (.cells (posC z).toArray 28)).heap.size = w.heap.size + 1 := by simp
  have hb0 := Lib.hid (ball (bref w) (.cells (posC z).toArray 28))
  have HRB := Lib.hid HR.out.b
  have HRH := Lib.hid HR.out.h
  clear hR hz h8
  go_enter Tryd.func100, Tryd.ntmps100
  go_wp2_with (first
    | (refine wpList_load_mid rfl 24 _ rfl w.heap.size 0 rfl bs _ (range_grow (range_grow HRB.out (by omega) (ball (bref _) _)) (by simp; omega) (ball (bref _) _)) Tryd.underlying24 rfl (by rw [HR.out.bl]; kernel_rfl) ?_))
  rw [← show cen0 = #[.int .i64 0, .int .i64 0, .int .i64 0, .int .i64 0, .int .i64 0, .int .i64 0, .int .i64 0, .int .i64 0, .int .i64 0, .int .i64 0, .int .i64 0] from rfl]
  generalize w.alloc (.cells (posC z).toArray 28) = w1 at *
  have hC : CenAt ((w1.alloc (.cells cen0 116)).alloc (.cells cen0 116)) (w.heap.size + 1 + 1) (FB z 0) := by
    have := heap_alloc_new (w1.alloc (.cells cen0 116)) (.cells cen0 116)
    rw [World.size_alloc, hs1] at this
    exact this
  have hD : ((w1.alloc (.cells cen0 116)).alloc (.cells cen0 116)).heap[w.heap.size + 1]? = some (.cells cen0 116) := by
    have := heap_alloc_new w1 (.cells cen0 116)
    rw [hs1] at this
    exact (Below.heap_alloc _ _ _ (by rw [World.size_alloc]; omega)).trans this
  have hH := range_grow (range_grow HRH.out (by omega) (ball (bref w1) (.cells cen0 116))) (by rw [World.size_alloc]; omega) (ball (bref _) (.cells cen0 116))
  have hW := hb0.out.trans ((((ball (bref w1) (.cells cen0 116)).trans ((ball (bref _) (.cells cen0 116)).mono (by rw [World.size_alloc]; omega)))).mono (by omega))
  have hs3 : ((w1.alloc (.cells cen0 116)).alloc (.cells cen0 116)).heap.size = w.heap.size + 3 := by rw [World.size_alloc, World.size_alloc, hs1]
  have HC := Lib.hid hC
  have HD := Lib.hid hD
  have HH := Lib.hid hH
  have HW := Lib.hid hW
  clear hC hD hH hW hb0 HRB HRH hs1
  generalize (w1.alloc (.cells cen0 116)).alloc (.cells cen0 116) = w3 at *
  clear w1
  go_loopw [5, 12] (fun _ i wr => ∃ j : Nat, j ≤ 81 ∧ i = .int .i64 j ∧ CenAt wr (w.heap.size + 1 + 1) (FB z j) ∧ But (w.heap.size + 1 + 1) w3 wr) (fun _ i _ => 81 - (intOf i).toNat)
  case atStart => exact ⟨0, Nat.zero_le _, rfl, HC.out, But.refl _ _⟩
  case round =>
    obtain ⟨j, hj, rfl, hP, hB⟩ := hrel
    have HP := Lib.hid hP
    have HB := Lib.hid hB
    clear hB hP
    by_cases hlt : j < 81
    · have hx := fun W => run_index_cell (P := Tryd.prog) W 24 23 81 bs.toArray j (.int .i8 (at8 z j)) Tryd.underlying24 (by kernel_rfl) (by kernel_rfl) hlt (by simpa using HR.out.bg j hlt)
      have AD := Lib.hid (fun W (h : CenAt W (w.heap.size + 1 + 1) (FB z j)) => add_any (w.heap.size + 1 + 1) (FB z j) (at8 z j) (H8.out.at j) W h)
      have ST := Lib.hid (FB_add z j hlt)
      generalize at8 z j = x at hx AD ST
      go_wp2_with (go_at_call 123; refine (AD.out _ HP.out).mono ?_; rintro e w4 ⟨rfl, P4, B4⟩; have P4 := Lib.hid (P4.congr ST.out); have B4 := Lib.hid B4)
      go_roundw
      case rel => exact ⟨j + 1, by omega, by go_num, P4.out, HB.out.trans B4.out⟩
      case measure => simp [intOf]; omega
    · obtain rfl : j = 81 := by omega
      have HR2' := Lib.hid (range_but HH.out (by omega) (by omega) HB.out)
      go_wp2_with (refine wpList_load_mid rfl 26 _ rfl w.heap.size 81 rfl hs _ HR2'.out Tryd.underlying26 rfl (by rw [HR.out.hl]; kernel_rfl) ?_)
      clear HH HR2'
      go_loopw [7, 8, 9, 20] (fun _ _ _ i wr => ∃ s : Nat, s ≤ 2 ∧ i = .int .i64 s ∧ CenAt wr (w.heap.size + 1 + 1) (FH z (8 * s)) ∧ But (w.heap.size + 1 + 1) w3 wr) (fun _ _ _ i _ => 2 - (intOf i).toNat)
      case atStart => exact ⟨0, Nat.zero_le _, rfl, HP.out, HB.out⟩
      case round =>
        obtain ⟨s, hs2, rfl, hP, hB⟩ := hrel
        have HPH := Lib.hid hP
        have HBH := Lib.hid hB
        clear hB hP
        by_cases hlt : s < 2
        · have hx0 := fun W => run_index_row (P := Tryd.prog) W 26 25 2 8 _ hs.toArray s Tryd.underlying26 Tryd.underlying25 rfl (by kernel_rfl) hlt
          rw [extract_row] at hx0
          have hrow := handRow z hs HR.out.hl HR.out.hg s hlt
          generalize (hs.drop (s * 8)).take 8 = row at hx0 hrow
          have HROW := Lib.hid hrow
          clear hrow
          have hst : (storeCells ⟨wr.heap.size, 0, none⟩ row 0).run Tryd.prog (wr.alloc (.cells #[.int .i8 0, .int .i8 0, .int .i8 0, .int .i8 0, .int .i8 0, .int .i8 0, .int .i8 0, .int .i8 0] 25)) = .ok () (wr.alloc (.cells row.toArray 25)) :=
            run_storeCells_new wr 25 _ row.toArray (by rw [List.size_toArray, HROW.out.l]; kernel_rfl) (show (8 : Nat) = row.toArray.size by rw [List.size_toArray, HROW.out.l]) HROW.out.one
          have hrl8 := HROW.out.l
          go_wp2_with (refine wpList_load_row rfl 25 _ rfl wr.heap.size rfl 25 _ _ _ (heap_alloc_new wr _) Tryd.underlying25 rfl (by rw [List.size_toArray, HROW.out.l]; kernel_rfl) ?_)
          clear hst hx0 hrl8
          have HP3 := Lib.hid (HPH.out.grow (ball (bref wr) (.cells row.toArray 25)))
          have HB3 := Lib.hid (HBH.out.trans (But.of (ball (bref wr) (.cells row.toArray 25))))
          clear HPH HBH
          generalize wr.alloc (.cells row.toArray 25) = w4 at HP3 HB3 ⊢
          go_loopw [8, 9, 24] (fun _ _ i wr => ∃ j : Nat, j ≤ 8 ∧ i = .int .i64 j ∧ CenAt wr (w.heap.size + 1 + 1) (FH z (8 * s + j)) ∧ But (w.heap.size + 1 + 1) w3 wr) (fun _ _ i _ => 8 - (intOf i).toNat)
          case atStart => exact ⟨0, Nat.zero_le _, rfl, HP3.out, HB3.out⟩
          case round =>
            obtain ⟨j, hj, rfl, hP, hB⟩ := hrel
            have HPJ := Lib.hid hP
            have HBJ := Lib.hid hB
            clear hB hP HP3 HB3
            by_cases hlt8 : j < 8
            · have hx := fun W => run_index_cell (P := Tryd.prog) W 25 22 8 row.toArray j (.int .i8 (at8 z (81 + (8 * s + j)))) Tryd.underlying25 (by kernel_rfl) (by kernel_rfl) hlt8 (by simpa using HROW.out.g j hlt8)
              have hv := H8.out.at (81 + (8 * s + j))
              have wx : wrap64 (at8 z (81 + (8 * s + j))) = at8 z (81 + (8 * s + j)) := by unfold wrap64; omega
              have hst : FH z (8 * s + j + 1) = putF (FH z (8 * s + j)) (2 + j) (wrap64 (FH z (8 * s + j) (2 + j) + at8 z (81 + (8 * s + j)))) := by
                rw [FH, show (8 * s + j) % 8 = j by omega]
              have HST := Lib.hid hst
              have c0 := HPJ.out.cell (2 + j) (by omega)
              have f0 := HPJ.out.frozen (2 + j)
              have zb := HPJ.out.lt
              clear hv hst
              generalize at8 z (81 + (8 * s + j)) = x at hx wx HST
              generalize FH z (8 * s + j) (2 + j) = y at c0 HST
              go_wp2
              go_roundw
              case rel =>
                refine ⟨j + 1, by omega, by go_num, ?_, HBJ.out.setCell _ rfl _⟩
                have := HPJ.out.set (2 + j) (wrap64 (y + x))
                rw [← HST.out] at this
                exact this
              case measure => simp [intOf]; omega
            · obtain rfl : j = 8 := by omega
              go_wp2
              go_roundw
              case rel => exact ⟨s + 1, by omega, by go_num, by rw [show 8 * (s + 1) = 8 * s + 8 by omega]; exact HPJ.out, HBJ.out⟩
              case measure => simp [intOf]; omega
        · obtain rfl : s = 2 := by omega
          have hD2 := (HBH.out.block (w.heap.size + 1) (by omega) (by omega)).trans HD.out
          have HD2 := Lib.hid hD2
          have zD : w.heap.size + 1 < wr.heap.size := by have := HBH.out.size; omega
          clear hD2
          have hst : (storeCells ⟨w.heap.size + 1, 0, none⟩ (cenC (FH z 16)) 0).run Tryd.prog wr = .ok () (wr.setRow (w.heap.size + 1) (cenC (FH z 16)).toArray) :=
            run_storeCells_row wr (w.heap.size + 1) 116 cen0 (cenC (FH z 16)).toArray HD2.out (by rw [List.size_toArray, cenC_len]; exact infoCen) (show (11 : Nat) = (cenC (FH z 16)).toArray.size by rw [List.size_toArray, cenC_len]) (cenC_one _)
          have hlen := cenC_len (FH z 16)
          go_wp2_with (first
            | (refine wpList_load_mid rfl 116 _ rfl (w.heap.size + 1 + 1) 0 rfl (cenC (FH z (8 * 2))) _ HPH.out.range Tryd.underlying116 rfl (by rw [cenC_len]; exact infoCen) ?_))
          refine bodyPost_ret (results_cell_row rfl _ _ (w.heap.size + 1) 116 (cenC (FH z 16)).toArray (0, 0) _ rfl (setRow_heap _ _ _ _ _ _ HD2.out) Tryd.underlying116 rfl (by rw [List.size_toArray, cenC_len]; exact infoCen)) rfl ?_
          exact ⟨rfl, below_row (HW.out.trans (HBH.out.below (by omega) (by omega))) (by omega) _⟩
end Go.Proofs.YtbopbekehccdmaaDoor
