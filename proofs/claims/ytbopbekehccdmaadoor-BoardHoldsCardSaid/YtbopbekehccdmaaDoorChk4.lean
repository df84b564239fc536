/-
  board.Check's parts: tooMany, hasDead, hasNifu.
-/
import Derived.Test.YtbopbekehccdmaaDoorChk3
import Derived.Test.YtbopbekehccdmaaDoorFar
namespace Go.Proofs.YtbopbekehccdmaaDoor
open Go.RowKit
set_option linter.unusedVariables false
set_option linter.unusedSimpArgs false

def fewB (F : Nat → Int) (k : Nat) : Bool := decide (F (2 + k) ≤ totalF k)
theorem cen_kinds (F : Nat → Int) (j : Nat) (hj : j < 9) : ((cenC F).drop 2 |>.take 9)[j]? = some (.int .i64 (F (2 + j))) := drop_get (cenC_get F (2 + j) (by omega)) hj
set_option maxHeartbeats 1000000 in
theorem tooMany_any (b : Nat) (F : Nat → Int) (w : World) (hb : CenAt w b F) :
    Calls Tryd.prog 101 #[.pointer (some ⟨b, 0, none⟩)] w fun e w' => e = .returned (.bool (!allB (fewB F) 9)) ∧ Below w.heap.size w w' := by
  have hr := part_range hb.range 2 9
  have hl : ((cenC F).drop 2 |>.take 9).length = 9 := by rw [List.length_take, List.length_drop, cenC_len]; rfl
  have hg := cen_kinds F
  generalize ((cenC F).drop 2 |>.take 9) = ks at hr hl hg
  have HR := Lib.hid hr
  have HG := Lib.hid hg
  have HKL := Lib.hid hl
  have zb := hb.lt
  have hcell : ∀ j, j < 9 → w.cell? ⟨b, 2 + j, none⟩ = some (.int .i64 (F (2 + j))) := fun j hj => hb.cell (2 + j) (by omega)
  clear hr hg hb hl
  go_enter Tryd.func101, Tryd.ntmps101
  go_wp2_with (refine wpList_load_mid rfl 112 _ rfl b 2 rfl ks _ HR.out Tryd.underlying112 rfl (by rw [HKL.out]; kernel_rfl) ?_)
  clear hcell
  go_loopw [3, 4, 9] (fun _ _ i wr => ∃ j : Nat, j ≤ 9 ∧ i = .int .i64 j ∧ allB (fewB F) j = true ∧ Below w.heap.size w wr) (fun _ _ i _ => 9 - (intOf i).toNat)
  case atStart => exact ⟨0, Nat.zero_le _, rfl, rfl, bref _⟩
  case round =>
    obtain ⟨j, hj, rfl, hall, hB⟩ := hrel
    have HW := Lib.hid hB
    have HALL := Lib.hid hall
    clear hB hall
    by_cases hlt : j < 9
    · have hx := fun W => run_index_cell (P := Tryd.prog) W 112 3 9 ks.toArray j (.int .i64 (F (2 + j))) Tryd.underlying112 (by kernel_rfl) (by kernel_rfl) hlt (by simpa using HG.out j hlt)
      have TT := Lib.hid (fun W => total_any j W)
      have hf : fewB F j = decide (F (2 + j) ≤ totalF j) := rfl
      generalize F (2 + j) = x at hx hf
      generalize totalF j = t at TT hf
      by_cases h : x ≤ t
      · have hk := Lib.hid (show fewB F j = true by rw [hf]; exact decide_eq_true h)
        clear hf
        have h' : ¬ t < x := by omega
        clear h
        go_wp2_with (go_at_call 124; refine (TT.out _).mono ?_; rintro e w2 ⟨rfl, rfl⟩)
        go_roundw
        case rel => exact ⟨j + 1, by omega, by go_num, allB_step HALL.out hk.out, HW.out⟩
        case measure => simp [intOf]; omega
      · have hk := Lib.hid (show fewB F j = false by rw [hf]; exact decide_eq_false h)
        clear hf
        have h' : t < x := by omega
        clear h
        go_wp2_with (go_at_call 124; refine (TT.out _).mono ?_; rintro e w2 ⟨rfl, rfl⟩)
        go_ret
        refine ⟨?_, HW.out⟩
        rw [allB_no hk.out hlt]
        rfl
    · obtain rfl : j = 9 := by omega
      go_wp2
      go_ret
      refine ⟨?_, HW.out⟩
      rw [HALL.out]
      rfl

def deadF (x q : Int) : Bool := (decide (kindF x = 1 ∨ kindF x = 2) && decide (farF (sideF x) q = 0)) || (decide (kindF x = 3) && decide (0 ≤ farF (sideF x) q ∧ farF (sideF x) q ≤ 1))
theorem farF_bd (s q : Int) : -1 ≤ farF s q ∧ farF s q ≤ 8 := by
  unfold farF
  split
  · split
    · omega
    · split <;> omega
  · omega
set_option maxHeartbeats 1000000 in
theorem dead_any (x q : Int) (hx : -128 ≤ x ∧ x ≤ 127) (w : World) :
    Calls Tryd.prog 125 #[.int .i8 x, .int .i64 q] w fun e w' => e = .returned (.bool (deadF x q)) ∧ Below w.heap.size w w' := by
  have K := Lib.hid (fun W => kind_any x W hx.1 hx.2)
  have S := Lib.hid (fun W => side_any x W hx.1 hx.2)
  have FA := Lib.hid (fun W => far_any (sideF x) q W)
  have hbd := farF_bd (sideF x) q
  unfold deadF
  generalize sideF x = s at S FA hbd ⊢
  generalize farF s q = n at FA hbd ⊢
  generalize hkk : kindF x = k at K ⊢
  clear hkk hx
  by_cases hn : n < 0
  · rw [decide_eq_false (show ¬ n = 0 by omega), decide_eq_false (show ¬ (0 ≤ n ∧ n ≤ 1) by omega), Bool.and_false, Bool.and_false]
    clear hbd
    go_enter Tryd.func125, Tryd.ntmps125
    go_wp2_with (first
      | (go_at_call 68; refine (S.out _).mono ?_; rintro e w1 ⟨rfl, rfl⟩)
      | (go_at_call 135; refine (FA.out _).mono ?_; rintro e w2 ⟨rfl, hb2⟩))
    go_ret
    exact ⟨rfl, hb2⟩
  · by_cases h12 : k = 1 ∨ k = 2
    · rw [decide_eq_true h12, decide_eq_false (show ¬ k = 3 by omega)]
      clear hbd
      rcases h12 with rfl | rfl
      all_goals
        go_enter Tryd.func125, Tryd.ntmps125
        go_wp2_with (first
          | (go_at_call 68; refine (S.out _).mono ?_; rintro e w1 ⟨rfl, rfl⟩)
          | (go_at_call 108; refine (K.out _).mono ?_; rintro e w3 ⟨rfl, rfl⟩)
          | (go_at_call 135; refine (FA.out _).mono ?_; rintro e w2 ⟨rfl, hb2⟩))
        go_ret
        refine ⟨?_, hb2⟩
        by_cases h0 : n = 0
        · subst h0; rfl
        · simp [h0]
    · have k1 : (k == 1) = false := by simp; omega
      have k2 : (k == 2) = false := by simp; omega
      rw [decide_eq_false h12]
      by_cases h3 : k = 3
      · subst h3
        clear hbd
        rw [show decide (0 ≤ n ∧ n ≤ 1) = decide (n ≤ 1) by congr 1; apply propext; constructor <;> intro h <;> omega]
        go_enter Tryd.func125, Tryd.ntmps125
        go_wp2_with (first
          | (go_at_call 68; refine (S.out _).mono ?_; rintro e w1 ⟨rfl, rfl⟩)
          | (go_at_call 108; refine (K.out _).mono ?_; rintro e w3 ⟨rfl, rfl⟩)
          | (go_at_call 135; refine (FA.out _).mono ?_; rintro e w2 ⟨rfl, hb2⟩))
        go_ret
        refine ⟨?_, hb2⟩
        simp
      · have k3 : (k == 3) = false := by simpa using h3
        rw [decide_eq_false h3]
        clear hbd
        go_enter Tryd.func125, Tryd.ntmps125
        go_wp2_with (first
          | (go_at_call 68; refine (S.out _).mono ?_; rintro e w1 ⟨rfl, rfl⟩)
          | (go_at_call 108; refine (K.out _).mono ?_; rintro e w3 ⟨rfl, rfl⟩)
          | (go_at_call 135; refine (FA.out _).mono ?_; rintro e w2 ⟨rfl, hb2⟩))
        go_ret
        exact ⟨rfl, hb2⟩

def aliveQ (z : List Int) (q : Nat) : Bool := !deadF (at8 z q) q
set_option maxHeartbeats 1000000 in
theorem hasDead_any (z : List Int) (hz : z.length = 98) (h8 : I8s z) (w : World) :
    Calls Tryd.prog 102 #[.agg (posC z).toArray] w fun e w' => e = .returned (.bool (!allB (aliveQ z) 81)) ∧ Below w.heap.size w w' := by
  have H8 := Lib.hid h8
  obtain ⟨bs, hs, hR⟩ := posRows z hz w
  have HR := Lib.hid hR
  have hw1 : w.heap.size < (w.alloc (.cells (posC z).toArray 28)).heap.size := by simp
  have hb0 := Lib.hid (ball (bref w) (.cells (posC z).toArray 28))
  clear hR hz h8
  go_enter Tryd.func102, Tryd.ntmps102
  go_wp2_with (refine wpList_load_mid rfl _ _ rfl w.heap.size 0 rfl bs _ HR.out.b Tryd.underlying24 rfl (by rw [HR.out.bl]; kernel_rfl) ?_)
  generalize w.alloc (.cells (posC z).toArray 28) = w1 at hb0 hw1 ⊢
  go_loopw [3, 4, 7] (fun _ _ i wr => ∃ j : Nat, j ≤ 81 ∧ i = .int .i64 j ∧ allB (aliveQ z) j = true ∧ Below w.heap.size w wr) (fun _ _ i _ => 81 - (intOf i).toNat)
  case atStart => exact ⟨0, Nat.zero_le _, rfl, rfl, hb0.out⟩
  case round =>
    obtain ⟨j, hj, rfl, hall, hB⟩ := hrel
    have HW := Lib.hid hB
    have HALL := Lib.hid hall
    clear hB hall
    by_cases hlt : j < 81
    · have hx := fun W => run_index_cell (P := Tryd.prog) W 24 23 81 bs.toArray j (.int .i8 (at8 z j)) Tryd.underlying24 (by kernel_rfl) (by kernel_rfl) hlt (by simpa using HR.out.bg j hlt)
      have C := Lib.hid (fun W => dead_any (at8 z j) j (H8.out.at j) W)
      have hk : aliveQ z j = !deadF (at8 z j) j := rfl
      generalize deadF (at8 z j) j = d at C hk
      generalize at8 z j = x at hx C
      cases d with
      | true =>
        have hk1 := Lib.hid hk
        clear hk
        go_wp2_with (go_at_call 125; refine (C.out _).mono ?_; rintro e w2 ⟨rfl, hb2⟩)
        go_ret
        refine ⟨?_, bthen HW.out hb2⟩
        rw [allB_no hk1.out hlt]
        rfl
      | false =>
        have hk1 := Lib.hid hk
        clear hk
        go_wp2_with (go_at_call 125; refine (C.out _).mono ?_; rintro e w2 ⟨rfl, hb2⟩)
        go_roundw
        case rel => exact ⟨j + 1, by omega, by go_num, allB_step HALL.out hk1.out, bthen HW.out hb2⟩
        case measure => simp [intOf]; omega
    · obtain rfl : j = 81 := by omega
      go_wp2
      go_ret
      refine ⟨?_, HW.out⟩
      rw [HALL.out]
      rfl

end Go.Proofs.YtbopbekehccdmaaDoor
