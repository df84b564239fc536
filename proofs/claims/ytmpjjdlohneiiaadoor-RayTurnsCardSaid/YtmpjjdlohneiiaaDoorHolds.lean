/-
  The head 'holds' of the set statements is true; the statements' plain and real.
-/
import Derived.Test.YtmpjjdlohneiiaaDoorRef1
namespace Go.Proofs.YtmpjjdlohneiiaaDoor
open Go.RowKit
set_option linter.unusedVariables false

def headN : Nat := 1180591620717411303432
theorem head_of : ofN [3, 70, 99] = headN := by decide +kernel

theorem holds_true (w : World) (hT : Tab w) :
    Calls Tryd.prog 7 #[] w fun e w' => e = .returned (.bool true) ∧ Below w.heap.size w w' := by
  have hN : Sq headN := by rw [← head_of]; exact ofN_sq _
  have O := Lib.hid (fun (b cap : Nat) (W : World) (hb : b < W.heap.size) (h : ∀ (j : Nat) (hj : j < [3, 70, 99].length), W.cell? ⟨b, 0 + j, none⟩ = some (.int .i64 ([3, 70, 99] : List Int)[j])) => of_any b 0 cap [3, 70, 99] W (by decide) hb h)
  rw [head_of] at O
  have H3 := Lib.hid (fun W => has_any headN 3 hN W)
  have H70 := Lib.hid (fun W => has_any headN 70 hN W)
  have H4 := Lib.hid (fun W => has_any headN 4 hN W)
  rw [show (!decide (headN &&& oneN 3 = 0)) = true by decide +kernel] at H3
  rw [show (!decide (headN &&& oneN 70 = 0)) = true by decide +kernel] at H70
  rw [show (!decide (headN &&& oneN 4 = 0)) = false by decide +kernel] at H4
  have C := Lib.hid (fun W => count_any headN hN W)
  rw [show pop 81 headN = 2 by decide +kernel] at C
  have F := Lib.hid (fun (W : World) (t : Tab W) => first_any headN hN W t)
  rw [show firstF headN = 3 by decide +kernel] at F
  have L := Lib.hid (fun W => last_any headN hN W)
  rw [show lastF headN = 70 by decide +kernel] at L
  generalize loW headN = x at O H3 H70 H4 C F L
  generalize hiW headN = y at O H3 H70 H4 C F L
  have HT := Lib.hid hT
  clear hT hN
  go_enter Tryd.func7, Tryd.ntmps7
  go_wp2_with fail
  refine (O.out w.heap.size 3 _ (by simp) ?_).mono ?_
  · intro j hj
    have hj3 : j < 3 := hj
    obtain rfl | rfl | rfl : j = 0 ∨ j = 1 ∨ j = 2 := by omega
    · show _ = some (Value.int .i64 3); go_simp
    · show _ = some (Value.int .i64 70); go_simp
    · show _ = some (Value.int .i64 99); go_simp
  rintro e w1 ⟨rfl, hb1⟩
  have HB1 := Lib.hid (bthen (ball (bref w) _) hb1)
  clear hb1 O
  go_wp2_with fail
  refine (H3.out _).mono ?_
  rintro e w2 ⟨rfl, hb2⟩
  obtain ⟨hc2, hf2⟩ := bcells hb2
  have hz2 : w1.heap.size < w2.heap.size := by have := hb2.size; simp at this; omega
  go_wp2_with fail
  refine (H70.out _).mono ?_
  rintro e w3 ⟨rfl, hb3⟩
  obtain ⟨hc3, hf3⟩ := bcells hb3
  have hz3 : w1.heap.size < w3.heap.size := by have := hb3.size; omega
  go_wp2_with fail
  refine (H4.out _).mono ?_
  rintro e w4 ⟨rfl, hb4⟩
  obtain ⟨hc4, hf4⟩ := bcells hb4
  have hz4 : w1.heap.size < w4.heap.size := by have := hb4.size; omega
  go_wp2_with fail
  refine (C.out _).mono ?_
  rintro e w5 ⟨rfl, hb5⟩
  obtain ⟨hc5, hf5⟩ := bcells hb5
  have hz5 : w1.heap.size < w5.heap.size := by have := hb5.size; omega
  go_wp2_with fail
  refine (F.out _ (HT.out.grow (bthen (bthen (bthen (bthen (ball HB1.out _) hb2) hb3) hb4) hb5))).mono ?_
  rintro e w6 ⟨rfl, hb6⟩
  obtain ⟨hc6, hf6⟩ := bcells hb6
  have hz6 : w1.heap.size < w6.heap.size := by have := hb6.size; omega
  go_wp2_with fail
  refine (L.out _).mono ?_
  rintro e w7 ⟨rfl, hb7⟩
  obtain ⟨hc7, hf7⟩ := bcells hb7
  have hz7 : w1.heap.size < w7.heap.size := by have := hb7.size; omega
  go_wp2
  go_ret
  exact ⟨rfl, bthen (bthen (bthen (bthen (bthen (bthen (ball HB1.out _) hb2) hb3) hb4) hb5) hb6) hb7⟩
end Go.Proofs.YtmpjjdlohneiiaaDoor
