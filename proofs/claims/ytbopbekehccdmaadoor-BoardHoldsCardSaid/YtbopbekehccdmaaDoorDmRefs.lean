/-
  The references of layers 7 and 9 that the law DeedMakes asks, and deed.After: joined texts.
-/
import Derived.Test.YtbopbekehccdmaaDoorMv1
import Derived.LoopTactic
import Derived.Laws.IdiomStrings
import Derived.Deep.QuietTactic
import Derived.BigQuiet
import Derived.Deep.RegionHeld3
import Derived.Test.YtbopbekehccdmaaDoorGmC
import Derived.Test.YtbopbekehccdmaaDoorBegins
import Derived.Test.YtbopbekehccdmaaDoorRefKind
import Derived.Test.YtbopbekehccdmaaDoorPosC
import Derived.Test.YtbopbekehccdmaaDoorBase
import Derived.Deep.LoopGhost
import Derived.Lib.Hide
import Derived.Test.YtbopbekehccdmaaDoorRefs
import Derived.Deep.CutBlock
import Derived.Laws.ResultCell
/-
  The reference for names of moves: find, square, Square, Check, Text return what the plain functions say.
-/
namespace Go.Proofs.YtbopbekehccdmaaDoor
open Go.RowKit
set_option linter.unusedVariables false
set_option linter.unusedSimpArgs false

/-- The place of a byte in a list, from the k-th on; -1: it isn't there. -/
def findFrom : List UInt8 → Int → Nat → Int
  | [], _, _ => -1
  | c :: cs, x, k => if (c.toNat : Int) = x then k else findFrom cs x (k + 1)
def findF (s : ByteArray) (x : Int) : Int := findFrom s.data.toList x 0
theorem drop_cons (s : ByteArray) (k : Nat) (h : k < s.size) : s.data.toList.drop k = s[k] :: s.data.toList.drop (k + 1) := by
  rw [List.drop_eq_getElem_cons (by rw [Array.length_toList]; exact h)]
  rfl
end Go.Proofs.YtbopbekehccdmaaDoor

namespace Go.Proofs.YtbopbekehccdmaaDoor
open Go.RowKit
set_option linter.unusedVariables false
set_option linter.unusedSimpArgs false

theorem quo9 (a b : Nat) (h : b < 9) : Int.tdiv (9 * a + b : Int) 9 = a := by
  rw [Int.tdiv_eq_ediv_of_nonneg (by omega)]; omega
theorem rem9 (a b : Nat) (h : b < 9) : Int.tmod (9 * a + b : Int) 9 = b := by
  rw [Int.tmod_eq_emod_of_nonneg (by omega)]; omega
theorem run_file (f : Nat) (hf : f < 9) (w : World) : Sem.run Tryd.prog (Instr.slice 9 (Value.string { data := #[49, 50, 51, 52, 53, 54, 55, 56, 57] }) (some (Value.int IntKind.i64 f)) (some (Value.int IntKind.i64 (IntKind.i64.wrap ((f : Int) + 1)))) none) w = Result.ok (.string ⟨#[UInt8.ofNat (49 + f)]⟩) w := by
  obtain rfl | rfl | rfl | rfl | rfl | rfl | rfl | rfl | rfl : f = 0 ∨ f = 1 ∨ f = 2 ∨ f = 3 ∨ f = 4 ∨ f = 5 ∨ f = 6 ∨ f = 7 ∨ f = 8 := by omega
  all_goals kernel_rfl
theorem run_rank (f : Nat) (hf : f < 9) (w : World) : Sem.run Tryd.prog (Instr.slice 9 (Value.string { data := #[97, 98, 99, 100, 101, 102, 103, 104, 105] }) (some (Value.int IntKind.i64 f)) (some (Value.int IntKind.i64 (IntKind.i64.wrap ((f : Int) + 1)))) none) w = Result.ok (.string ⟨#[UInt8.ofNat (97 + f)]⟩) w := by
  obtain rfl | rfl | rfl | rfl | rfl | rfl | rfl | rfl | rfl : f = 0 ∨ f = 1 ∨ f = 2 ∨ f = 3 ∨ f = 4 ∨ f = 5 ∨ f = 6 ∨ f = 7 ∨ f = 8 := by omega
  all_goals kernel_rfl
end Go.Proofs.YtbopbekehccdmaaDoor

/-
  The reference's Check and Text of moves.
-/
namespace Go.Proofs.YtbopbekehccdmaaDoor
open Go.RowKit
set_option linter.unusedVariables false
set_option linter.unusedSimpArgs false

theorem run_letter (d : Int) (h1 : 1 ≤ d) (h7 : d ≤ 7) (w : World) : Sem.run Tryd.prog (Instr.slice 9 (Value.string { data := #[80, 76, 78, 83, 71, 66, 82] }) (some (Value.int IntKind.i64 (IntKind.i64.wrap (d - 1)))) (some (Value.int IntKind.i64 d)) none) w = Result.ok (.string ⟨#[letB d]⟩) w := by
  obtain rfl | rfl | rfl | rfl | rfl | rfl | rfl : d = 1 ∨ d = 2 ∨ d = 3 ∨ d = 4 ∨ d = 5 ∨ d = 6 ∨ d = 7 := by omega
  all_goals kernel_rfl
end Go.Proofs.YtbopbekehccdmaaDoor

/-
  The reference of layer 9: Clean.
-/
namespace Go.Proofs.YtbopbekehccdmaaDoor
open Go.RowKit
set_option linter.unusedVariables false
set_option linter.unusedSimpArgs false

def clK (z : List Int) : Nat → List Int
  | 0 => z
  | k + 1 => if kindF (at8 z k) = 0 then (clK z k).set k 0 else clK z k
theorem clK_len (z : List Int) : ∀ k, (clK z k).length = z.length
  | 0 => rfl
  | k + 1 => by
    unfold clK
    split
    · rw [List.length_set, clK_len z k]
    · exact clK_len z k
theorem clK_at (z : List Int) (hz : z.length = 98) : ∀ k, k ≤ 81 → ∀ i, at8 (clK z k) i = if i < k ∧ kindF (at8 z i) = 0 then 0 else at8 z i
  | 0, _, i => by rw [if_neg (by omega)]; rfl
  | k + 1, hk, i => by
    have ih := clK_at z hz k (by omega)
    unfold clK
    by_cases h : kindF (at8 z k) = 0
    · rw [if_pos h, at8_set _ _ _ _ (by rw [clK_len, hz]; omega)]
      by_cases e : i = k
      · subst e
        rw [if_pos rfl, if_pos ⟨by omega, h⟩]
      · rw [if_neg e, ih i]
        by_cases h2 : i < k ∧ kindF (at8 z i) = 0
        · rw [if_pos h2, if_pos ⟨by omega, h2.2⟩]
        · rw [if_neg h2, if_neg (fun h3 => h2 ⟨by omega, h3.2⟩)]
    · rw [if_neg h, ih i]
      by_cases h2 : i < k ∧ kindF (at8 z i) = 0
      · rw [if_pos h2, if_pos ⟨by omega, h2.2⟩]
      · rw [if_neg h2, if_neg (fun h3 => h2 ⟨by
          have : i ≠ k := fun e => h (by rw [← e]; exact h3.2)
          omega, h3.2⟩)]
theorem clK_new (z : List Int) (hz : z.length = 98) : clK z 81 = newZ z :=
  at8_ext _ _ (by rw [clK_len, hz]) (newZ_len z hz) fun i hi => by
    rw [clK_at z hz 81 (Nat.le_refl _) i, newZ_at z hz i hi]
set_option maxHeartbeats 4000000 in
theorem clean_any (z : List Int) (hz : z.length = 98) (h8 : I8s z) (w : World) :
    Calls Tryd.prog 29 #[.agg (posC z).toArray] w fun e w' => e = .returned (.agg (posC (newZ z)).toArray) ∧ Below w.heap.size w w' := by
  rw [← clK_new z hz]
  have HZ := Lib.hid hz
  have H8 := Lib.hid h8
  have P0 := Lib.hid ((PosAt.new w z).grow (ball (bref _) (.cells Tryd.zeroCells28 28)))
  have D0 : ((w.alloc (.cells (posC z).toArray 28)).alloc (.cells Tryd.zeroCells28 28)).heap[w.heap.size + 1]? = some (.cells Tryd.zeroCells28 28) := by
    have := heap_alloc_new (w.alloc (.cells (posC z).toArray 28)) (.cells Tryd.zeroCells28 28)
    rwa [show (w.alloc (.cells (posC z).toArray 28)).heap.size = w.heap.size + 1 by simp] at this
  have HD0 := Lib.hid D0
  have HB0 := Lib.hid (ball (ball (bref w) (.cells (posC z).toArray 28)) (.cells Tryd.zeroCells28 28))
  have HS0 := Lib.hid (show w.heap.size + 1 < ((w.alloc (.cells (posC z).toArray 28)).alloc (.cells Tryd.zeroCells28 28)).heap.size by simp)
  clear hz h8 D0
  go_enter Tryd.func29, Tryd.ntmps29
  go_wp2
  generalize (w.alloc (.cells (posC z).toArray 28)).alloc (.cells Tryd.zeroCells28 28) = w2 at *
  go_loopw [3] (fun i wr => ∃ k : Nat, k ≤ 81 ∧ i = .int .i64 k ∧ PosAt wr w.heap.size (clK z k) ∧ But w.heap.size w2 wr) (fun i _ => 81 - (intOf i).toNat)
  case atStart => exact ⟨0, by omega, rfl, P0.out, But.refl _ _⟩
  case round =>
    obtain ⟨k, hk, rfl, hP, hB⟩ := hrel
    have HP := Lib.hid hP
    have HB := Lib.hid hB
    clear hP hB
    by_cases hlt : k < 81
    · have hx := H8.out.at k
      have K := Lib.hid (fun W => refKind_any (at8 z k) W hx.1 hx.2)
      have c0 := HP.out.cell k (by rw [clK_len, HZ.out]; omega)
      rw [clK_at z HZ.out k (by omega) k, if_neg (by omega)] at c0
      have f0 := HP.out.frozen k
      have zb := HP.out.lt
      have hw : wrap64 (at8 z k) = at8 z k := by unfold wrap64; omega
      by_cases h0 : kindF (at8 z k) = 0
      · have e := show clK z (k + 1) = (clK z k).set k 0 from if_pos h0
        have E := Lib.hid e
        have b0 : (kindF (at8 z k) == 0) = true := by simpa using h0
        generalize kindF (at8 z k) = kk at *
        generalize at8 z k = x at *
        obtain ⟨hx0, hx1⟩ := hx
        clear e h0
        go_wp2_with (go_at_call 17; refine (K.out _).mono ?_; rintro e w3 ⟨rfl, rfl⟩)
        go_roundw
        case rel => exact ⟨k + 1, by omega, by go_num, by rw [E.out]; exact HP.out.set k 0, HB.out.setCell _ rfl _⟩
        case measure => simp [intOf]; omega
      · have e := show clK z (k + 1) = clK z k from if_neg h0
        have E := Lib.hid e
        have b0 : (kindF (at8 z k) == 0) = false := by simpa using h0
        generalize kindF (at8 z k) = kk at *
        generalize at8 z k = x at *
        obtain ⟨hx0, hx1⟩ := hx
        clear e h0
        go_wp2_with (go_at_call 17; refine (K.out _).mono ?_; rintro e w3 ⟨rfl, rfl⟩)
        go_roundw
        case rel => exact ⟨k + 1, by omega, by go_num, by rw [E.out]; exact HP.out, HB.out⟩
        case measure => simp [intOf]; omega
    · obtain rfl : k = 81 := by omega
      have hl : (clK z 81).length = 98 := by rw [clK_len, HZ.out]
      have HINF := Lib.hid (show (Tryd.prog.info? 28).map (·.size) = some (posC (clK z 81)).length by rw [posC_len, hl]; exact infoPos)
      have HS := Lib.hid (show Tryd.zeroCells28.size = (posC (clK z 81)).toArray.size from zeroPos_size.trans (by rw [List.size_toArray, posC_len, hl]))
      have HD6 := Lib.hid ((HB.out.block (w.heap.size + 1) HS0.out (by omega)).trans HD0.out)
      clear hl
      generalize hc : clK z 81 = sz at *
      go_wp2_with (first
        | (refine wpList_load_mid rfl 28 _ rfl w.heap.size 0 rfl (posC sz) _ HP.out.range Tryd.underlying28 rfl HINF.out ?_)
        | (refine wpList_store_row rfl 28 _ _ rfl (w.heap.size + 1) (posC sz).toArray rfl rfl 28 Tryd.zeroCells28 HD6.out (by rw [List.size_toArray]; exact HINF.out) HS.out (posC_one sz) ?_))
      refine bodyPost_ret (results_cell_row rfl _ _ (w.heap.size + 1) 28 (posC sz).toArray (0, 0) _ rfl (setRow_heap _ _ _ _ _ _ HD6.out) Tryd.underlying28 rfl (by rw [List.size_toArray]; exact HINF.out)) rfl ?_
      exact ⟨by rw [hc], below_row (HB0.out.trans (HB.out.below (by omega) (by have := HS0.out; omega))) (by omega) _⟩
end Go.Proofs.YtbopbekehccdmaaDoor

/-
  The law's own small and full: what hands a position has.
-/
namespace Go.Proofs.YtbopbekehccdmaaDoor
open Go.RowKit
set_option linter.unusedVariables false
set_option linter.unusedSimpArgs false

/-- The first n counts in hand lie between lo and hi. -/
def HandsIn (z : List Int) (lo hi : Int) (n : Nat) : Prop := ∀ j, j < n → lo ≤ at8 z (81 + j) ∧ at8 z (81 + j) ≤ hi
instance (z : List Int) (lo hi : Int) (n : Nat) : Decidable (HandsIn z lo hi n) := Nat.decidableBallLT n _
theorem handsIn_step {z : List Int} {lo hi : Int} {n : Nat} (h : HandsIn z lo hi n) (h1 : lo ≤ at8 z (81 + n)) (h2 : at8 z (81 + n) ≤ hi) : HandsIn z lo hi (n + 1) := fun j hj => by
  by_cases e : j = n
  · subst e; exact ⟨h1, h2⟩
  · exact h j (by omega)
set_option maxHeartbeats 2000000 in
theorem small_any (z : List Int) (hz : z.length = 98) (h8 : I8s z) (w : World) :
    Calls Tryd.prog 30 #[.agg (posC z).toArray] w fun e w' => e = .returned (.bool (decide (HandsIn z (0) 18 16))) ∧ Below w.heap.size w w' := by
  have HZ := Lib.hid hz
  have H8 := Lib.hid h8
  have HP := Lib.hid (PosAt.new w z)
  have HB := Lib.hid (ball (bref w) (.cells (posC z).toArray 28))
  clear hz h8
  go_enter Tryd.func30, Tryd.ntmps30
  go_wp2
  generalize w.alloc (.cells (posC z).toArray 28) = w1 at *
  go_loop [3] (fun i => ∃ s : Nat, s ≤ 2 ∧ i = .int .i64 s ∧ HandsIn z (0) 18 (8 * s)) (fun i => 2 - (intOf i).toNat)
  case atStart => exact ⟨0, by omega, rfl, fun j hj => by omega⟩
  case round =>
    obtain ⟨s, hs, rfl, hok⟩ := hrel
    have OK := Lib.hid hok
    clear hok
    by_cases hs2 : s < 2
    · go_wp2
      go_loop [4] (fun i => ∃ k : Nat, k ≤ 8 ∧ i = .int .i64 k ∧ HandsIn z (0) 18 (8 * s + k)) (fun i => 8 - (intOf i).toNat)
      case atStart => exact ⟨0, by omega, rfl, OK.out⟩
      case round =>
        obtain ⟨k, hk, rfl, hok2⟩ := hrel
        have OK2 := Lib.hid hok2
        clear hok2
        by_cases hk8 : k < 8
        · have c0 := HP.out.cell (81 + s * 8 + k) (by rw [HZ.out]; omega)
          have E := Lib.hid (show 81 + s * 8 + k = 81 + (8 * s + k) by omega)
          have hv := H8.out.at (81 + s * 8 + k)
          have ES := Lib.hid (fun (h1 : (0 : Int) ≤ at8 z (81 + s * 8 + k)) (h2 : at8 z (81 + s * 8 + k) ≤ 18) => handsIn_step OK2.out (by rw [← E.out]; exact h1) (by rw [← E.out]; exact h2))
          have EB := Lib.hid (fun (h : HandsIn z (0) 18 16) => h (8 * s + k) (by omega))
          rw [← E.out] at EB
          generalize at8 z (81 + s * 8 + k) = v at *
          obtain ⟨hv0, hv1⟩ := hv
          clear E
          by_cases h0 : v < 0
          · go_wp2
            go_ret
            exact ⟨by rw [decide_eq_false (fun h => by have := EB.out h; omega)]; rfl, HB.out⟩
          · skip
            by_cases h1 : 18 < v
            · go_wp2
              go_ret
              exact ⟨by rw [decide_eq_false (fun h => by have := EB.out h; omega)]; rfl, HB.out⟩
            · skip
              go_wp2
              go_round
              case rel => exact ⟨k + 1, by omega, by go_num, ES.out (by omega) (by omega)⟩
              case measure => simp [intOf]; omega
        · obtain rfl : k = 8 := by omega
          go_wp2
          go_round
          case rel => exact ⟨s + 1, by omega, by go_num, fun j hj => OK2.out j (by omega)⟩
          case measure => simp [intOf]; omega
    · obtain rfl : s = 2 := by omega
      go_wp2
      go_ret
      exact ⟨by rw [decide_eq_true (show HandsIn z (0) 18 16 from OK.out)]; rfl, HB.out⟩
set_option maxHeartbeats 2000000 in
theorem full_any (z : List Int) (hz : z.length = 98) (h8 : I8s z) (w : World) :
    Calls Tryd.prog 32 #[.agg (posC z).toArray] w fun e w' => e = .returned (.bool (!decide (HandsIn z (-128) 17 16))) ∧ Below w.heap.size w w' := by
  have HZ := Lib.hid hz
  have H8 := Lib.hid h8
  have HP := Lib.hid (PosAt.new w z)
  have HB := Lib.hid (ball (bref w) (.cells (posC z).toArray 28))
  clear hz h8
  go_enter Tryd.func32, Tryd.ntmps32
  go_wp2
  generalize w.alloc (.cells (posC z).toArray 28) = w1 at *
  go_loop [3] (fun i => ∃ s : Nat, s ≤ 2 ∧ i = .int .i64 s ∧ HandsIn z (-128) 17 (8 * s)) (fun i => 2 - (intOf i).toNat)
  case atStart => exact ⟨0, by omega, rfl, fun j hj => by omega⟩
  case round =>
    obtain ⟨s, hs, rfl, hok⟩ := hrel
    have OK := Lib.hid hok
    clear hok
    by_cases hs2 : s < 2
    · go_wp2
      go_loop [4] (fun i => ∃ k : Nat, k ≤ 8 ∧ i = .int .i64 k ∧ HandsIn z (-128) 17 (8 * s + k)) (fun i => 8 - (intOf i).toNat)
      case atStart => exact ⟨0, by omega, rfl, OK.out⟩
      case round =>
        obtain ⟨k, hk, rfl, hok2⟩ := hrel
        have OK2 := Lib.hid hok2
        clear hok2
        by_cases hk8 : k < 8
        · have c0 := HP.out.cell (81 + s * 8 + k) (by rw [HZ.out]; omega)
          have E := Lib.hid (show 81 + s * 8 + k = 81 + (8 * s + k) by omega)
          have hv := H8.out.at (81 + s * 8 + k)
          have ES := Lib.hid (fun (h1 : (-128 : Int) ≤ at8 z (81 + s * 8 + k)) (h2 : at8 z (81 + s * 8 + k) ≤ 17) => handsIn_step OK2.out (by rw [← E.out]; exact h1) (by rw [← E.out]; exact h2))
          have EB := Lib.hid (fun (h : HandsIn z (-128) 17 16) => h (8 * s + k) (by omega))
          rw [← E.out] at EB
          generalize at8 z (81 + s * 8 + k) = v at *
          obtain ⟨hv0, hv1⟩ := hv
          clear E
          by_cases h1 : 17 < v
          · go_wp2
            go_ret
            exact ⟨by rw [decide_eq_false (fun h => by have := EB.out h; omega)]; rfl, HB.out⟩
          · skip
            go_wp2
            go_round
            case rel => exact ⟨k + 1, by omega, by go_num, ES.out (by omega) (by omega)⟩
            case measure => simp [intOf]; omega
        · obtain rfl : k = 8 := by omega
          go_wp2
          go_round
          case rel => exact ⟨s + 1, by omega, by go_num, fun j hj => OK2.out j (by omega)⟩
          case measure => simp [intOf]; omega
    · obtain rfl : s = 2 := by omega
      go_wp2
      go_ret
      exact ⟨by rw [decide_eq_true (show HandsIn z (-128) 17 16 from OK.out)]; rfl, HB.out⟩
end Go.Proofs.YtbopbekehccdmaaDoor

/-
  The reference of layer 9: Can.
-/
namespace Go.Proofs.YtbopbekehccdmaaDoor
open Go.RowKit
set_option linter.unusedVariables false
set_option linter.unusedSimpArgs false

theorem rowB1 {w w1 : World} {A C : Obj} (hb : Below ((w.alloc A).alloc C).heap.size ((w.alloc A).alloc C) w1) : w1.heap[w.heap.size]? = some A := by
  refine (hb.block _ (show w.heap.size < ((w.alloc A).alloc C).heap.size by simp; omega)).trans ?_
  show ((w.heap.push A).push C)[w.heap.size]? = some A
  simp [Array.getElem?_push]
theorem rowB2 {w w1 : World} {A C : Obj} (hb : Below ((w.alloc A).alloc C).heap.size ((w.alloc A).alloc C) w1) : w1.heap[w.heap.size + 1]? = some C := by
  refine (hb.block _ (show w.heap.size + 1 < ((w.alloc A).alloc C).heap.size by simp)).trans ?_
  show ((w.heap.push A).push C)[w.heap.size + 1]? = some C
  rw [Array.getElem?_push, if_pos (by simp)]
end Go.Proofs.YtbopbekehccdmaaDoor

/-
  The reference of layer 9: After.
-/
namespace Go.Proofs.YtbopbekehccdmaaDoor
open Go.RowKit
set_option linter.unusedVariables false
set_option linter.unusedSimpArgs false

/-- The position and the move that were handed over, and the place of the result. -/
def RA (w : World) (z : List Int) (M : Array Value) (W : World) : Prop :=
  PosAt W w.heap.size z ∧ W.heap[w.heap.size + 1]? = some (.cells M 64) ∧ W.heap[w.heap.size + 2]? = some (.cells Tryd.zeroCells28 28) ∧ Below w.heap.size w W
theorem RA.start (w : World) (z : List Int) (M : Array Value) : RA w z M (((w.alloc (.cells (posC z).toArray 28)).alloc (.cells M 64)).alloc (.cells Tryd.zeroCells28 28)) := by
  refine ⟨?_, ?_, ?_, ball (ball (ball (bref w) _) _) _⟩
  · show (((w.heap.push _).push _).push _)[w.heap.size]? = _
    simp [Array.getElem?_push]
    omega
  · show (((w.heap.push _).push _).push _)[w.heap.size + 1]? = _
    rw [Array.getElem?_push, if_neg (by simp), Array.getElem?_push, if_pos (by simp)]
  · show (((w.heap.push _).push _).push _)[w.heap.size + 2]? = _
    rw [Array.getElem?_push, if_pos (by simp)]
theorem RA.set {w W : World} {z : List Int} {M : Array Value} (h : RA w z M W) (j : Nat) (v : Int) : RA w (z.set j v) M (W.setCell ⟨w.heap.size, j, none⟩ (.int .i8 v)) :=
  ⟨h.1.set j v, (heap_setCell_other _ _ _ _ (by simp)).trans h.2.1, (heap_setCell_other _ _ _ _ (by simp)).trans h.2.2.1, h.2.2.2.setCell (Nat.le_refl _) _⟩
theorem RA.drew {w W : World} {z : List Int} {M : Array Value} (h : RA w z M W) : RA w z M W.drew := ⟨h.1, h.2.1, h.2.2.1, h.2.2.2.drew⟩
theorem RA.cell {w W : World} {z : List Int} {M : Array Value} (h : RA w z M W) (j : Nat) (v : Int) (hj : j < z.length) (hv : at8 z j = v) : W.cell? ⟨w.heap.size, j, none⟩ = some (.int .i8 v) := by
  rw [h.1.cell j hj, hv]
theorem RA.frozen {w W : World} {z : List Int} {M : Array Value} (h : RA w z M W) (j : Nat) : W.frozen? ⟨w.heap.size, j, none⟩ = false := h.1.frozen j
end Go.Proofs.YtbopbekehccdmaaDoor

/-
  The reference of layer 9: After, of moves on the board.
-/
namespace Go.Proofs.YtbopbekehccdmaaDoor
open Go.RowKit
set_option linter.unusedVariables false
set_option linter.unusedSimpArgs false

end Go.Proofs.YtbopbekehccdmaaDoor

/-
  The reference of layer 9: After is the position behind the move.
-/
namespace Go.Proofs.YtbopbekehccdmaaDoor
open Go.RowKit
set_option linter.unusedVariables false
set_option linter.unusedSimpArgs false

theorem of_all : ∀ s : Nat, s < 2 → ∀ d : Nat, d < 8 → 1 ≤ d → ofF s d = 16 * s + d ∧ kindF (ofF s d) ≠ 0 := by decide +kernel
theorem up_all : ∀ n : Nat, n < 32 → upF (kindF n) ≠ 0 → ofF (sideF n) (upF (kindF n)) = n + 8 ∧ kindF ((n : Int) + 8) ≠ 0 := by decide +kernel
end Go.Proofs.YtbopbekehccdmaaDoor

/-
  deed.After: the position behind a move, or the position as it is.
-/
namespace Go.Proofs.YtbopbekehccdmaaDoor
open Go.RowKit
set_option linter.unusedVariables false
set_option linter.unusedSimpArgs false

theorem past_none (w : World) (B g b : Nat) : Past w B g b (.slice none 0 0) [] := ⟨World.ownsRow_nil _ _ _ _, by simp [Value.ownBlock], by simp [Value.ownBlock]⟩

theorem results_row_tmp {P : Program} {fn : Func} {p u : Tmp} {ty : TypeId} (h : fn.results = #[.cell p ty, .tmp u]) (tmps : Array Value) (w : World) (g : Nat) (t : TypeId) (cs : Array Value) (fr : Nat × Nat) (d : TypeDesc)
    (hp : tmps.getD p undef = .pointer (some ⟨g, 0, none⟩)) (hg : w.heap[g]? = some (.cells cs t fr))
    (hu : P.underlying ty = some d) (hd : (match d with | .struct _ | .array _ _ => true | _ => false) = true) (hi : (P.info? ty).map (·.size) = some cs.size) :
    (results fn tmps).run P w = .ok (.tuple #[.agg cs, tmps.getD u undef]) w := by
  have hp' : tmps[p]?.getD undef = .pointer (some ⟨g, 0, none⟩) := by simpa using hp
  rw [results_cell_tmp h]
  simp [hp', asAddr, run_loadVar_row w g t ty cs fr d hg hu hd hi, Result.andThen]
theorem RA.grow {w W W' : World} {z : List Int} {M : Array Value} (h : RA w z M W) (hb : Below W.heap.size W W') : RA w z M W' :=
  ⟨h.1.grow hb, (hb.block _ (lt_of_row' h.2.1)).trans h.2.1, (hb.block _ (lt_of_row' h.2.2.1)).trans h.2.2.1, bthen h.2.2.2 hb⟩
theorem RA.but3 {w W W' : World} {z : List Int} {M : Array Value} {g b : Nat} (h : RA w z M W) (hb : But3 g b none W W') (hg : w.heap.size + 2 < g) (hbb : w.heap.size + 2 < b) : RA w z M W' :=
  ⟨hb.row h.1 (by omega) (by omega) (by simp), hb.row h.2.1 (by omega) (by omega) (by simp), hb.row h.2.2.1 (by omega) (by omega) (by simp), h.2.2.2.trans (hb.below (by omega) (by omega) (by simp) h.2.2.2.size)⟩
set_option maxHeartbeats 4000000 in
theorem after_yes (z : List Int) (f t d : Int) (p : Bool) (hz : z.length = 98) (h8 : I8s z) (hc : Clean z) (hh : ∀ j, 81 ≤ j → j < 97 → 0 ≤ at8 z j ∧ at8 z j ≤ 126) (hcan : canF z f t d p = true) (w : World) :
    Calls Tryd.prog 39 #[.agg (posC z).toArray, .agg #[.int .i64 f, .int .i64 t, .int .i64 d, .bool p]] w fun e w' => e = .returned (.tuple #[.agg (posC (afterZ z f t d p)).toArray, .bool true]) ∧ Below w.heap.size w w' := by
  have H0 := Lib.hid (RA.start w z #[.int .i64 f, .int .i64 t, .int .i64 d, .bool p])
  have NE := Lib.hid (fun W => newGame_any z hz h8 W)
  rw [newZ_self z hz hc] at NE
  have MK := Lib.hid (fun (B g b : Nat) (v : Value) (W : World) (hB : B ≤ W.heap.size) (h : Gk W g b z v) (hp : Past W B g b v []) => make_yes B g b z v [] f t d p hz h8 hc hh (by simp) W hB h hp hcan)
  have hl : (afterZ z f t d p).length = 98 := by unfold afterZ; rw [List.length_set, midZ_len, hz]
  have HZ := Lib.hid hz
  have HINF := Lib.hid (show (Tryd.prog.info? 28).map (·.size) = some (posC z).length by rw [posC_len, hz]; exact infoPos)
  have HL := Lib.hid hl
  have HINF2 := Lib.hid (show (Tryd.prog.info? 28).map (·.size) = some (posC (afterZ z f t d p)).length by rw [posC_len, hl]; exact infoPos)
  have HSS := Lib.hid (show Tryd.zeroCells28.size = (posC (afterZ z f t d p)).toArray.size from zeroPos_size.trans (by rw [List.size_toArray, posC_len, hl]))
  have HS0 := Lib.hid (show w.heap.size + 2 < (((w.alloc (.cells (posC z).toArray 28)).alloc (.cells #[.int .i64 f, .int .i64 t, .int .i64 d, .bool p] 64)).alloc (.cells Tryd.zeroCells28 28)).heap.size by simp)
  clear hz h8 hc hcan hl hh
  generalize ez : afterZ z f t d p = zf at *
  have EZ := Lib.hid ez
  clear ez
  go_enter Tryd.func39, Tryd.ntmps39
  go_upto_region 1 with fail
  generalize ((w.alloc (.cells (posC z).toArray 28)).alloc (.cells #[.int .i64 f, .int .i64 t, .int .i64 d, .bool p] 64)).alloc (.cells Tryd.zeroCells28 28) = w0 at *
  go_wp2_with (first
    | (go_at_call 31; refine (NE.out _).mono ?_; rintro e w1 ⟨g, b, rfl, hg, hb, hG, hbw⟩; have GE := Lib.hid (And.intro (Nat.lt_of_lt_of_le HS0.out hg) (Nat.lt_of_lt_of_le HS0.out hb)); have HG := Lib.hid hG; have H1 := Lib.hid (H0.out.grow hbw); obtain ⟨m0, m1, m2, m3⟩ := mv_cells' H1.out.2.1; clear hg hb hG hbw)
    | (go_at_call 33; refine (MK.out w.heap.size g b _ _ H1.out.2.2.2.size HG.out (past_none _ _ _ _)).mono ?_; rintro e w2 ⟨rfl, v1, hG, hP, hB⟩; have HG1 := Lib.hid hG; have H2 := Lib.hid (H1.out.but3 hB GE.out.1 GE.out.2); obtain ⟨g0, g1, g2⟩ := hG.1.cells; clear hG hP hB)
    | (refine wpList_load_mid rfl 28 _ rfl w.heap.size 0 rfl (posC z) _ H0.out.1.range Tryd.underlying28 rfl HINF.out ?_)
    | (refine wpList_load_mid rfl 28 _ rfl b 0 rfl (posC zf) _ (posRangeB HG1.out.2.1 HL.out) Tryd.underlying28 rfl HINF2.out ?_)
    | (refine wpList_store_row rfl 28 _ _ rfl (w.heap.size + 2) (posC zf).toArray rfl rfl 28 Tryd.zeroCells28 H2.out.2.2.1 (by rw [List.size_toArray]; exact HINF2.out) HSS.out (posC_one zf) ?_))
  refine bodyPost_ret (results_row_tmp rfl _ _ (w.heap.size + 2) 28 (posC zf).toArray (0, 0) _ rfl (setRow_heap _ _ _ _ _ _ H2.out.2.2.1) Tryd.underlying28 rfl (by rw [List.size_toArray]; exact HINF2.out)) rfl ?_
  exact ⟨by first | rfl | (rw [EZ.out]; rfl), below_row H2.out.2.2.2 (by omega) _⟩
set_option maxHeartbeats 4000000 in
theorem after_no (z : List Int) (f t d : Int) (p : Bool) (hz : z.length = 98) (h8 : I8s z) (hc : Clean z) (hcan : canF z f t d p = false) (w : World) :
    Calls Tryd.prog 39 #[.agg (posC z).toArray, .agg #[.int .i64 f, .int .i64 t, .int .i64 d, .bool p]] w fun e w' => e = .returned (.tuple #[.agg (posC (z)).toArray, .bool false]) ∧ Below w.heap.size w w' := by
  have H0 := Lib.hid (RA.start w z #[.int .i64 f, .int .i64 t, .int .i64 d, .bool p])
  have NE := Lib.hid (fun W => newGame_any z hz h8 W)
  rw [newZ_self z hz hc] at NE
  have MK := Lib.hid (fun (g b : Nat) (v : Value) (W : World) (h : Gk W g b z v) => make_no g b z v f t d p hz h8 W h hcan)
  have hl : (z).length = 98 := by exact hz
  have HZ := Lib.hid hz
  have HINF := Lib.hid (show (Tryd.prog.info? 28).map (·.size) = some (posC z).length by rw [posC_len, hz]; exact infoPos)
  have HL := Lib.hid hl
  have HINF2 := Lib.hid (show (Tryd.prog.info? 28).map (·.size) = some (posC (z)).length by rw [posC_len, hl]; exact infoPos)
  have HSS := Lib.hid (show Tryd.zeroCells28.size = (posC (z)).toArray.size from zeroPos_size.trans (by rw [List.size_toArray, posC_len, hl]))
  have HS0 := Lib.hid (show w.heap.size + 2 < (((w.alloc (.cells (posC z).toArray 28)).alloc (.cells #[.int .i64 f, .int .i64 t, .int .i64 d, .bool p] 64)).alloc (.cells Tryd.zeroCells28 28)).heap.size by simp)
  clear hz h8 hc hcan hl
  go_enter Tryd.func39, Tryd.ntmps39
  go_upto_region 1 with fail
  generalize ((w.alloc (.cells (posC z).toArray 28)).alloc (.cells #[.int .i64 f, .int .i64 t, .int .i64 d, .bool p] 64)).alloc (.cells Tryd.zeroCells28 28) = w0 at *
  go_wp2_with (first
    | (go_at_call 31; refine (NE.out _).mono ?_; rintro e w1 ⟨g, b, rfl, hg, hb, hG, hbw⟩; have GE := Lib.hid (And.intro (Nat.lt_of_lt_of_le HS0.out hg) (Nat.lt_of_lt_of_le HS0.out hb)); have HG := Lib.hid hG; have H1 := Lib.hid (H0.out.grow hbw); obtain ⟨m0, m1, m2, m3⟩ := mv_cells' H1.out.2.1; clear hg hb hG hbw)
    | (go_at_call 33; refine (MK.out g b _ _ HG.out).mono ?_; rintro e w2 ⟨rfl, hB⟩; have HG1 := Lib.hid (HG.out.grow hB); have H2 := Lib.hid (H1.out.grow hB); obtain ⟨g0, g1, g2⟩ := HG1.out.1.cells; clear hB)
    | (refine wpList_load_mid rfl 28 _ rfl w.heap.size 0 rfl (posC z) _ H0.out.1.range Tryd.underlying28 rfl HINF.out ?_)
    | (refine wpList_load_mid rfl 28 _ rfl b 0 rfl (posC z) _ (posRangeB HG1.out.2.1 HL.out) Tryd.underlying28 rfl HINF2.out ?_)
    | (refine wpList_store_row rfl 28 _ _ rfl (w.heap.size + 2) (posC z).toArray rfl rfl 28 Tryd.zeroCells28 H2.out.2.2.1 (by rw [List.size_toArray]; exact HINF2.out) HSS.out (posC_one z) ?_))
  refine bodyPost_ret (results_row_tmp rfl _ _ (w.heap.size + 2) 28 (posC z).toArray (0, 0) _ rfl (setRow_heap _ _ _ _ _ _ H2.out.2.2.1) Tryd.underlying28 rfl (by rw [List.size_toArray]; exact HINF2.out)) rfl ?_
  exact ⟨by rfl, below_row H2.out.2.2.2 (by omega) _⟩
end Go.Proofs.YtbopbekehccdmaaDoor
