/-
  The references of layers 7 and 9 that the law DeedMakes asks, and deed.After: joined texts.
-/
import Derived.Test.YtfemicpfkgecbaaDoorMv1
import Derived.LoopTactic
import Derived.Laws.IdiomStrings
import Derived.Deep.QuietTactic
import Derived.BigQuiet
import Derived.Deep.RegionHeld3
import Derived.Test.YtfemicpfkgecbaaDoorGm10
import Derived.Test.YtfemicpfkgecbaaDoorBegins
import Derived.Test.YtfemicpfkgecbaaDoorRefKind
import Derived.Test.YtfemicpfkgecbaaDoorPosC
import Derived.Test.YtfemicpfkgecbaaDoorBase
import Derived.Deep.LoopGhost
import Derived.Lib.Hide
import Derived.Test.YtfemicpfkgecbaaDoorRefs
import Derived.Deep.CutBlock
import Derived.Laws.ResultCell
/-
  The reference for names of moves: find, square, Square, Check, Text return what the plain functions say.
-/
namespace Go.Proofs.YtfemicpfkgecbaaDoor
open Go.RowKit
set_option linter.unusedVariables false
set_option linter.unusedSimpArgs false

/-- The place of a byte in a list, from the k-th on; -1: it isn't there. -/
def findFrom : List UInt8 → Int → Nat → Int
  | [], _, _ => -1
  | c :: cs, x, k => if (c.toNat : Int) = x then k else findFrom cs x (k + 1)
def findF (s : ByteArray) (x : Int) : Int := findFrom s.data.toList x 0
theorem drop_cons (s : ByteArray) (k : Nat) (h : k < s.size) : s.data.toList.drop k = s[k] :: s.data.toList.drop (k + 1) := by
  rw [List.drop_eq_getElem_cons (by rw [Array.length_toList]; exact h)]
  rfl
end Go.Proofs.YtfemicpfkgecbaaDoor

namespace Go.Proofs.YtfemicpfkgecbaaDoor
open Go.RowKit
set_option linter.unusedVariables false
set_option linter.unusedSimpArgs false

theorem quo9 (a b : Nat) (h : b < 9) : Int.tdiv (9 * a + b : Int) 9 = a := by
  rw [Int.tdiv_eq_ediv_of_nonneg (by omega)]; omega
theorem rem9 (a b : Nat) (h : b < 9) : Int.tmod (9 * a + b : Int) 9 = b := by
  rw [Int.tmod_eq_emod_of_nonneg (by omega)]; omega
theorem run_file (f : Nat) (hf : f < 9) (w : World) : Sem.run Tryd.prog (Instr.slice 9 (Value.string { data := #[49, 50, 51, 52, 53, 54, 55, 56, 57] }) (some (Value.int IntKind.i64 f)) (some (Value.int IntKind.i64 (IntKind.i64.wrap ((f : Int) + 1)))) none) w = Result.ok (.string ⟨#[UInt8.ofNat (49 + f)]⟩) w := by
  obtain rfl | rfl | rfl | rfl | rfl | rfl | rfl | rfl | rfl : f = 0 ∨ f = 1 ∨ f = 2 ∨ f = 3 ∨ f = 4 ∨ f = 5 ∨ f = 6 ∨ f = 7 ∨ f = 8 := by omega
  all_goals kernel_rfl
theorem run_rank (f : Nat) (hf : f < 9) (w : World) : Sem.run Tryd.prog (Instr.slice 9 (Value.string { data := #[97, 98, 99, 100, 101, 102, 103, 104, 105] }) (some (Value.int IntKind.i64 f)) (some (Value.int IntKind.i64 (IntKind.i64.wrap ((f : Int) + 1)))) none) w = Result.ok (.string ⟨#[UInt8.ofNat (97 + f)]⟩) w := by
  obtain rfl | rfl | rfl | rfl | rfl | rfl | rfl | rfl | rfl : f = 0 ∨ f = 1 ∨ f = 2 ∨ f = 3 ∨ f = 4 ∨ f = 5 ∨ f = 6 ∨ f = 7 ∨ f = 8 := by omega
  all_goals kernel_rfl
end Go.Proofs.YtfemicpfkgecbaaDoor

/-
  The reference's Check and Text of moves.
-/
namespace Go.Proofs.YtfemicpfkgecbaaDoor
open Go.RowKit
set_option linter.unusedVariables false
set_option linter.unusedSimpArgs false

theorem refCheck_mv (f t d : Int) (p : Bool) (w : World) :
    Calls Tryd.prog 51 #[.agg #[.int .i64 f, .int .i64 t, .int .i64 d, .bool p]] w fun e w' => e = .returned (.int .i64 (checkM f t d p)) ∧ Below w.heap.size w w' := by
  have hz := checkM_zero f t d p
  by_cases ht0 : t < 0
  · rw [show checkM f t d p = 1 from if_neg (by omega)]
    clear hz
    go_enter Tryd.func51, Tryd.ntmps51
    go_wp2
    go_ret
    exact ⟨rfl, ball (bref w) _⟩
  · by_cases ht1 : 80 < t
    · rw [show checkM f t d p = 1 from if_neg (by omega)]
      clear hz
      go_enter Tryd.func51, Tryd.ntmps51
      go_wp2
      go_ret
      exact ⟨rfl, ball (bref w) _⟩
    · by_cases hd : d = 0
      · subst hd
        by_cases hf0 : f < 0
        · rw [show checkM f t 0 p = 1 by unfold checkM; rw [if_pos (by omega), if_pos rfl, if_neg (by omega)]]
          clear hz
          go_enter Tryd.func51, Tryd.ntmps51
          go_wp2
          go_ret
          exact ⟨rfl, ball (bref w) _⟩
        · by_cases hf1 : 80 < f
          · rw [show checkM f t 0 p = 1 by unfold checkM; rw [if_pos (by omega), if_pos rfl, if_neg (by omega)]]
            clear hz
            go_enter Tryd.func51, Tryd.ntmps51
            go_wp2
            go_ret
            exact ⟨rfl, ball (bref w) _⟩
          · by_cases he : f = t
            · rw [show checkM f t 0 p = 70 by unfold checkM; rw [if_pos (by omega), if_pos rfl, if_pos (by omega), if_pos he]]
              have b1 : (f == t) = true := by simpa using he
              clear hz he
              go_enter Tryd.func51, Tryd.ntmps51
              go_wp2
              go_ret
              exact ⟨rfl, ball (bref w) _⟩
            · rw [show checkM f t 0 p = 0 by unfold checkM; rw [if_pos (by omega), if_pos rfl, if_pos (by omega), if_neg he]]
              have b1 : (f == t) = false := by simpa using he
              clear hz he
              go_enter Tryd.func51, Tryd.ntmps51
              go_wp2
              go_ret
              exact ⟨rfl, ball (bref w) _⟩
      · have hv : checkM f t d p = if 1 ≤ d ∧ d ≤ 7 ∧ f = 0 ∧ p = false then 0 else 70 := by unfold checkM; rw [if_pos (by omega), if_neg hd]
        rw [hv]
        have b0 : (d != 0) = true := by simpa using hd
        clear hz hv hd
        by_cases hd1 : d < 1
        · rw [if_neg (by omega)]
          go_enter Tryd.func51, Tryd.ntmps51
          go_wp2
          go_ret
          exact ⟨rfl, ball (bref w) _⟩
        · by_cases hd7 : 7 < d
          · rw [if_neg (by omega)]
            go_enter Tryd.func51, Tryd.ntmps51
            go_wp2
            go_ret
            exact ⟨rfl, ball (bref w) _⟩
          · by_cases hf : f = 0
            · subst hf
              cases p
              · rw [if_pos ⟨by omega, by omega, rfl, rfl⟩]
                go_enter Tryd.func51, Tryd.ntmps51
                go_wp2
                go_ret
                exact ⟨rfl, ball (bref w) _⟩
              · rw [if_neg (by simp)]
                go_enter Tryd.func51, Tryd.ntmps51
                go_wp2
                go_ret
                exact ⟨rfl, ball (bref w) _⟩
            · rw [if_neg (by omega)]
              have b1 : (f != 0) = true := by simpa using hf
              clear hf
              go_enter Tryd.func51, Tryd.ntmps51
              go_wp2
              go_ret
              exact ⟨rfl, ball (bref w) _⟩

theorem run_letter (d : Int) (h1 : 1 ≤ d) (h7 : d ≤ 7) (w : World) : Sem.run Tryd.prog (Instr.slice 9 (Value.string { data := #[80, 76, 78, 83, 71, 66, 82] }) (some (Value.int IntKind.i64 (IntKind.i64.wrap (d - 1)))) (some (Value.int IntKind.i64 d)) none) w = Result.ok (.string ⟨#[letB d]⟩) w := by
  obtain rfl | rfl | rfl | rfl | rfl | rfl | rfl : d = 1 ∨ d = 2 ∨ d = 3 ∨ d = 4 ∨ d = 5 ∨ d = 6 ∨ d = 7 := by omega
  all_goals kernel_rfl
end Go.Proofs.YtfemicpfkgecbaaDoor

/-
  The reference of layer 9: Clean.
-/
namespace Go.Proofs.YtfemicpfkgecbaaDoor
open Go.RowKit
set_option linter.unusedVariables false
set_option linter.unusedSimpArgs false

def clK (z : List Int) : Nat → List Int
  | 0 => z
  | k + 1 => if kindF (at8 z k) = 0 then (clK z k).set k 0 else clK z k
theorem clK_len (z : List Int) : ∀ k, (clK z k).length = z.length
  | 0 => rfl
  | k + 1 => by
    unfold clK
    split
    · rw [List.length_set, clK_len z k]
    · exact clK_len z k
theorem clK_at (z : List Int) (hz : z.length = 98) : ∀ k, k ≤ 81 → ∀ i, at8 (clK z k) i = if i < k ∧ kindF (at8 z i) = 0 then 0 else at8 z i
  | 0, _, i => by rw [if_neg (by omega)]; rfl
  | k + 1, hk, i => by
    have ih := clK_at z hz k (by omega)
    unfold clK
    by_cases h : kindF (at8 z k) = 0
    · rw [if_pos h, at8_set _ _ _ _ (by rw [clK_len, hz]; omega)]
      by_cases e : i = k
      · subst e
        rw [if_pos rfl, if_pos ⟨by omega, h⟩]
      · rw [if_neg e, ih i]
        by_cases h2 : i < k ∧ kindF (at8 z i) = 0
        · rw [if_pos h2, if_pos ⟨by omega, h2.2⟩]
        · rw [if_neg h2, if_neg (fun h3 => h2 ⟨by omega, h3.2⟩)]
    · rw [if_neg h, ih i]
      by_cases h2 : i < k ∧ kindF (at8 z i) = 0
      · rw [if_pos h2, if_pos ⟨by omega, h2.2⟩]
      · rw [if_neg h2, if_neg (fun h3 => h2 ⟨by
          have : i ≠ k := fun e => h (by rw [← e]; exact h3.2)
          omega, h3.2⟩)]
theorem clK_new (z : List Int) (hz : z.length = 98) : clK z 81 = newZ z :=
  at8_ext _ _ (by rw [clK_len, hz]) (newZ_len z hz) fun i hi => by
    rw [clK_at z hz 81 (Nat.le_refl _) i, newZ_at z hz i hi]
set_option maxHeartbeats 4000000 in
theorem clean_any (z : List Int) (hz : z.length = 98) (h8 : I8s z) (w : World) :
    Calls Tryd.prog 24 #[.agg (posC z).toArray] w fun e w' => e = .returned (.agg (posC (newZ z)).toArray) ∧ Below w.heap.size w w' := by
  rw [← clK_new z hz]
  have HZ := Lib.hid hz
  have H8 := Lib.hid h8
  have P0 := Lib.hid ((PosAt.new w z).grow (ball (bref _) (.cells Tryd.zeroCells28 28)))
  have D0 : ((w.alloc (.cells (posC z).toArray 28)).alloc (.cells Tryd.zeroCells28 28)).heap[w.heap.size + 1]? = some (.cells Tryd.zeroCells28 28) := by
    have := heap_alloc_new (w.alloc (.cells (posC z).toArray 28)) (.cells Tryd.zeroCells28 28)
    rwa [show (w.alloc (.cells (posC z).toArray 28)).heap.size = w.heap.size + 1 by simp] at this
  have HD0 := Lib.hid D0
  have HB0 := Lib.hid (ball (ball (bref w) (.cells (posC z).toArray 28)) (.cells Tryd.zeroCells28 28))
  have HS0 := Lib.hid (show w.heap.size + 1 < ((w.alloc (.cells (posC z).toArray 28)).alloc (.cells Tryd.zeroCells28 28)).heap.size by simp)
  clear hz h8 D0
  go_enter Tryd.func24, Tryd.ntmps24
  go_wp2
  generalize (w.alloc (.cells (posC z).toArray 28)).alloc (.cells Tryd.zeroCells28 28) = w2 at *
  go_loopw [3] (fun i wr => ∃ k : Nat, k ≤ 81 ∧ i = .int .i64 k ∧ PosAt wr w.heap.size (clK z k) ∧ But w.heap.size w2 wr) (fun i _ => 81 - (intOf i).toNat)
  case atStart => exact ⟨0, by omega, rfl, P0.out, But.refl _ _⟩
  case round =>
    obtain ⟨k, hk, rfl, hP, hB⟩ := hrel
    have HP := Lib.hid hP
    have HB := Lib.hid hB
    clear hP hB
    by_cases hlt : k < 81
    · have hx := H8.out.at k
      have K := Lib.hid (fun W => refKind_any (at8 z k) W hx.1 hx.2)
      have c0 := HP.out.cell k (by rw [clK_len, HZ.out]; omega)
      rw [clK_at z HZ.out k (by omega) k, if_neg (by omega)] at c0
      have f0 := HP.out.frozen k
      have zb := HP.out.lt
      have hw : wrap64 (at8 z k) = at8 z k := by unfold wrap64; omega
      by_cases h0 : kindF (at8 z k) = 0
      · have e := show clK z (k + 1) = (clK z k).set k 0 from if_pos h0
        have E := Lib.hid e
        have b0 : (kindF (at8 z k) == 0) = true := by simpa using h0
        generalize kindF (at8 z k) = kk at *
        generalize at8 z k = x at *
        obtain ⟨hx0, hx1⟩ := hx
        clear e h0
        go_wp2_with (go_at_call 12; refine (K.out _).mono ?_; rintro e w3 ⟨rfl, rfl⟩)
        go_roundw
        case rel => exact ⟨k + 1, by omega, by go_num, by rw [E.out]; exact HP.out.set k 0, HB.out.setCell _ rfl _⟩
        case measure => simp [intOf]; omega
      · have e := show clK z (k + 1) = clK z k from if_neg h0
        have E := Lib.hid e
        have b0 : (kindF (at8 z k) == 0) = false := by simpa using h0
        generalize kindF (at8 z k) = kk at *
        generalize at8 z k = x at *
        obtain ⟨hx0, hx1⟩ := hx
        clear e h0
        go_wp2_with (go_at_call 12; refine (K.out _).mono ?_; rintro e w3 ⟨rfl, rfl⟩)
        go_roundw
        case rel => exact ⟨k + 1, by omega, by go_num, by rw [E.out]; exact HP.out, HB.out⟩
        case measure => simp [intOf]; omega
    · obtain rfl : k = 81 := by omega
      have hl : (clK z 81).length = 98 := by rw [clK_len, HZ.out]
      have HINF := Lib.hid (show (Tryd.prog.info? 28).map (·.size) = some (posC (clK z 81)).length by rw [posC_len, hl]; exact infoPos)
      have HS := Lib.hid (show Tryd.zeroCells28.size = (posC (clK z 81)).toArray.size from zeroPos_size.trans (by rw [List.size_toArray, posC_len, hl]))
      have HD6 := Lib.hid ((HB.out.block (w.heap.size + 1) HS0.out (by omega)).trans HD0.out)
      clear hl
      generalize hc : clK z 81 = sz at *
      go_wp2_with (first
        | (refine wpList_load_mid rfl 28 _ rfl w.heap.size 0 rfl (posC sz) _ HP.out.range Tryd.underlying28 rfl HINF.out ?_)
        | (refine wpList_store_row rfl 28 _ _ rfl (w.heap.size + 1) (posC sz).toArray rfl rfl 28 Tryd.zeroCells28 HD6.out (by rw [List.size_toArray]; exact HINF.out) HS.out (posC_one sz) ?_))
      refine bodyPost_ret (results_cell_row rfl _ _ (w.heap.size + 1) 28 (posC sz).toArray (0, 0) _ rfl (setRow_heap _ _ _ _ _ _ HD6.out) Tryd.underlying28 rfl (by rw [List.size_toArray]; exact HINF.out)) rfl ?_
      exact ⟨by rw [hc], below_row (HB0.out.trans (HB.out.below (by omega) (by have := HS0.out; omega))) (by omega) _⟩
end Go.Proofs.YtfemicpfkgecbaaDoor

/-
  The law's own small and full: what hands a position has.
-/
namespace Go.Proofs.YtfemicpfkgecbaaDoor
open Go.RowKit
set_option linter.unusedVariables false
set_option linter.unusedSimpArgs false

/-- The first n counts in hand lie between lo and hi. -/
def HandsIn (z : List Int) (lo hi : Int) (n : Nat) : Prop := ∀ j, j < n → lo ≤ at8 z (81 + j) ∧ at8 z (81 + j) ≤ hi
instance (z : List Int) (lo hi : Int) (n : Nat) : Decidable (HandsIn z lo hi n) := Nat.decidableBallLT n _
theorem handsIn_step {z : List Int} {lo hi : Int} {n : Nat} (h : HandsIn z lo hi n) (h1 : lo ≤ at8 z (81 + n)) (h2 : at8 z (81 + n) ≤ hi) : HandsIn z lo hi (n + 1) := fun j hj => by
  by_cases e : j = n
  · subst e; exact ⟨h1, h2⟩
  · exact h j (by omega)
set_option maxHeartbeats 2000000 in
theorem small_any (z : List Int) (hz : z.length = 98) (h8 : I8s z) (w : World) :
    Calls Tryd.prog 25 #[.agg (posC z).toArray] w fun e w' => e = .returned (.bool (decide (HandsIn z (0) 18 16))) ∧ Below w.heap.size w w' := by
  have HZ := Lib.hid hz
  have H8 := Lib.hid h8
  have HP := Lib.hid (PosAt.new w z)
  have HB := Lib.hid (ball (bref w) (.cells (posC z).toArray 28))
  clear hz h8
  go_enter Tryd.func25, Tryd.ntmps25
  go_wp2
  generalize w.alloc (.cells (posC z).toArray 28) = w1 at *
  go_loop [3] (fun i => ∃ s : Nat, s ≤ 2 ∧ i = .int .i64 s ∧ HandsIn z (0) 18 (8 * s)) (fun i => 2 - (intOf i).toNat)
  case atStart => exact ⟨0, by omega, rfl, fun j hj => by omega⟩
  case round =>
    obtain ⟨s, hs, rfl, hok⟩ := hrel
    have OK := Lib.hid hok
    clear hok
    by_cases hs2 : s < 2
    · go_wp2
      go_loop [4] (fun i => ∃ k : Nat, k ≤ 8 ∧ i = .int .i64 k ∧ HandsIn z (0) 18 (8 * s + k)) (fun i => 8 - (intOf i).toNat)
      case atStart => exact ⟨0, by omega, rfl, OK.out⟩
      case round =>
        obtain ⟨k, hk, rfl, hok2⟩ := hrel
        have OK2 := Lib.hid hok2
        clear hok2
        by_cases hk8 : k < 8
        · have c0 := HP.out.cell (81 + s * 8 + k) (by rw [HZ.out]; omega)
          have E := Lib.hid (show 81 + s * 8 + k = 81 + (8 * s + k) by omega)
          have hv := H8.out.at (81 + s * 8 + k)
          have ES := Lib.hid (fun (h1 : (0 : Int) ≤ at8 z (81 + s * 8 + k)) (h2 : at8 z (81 + s * 8 + k) ≤ 18) => handsIn_step OK2.out (by rw [← E.out]; exact h1) (by rw [← E.out]; exact h2))
          have EB := Lib.hid (fun (h : HandsIn z (0) 18 16) => h (8 * s + k) (by omega))
          rw [← E.out] at EB
          generalize at8 z (81 + s * 8 + k) = v at *
          obtain ⟨hv0, hv1⟩ := hv
          clear E
          by_cases h0 : v < 0
          · go_wp2
            go_ret
            exact ⟨by rw [decide_eq_false (fun h => by have := EB.out h; omega)]; rfl, HB.out⟩
          · skip
            by_cases h1 : 18 < v
            · go_wp2
              go_ret
              exact ⟨by rw [decide_eq_false (fun h => by have := EB.out h; omega)]; rfl, HB.out⟩
            · skip
              go_wp2
              go_round
              case rel => exact ⟨k + 1, by omega, by go_num, ES.out (by omega) (by omega)⟩
              case measure => simp [intOf]; omega
        · obtain rfl : k = 8 := by omega
          go_wp2
          go_round
          case rel => exact ⟨s + 1, by omega, by go_num, fun j hj => OK2.out j (by omega)⟩
          case measure => simp [intOf]; omega
    · obtain rfl : s = 2 := by omega
      go_wp2
      go_ret
      exact ⟨by rw [decide_eq_true (show HandsIn z (0) 18 16 from OK.out)]; rfl, HB.out⟩
set_option maxHeartbeats 2000000 in
theorem full_any (z : List Int) (hz : z.length = 98) (h8 : I8s z) (w : World) :
    Calls Tryd.prog 26 #[.agg (posC z).toArray] w fun e w' => e = .returned (.bool (!decide (HandsIn z (-128) 17 16))) ∧ Below w.heap.size w w' := by
  have HZ := Lib.hid hz
  have H8 := Lib.hid h8
  have HP := Lib.hid (PosAt.new w z)
  have HB := Lib.hid (ball (bref w) (.cells (posC z).toArray 28))
  clear hz h8
  go_enter Tryd.func26, Tryd.ntmps26
  go_wp2
  generalize w.alloc (.cells (posC z).toArray 28) = w1 at *
  go_loop [3] (fun i => ∃ s : Nat, s ≤ 2 ∧ i = .int .i64 s ∧ HandsIn z (-128) 17 (8 * s)) (fun i => 2 - (intOf i).toNat)
  case atStart => exact ⟨0, by omega, rfl, fun j hj => by omega⟩
  case round =>
    obtain ⟨s, hs, rfl, hok⟩ := hrel
    have OK := Lib.hid hok
    clear hok
    by_cases hs2 : s < 2
    · go_wp2
      go_loop [4] (fun i => ∃ k : Nat, k ≤ 8 ∧ i = .int .i64 k ∧ HandsIn z (-128) 17 (8 * s + k)) (fun i => 8 - (intOf i).toNat)
      case atStart => exact ⟨0, by omega, rfl, OK.out⟩
      case round =>
        obtain ⟨k, hk, rfl, hok2⟩ := hrel
        have OK2 := Lib.hid hok2
        clear hok2
        by_cases hk8 : k < 8
        · have c0 := HP.out.cell (81 + s * 8 + k) (by rw [HZ.out]; omega)
          have E := Lib.hid (show 81 + s * 8 + k = 81 + (8 * s + k) by omega)
          have hv := H8.out.at (81 + s * 8 + k)
          have ES := Lib.hid (fun (h1 : (-128 : Int) ≤ at8 z (81 + s * 8 + k)) (h2 : at8 z (81 + s * 8 + k) ≤ 17) => handsIn_step OK2.out (by rw [← E.out]; exact h1) (by rw [← E.out]; exact h2))
          have EB := Lib.hid (fun (h : HandsIn z (-128) 17 16) => h (8 * s + k) (by omega))
          rw [← E.out] at EB
          generalize at8 z (81 + s * 8 + k) = v at *
          obtain ⟨hv0, hv1⟩ := hv
          clear E
          by_cases h1 : 17 < v
          · go_wp2
            go_ret
            exact ⟨by rw [decide_eq_false (fun h => by have := EB.out h; omega)]; rfl, HB.out⟩
          · skip
            go_wp2
            go_round
            case rel => exact ⟨k + 1, by omega, by go_num, ES.out (by omega) (by omega)⟩
            case measure => simp [intOf]; omega
        · obtain rfl : k = 8 := by omega
          go_wp2
          go_round
          case rel => exact ⟨s + 1, by omega, by go_num, fun j hj => OK2.out j (by omega)⟩
          case measure => simp [intOf]; omega
    · obtain rfl : s = 2 := by omega
      go_wp2
      go_ret
      exact ⟨by rw [decide_eq_true (show HandsIn z (-128) 17 16 from OK.out)]; rfl, HB.out⟩
end Go.Proofs.YtfemicpfkgecbaaDoor

/-
  The reference of layer 9: Can.
-/
namespace Go.Proofs.YtfemicpfkgecbaaDoor
open Go.RowKit
set_option linter.unusedVariables false
set_option linter.unusedSimpArgs false

theorem rowB1 {w w1 : World} {A C : Obj} (hb : Below ((w.alloc A).alloc C).heap.size ((w.alloc A).alloc C) w1) : w1.heap[w.heap.size]? = some A := by
  refine (hb.block _ (show w.heap.size < ((w.alloc A).alloc C).heap.size by simp; omega)).trans ?_
  show ((w.heap.push A).push C)[w.heap.size]? = some A
  simp [Array.getElem?_push]
theorem rowB2 {w w1 : World} {A C : Obj} (hb : Below ((w.alloc A).alloc C).heap.size ((w.alloc A).alloc C) w1) : w1.heap[w.heap.size + 1]? = some C := by
  refine (hb.block _ (show w.heap.size + 1 < ((w.alloc A).alloc C).heap.size by simp)).trans ?_
  show ((w.heap.push A).push C)[w.heap.size + 1]? = some C
  rw [Array.getElem?_push, if_pos (by simp)]
set_option maxHeartbeats 1000000 in
theorem refCan_check (z : List Int) (f t d : Int) (p : Bool) (hz : z.length = 98) (h8 : I8s z) (w : World) (hc : checkM f t d p ≠ 0) :
    Calls Tryd.prog 28 #[.agg (posC z).toArray, .agg #[.int .i64 f, .int .i64 t, .int .i64 d, .bool p]] w fun e w' => e = .returned (.bool false) ∧ Below w.heap.size w w' := by
  have C := Lib.hid (fun W => refCheck_mv f t d p W)
  have b0 : (checkM f t d p != 0) = true := by simpa using hc
  generalize checkM f t d p = c at C b0
  clear hz h8 hc
  go_enter Tryd.func28, Tryd.ntmps28
  go_wp2_with (first
    | (go_at_call 51; refine (C.out _).mono ?_; rintro e w1 ⟨rfl, hb1⟩; have HB1 := Lib.hid (bthen (ball (ball (bref w) _) _) hb1); obtain ⟨m0, m1, m2, m3⟩ := mv_cells' (rowB2 hb1); have HP := Lib.hid (show PosAt w1 w.heap.size z from rowB1 hb1)))
  go_ret
  exact ⟨rfl, HB1.out⟩
set_option maxHeartbeats 1000000 in
theorem refCan_side (z : List Int) (f t d : Int) (p : Bool) (hz : z.length = 98) (h8 : I8s z) (w : World) (hc : checkM f t d p = 0) (h0 : at8 z 97 ≠ 0) (h1 : at8 z 97 ≠ 1) :
    Calls Tryd.prog 28 #[.agg (posC z).toArray, .agg #[.int .i64 f, .int .i64 t, .int .i64 d, .bool p]] w fun e w' => e = .returned (.bool false) ∧ Below w.heap.size w w' := by
  have C := Lib.hid (fun W => refCheck_mv f t d p W)
  have HZ := Lib.hid hz
  rw [hc] at C
  obtain ⟨s, hsz⟩ : ∃ s, at8 z 97 = s := ⟨_, rfl⟩
  have HS := Lib.hid hsz
  have hs8 := h8.at 97
  rw [hsz] at hs8
  have hws : wrap64 s = s := by unfold wrap64; omega
  rw [hsz] at h0 h1
  have b1 : (s != 0) = true := by simpa using h0
  have b2 : (s != 1) = true := by simpa using h1
  clear hz h8 hc h0 h1 hsz hs8
  go_enter Tryd.func28, Tryd.ntmps28
  go_wp2_with (first
    | (go_at_call 51; refine (C.out _).mono ?_; rintro e w1 ⟨rfl, hb1⟩; have HB1 := Lib.hid (bthen (ball (ball (bref w) _) _) hb1); obtain ⟨m0, m1, m2, m3⟩ := mv_cells' (rowB2 hb1); have HP := Lib.hid (show PosAt w1 w.heap.size z from rowB1 hb1); have cs := HP.out.cell 97 (by rw [HZ.out]; omega); rw [HS.out] at cs))
  go_ret
  exact ⟨rfl, HB1.out⟩
set_option maxHeartbeats 4000000 in
theorem refCan_drop (z : List Int) (tq dn sn : Nat) (ht : tq < 81) (hd : 1 ≤ dn ∧ dn ≤ 7) (hsn : sn < 2) (hs : at8 z 97 = sn) (hz : z.length = 98) (h8 : I8s z) (w : World) (hc : checkM 0 tq dn false = 0) :
    Calls Tryd.prog 28 #[.agg (posC z).toArray, .agg #[.int .i64 0, .int .i64 tq, .int .i64 dn, .bool false]] w fun e w' => e = .returned (.bool (decide (0 < at8 z (81 + sn * 8 + dn) ∧ at8 z tq = 0))) ∧ Below w.heap.size w w' := by
  have C := Lib.hid (fun W => refCheck_mv 0 tq dn false W)
  rw [hc] at C
  have HZ := Lib.hid hz
  have HS := Lib.hid hs
  have hn8 := h8.at (81 + sn * 8 + dn)
  have hy8 := h8.at tq
  have bd : ((dn : Int) != 0) = true := by simp; omega
  have hws : wrap64 (sn : Int) = sn := by unfold wrap64; omega
  have hwy : wrap64 (at8 z tq) = at8 z tq := by unfold wrap64; omega
  obtain ⟨hd1, hd7⟩ := hd
  have hsb : ((sn : Int) != 0) = true ∧ ((sn : Int) != 1) = false ∨ ((sn : Int) != 0) = false := by
    obtain rfl | rfl : sn = 0 ∨ sn = 1 := by omega
    · right; rfl
    · left; exact ⟨rfl, rfl⟩
  generalize hh : at8 z (81 + sn * 8 + dn) = n at *
  generalize hy : at8 z tq = y at *
  have HH := Lib.hid hh
  have HT := Lib.hid hy
  clear hz h8 hc hs hh hy hn8 hy8
  by_cases hn : 0 < n
  · have bn : decide (0 < n) = true := decide_eq_true hn
    by_cases hy0 : y = 0
    · rw [decide_eq_true ⟨hn, hy0⟩]
      have by0 : (y == 0) = true := by simpa using hy0
      clear hy0
      rcases hsb with ⟨b1, b2⟩ | b1
      · go_enter Tryd.func28, Tryd.ntmps28
        go_wp2_with (first
          | (go_at_call 51; refine (C.out _).mono ?_; rintro e w1 ⟨rfl, hb1⟩; have HB1 := Lib.hid (bthen (ball (ball (bref w) _) _) hb1); obtain ⟨m0, m1, m2, m3⟩ := mv_cells' (rowB2 hb1); have HP := Lib.hid (show PosAt w1 w.heap.size z from rowB1 hb1); have cs := HP.out.cell 97 (by rw [HZ.out]; omega); rw [HS.out] at cs; have ct := HP.out.cell tq (by rw [HZ.out]; omega); rw [HT.out] at ct; have ch := HP.out.cell (81 + sn * 8 + dn) (by rw [HZ.out]; omega); rw [HH.out] at ch))
        go_quiet (fail)
        go_wp2
        go_ret
        exact ⟨rfl, bdrewN HB1.out _⟩
      · go_enter Tryd.func28, Tryd.ntmps28
        go_wp2_with (first
          | (go_at_call 51; refine (C.out _).mono ?_; rintro e w1 ⟨rfl, hb1⟩; have HB1 := Lib.hid (bthen (ball (ball (bref w) _) _) hb1); obtain ⟨m0, m1, m2, m3⟩ := mv_cells' (rowB2 hb1); have HP := Lib.hid (show PosAt w1 w.heap.size z from rowB1 hb1); have cs := HP.out.cell 97 (by rw [HZ.out]; omega); rw [HS.out] at cs; have ct := HP.out.cell tq (by rw [HZ.out]; omega); rw [HT.out] at ct; have ch := HP.out.cell (81 + sn * 8 + dn) (by rw [HZ.out]; omega); rw [HH.out] at ch))
        go_quiet (fail)
        go_wp2
        go_ret
        exact ⟨rfl, bdrewN HB1.out _⟩
    · rw [decide_eq_false (fun h => hy0 h.2)]
      have by0 : (y == 0) = false := by simpa using hy0
      clear hy0
      rcases hsb with ⟨b1, b2⟩ | b1
      · go_enter Tryd.func28, Tryd.ntmps28
        go_wp2_with (first
          | (go_at_call 51; refine (C.out _).mono ?_; rintro e w1 ⟨rfl, hb1⟩; have HB1 := Lib.hid (bthen (ball (ball (bref w) _) _) hb1); obtain ⟨m0, m1, m2, m3⟩ := mv_cells' (rowB2 hb1); have HP := Lib.hid (show PosAt w1 w.heap.size z from rowB1 hb1); have cs := HP.out.cell 97 (by rw [HZ.out]; omega); rw [HS.out] at cs; have ct := HP.out.cell tq (by rw [HZ.out]; omega); rw [HT.out] at ct; have ch := HP.out.cell (81 + sn * 8 + dn) (by rw [HZ.out]; omega); rw [HH.out] at ch))
        go_quiet (fail)
        go_wp2
        go_ret
        exact ⟨rfl, bdrewN HB1.out _⟩
      · go_enter Tryd.func28, Tryd.ntmps28
        go_wp2_with (first
          | (go_at_call 51; refine (C.out _).mono ?_; rintro e w1 ⟨rfl, hb1⟩; have HB1 := Lib.hid (bthen (ball (ball (bref w) _) _) hb1); obtain ⟨m0, m1, m2, m3⟩ := mv_cells' (rowB2 hb1); have HP := Lib.hid (show PosAt w1 w.heap.size z from rowB1 hb1); have cs := HP.out.cell 97 (by rw [HZ.out]; omega); rw [HS.out] at cs; have ct := HP.out.cell tq (by rw [HZ.out]; omega); rw [HT.out] at ct; have ch := HP.out.cell (81 + sn * 8 + dn) (by rw [HZ.out]; omega); rw [HH.out] at ch))
        go_quiet (fail)
        go_wp2
        go_ret
        exact ⟨rfl, bdrewN HB1.out _⟩
  · rw [decide_eq_false (fun h => hn h.1)]
    have bn : decide (0 < n) = false := decide_eq_false hn
    rcases hsb with ⟨b1, b2⟩ | b1
    · go_enter Tryd.func28, Tryd.ntmps28
      go_wp2_with (first
        | (go_at_call 51; refine (C.out _).mono ?_; rintro e w1 ⟨rfl, hb1⟩; have HB1 := Lib.hid (bthen (ball (ball (bref w) _) _) hb1); obtain ⟨m0, m1, m2, m3⟩ := mv_cells' (rowB2 hb1); have HP := Lib.hid (show PosAt w1 w.heap.size z from rowB1 hb1); have cs := HP.out.cell 97 (by rw [HZ.out]; omega); rw [HS.out] at cs; have ct := HP.out.cell tq (by rw [HZ.out]; omega); rw [HT.out] at ct; have ch := HP.out.cell (81 + sn * 8 + dn) (by rw [HZ.out]; omega); rw [HH.out] at ch))
      go_quiet (fail)
      go_wp2
      go_ret
      exact ⟨rfl, bdrewN HB1.out _⟩
    · go_enter Tryd.func28, Tryd.ntmps28
      go_wp2_with (first
        | (go_at_call 51; refine (C.out _).mono ?_; rintro e w1 ⟨rfl, hb1⟩; have HB1 := Lib.hid (bthen (ball (ball (bref w) _) _) hb1); obtain ⟨m0, m1, m2, m3⟩ := mv_cells' (rowB2 hb1); have HP := Lib.hid (show PosAt w1 w.heap.size z from rowB1 hb1); have cs := HP.out.cell 97 (by rw [HZ.out]; omega); rw [HS.out] at cs; have ct := HP.out.cell tq (by rw [HZ.out]; omega); rw [HT.out] at ct; have ch := HP.out.cell (81 + sn * 8 + dn) (by rw [HZ.out]; omega); rw [HH.out] at ch))
      go_quiet (fail)
      go_wp2
      go_ret
      exact ⟨rfl, bdrewN HB1.out _⟩
set_option maxHeartbeats 4000000 in
theorem refCan_go (z : List Int) (fq tq sn : Nat) (p : Bool) (hf : fq < 81) (ht : tq < 81) (hsn : sn < 2) (hs : at8 z 97 = sn) (hz : z.length = 98) (h8 : I8s z) (w : World) (hc : checkM fq tq 0 p = 0) :
    Calls Tryd.prog 28 #[.agg (posC z).toArray, .agg #[.int .i64 fq, .int .i64 tq, .int .i64 0, .bool p]] w fun e w' => e = .returned (.bool (goB sn (at8 z fq) (at8 z tq) p)) ∧ Below w.heap.size w w' := by
  have C := Lib.hid (fun W => refCheck_mv fq tq 0 p W)
  rw [hc] at C
  have HZ := Lib.hid hz
  have HS := Lib.hid hs
  have hx8 := h8.at fq
  have hy8 := h8.at tq
  have S1 := Lib.hid (fun W => refSide_any (at8 z fq) W hx8.1 hx8.2)
  have S2 := Lib.hid (fun W => refSide_any (at8 z tq) W hy8.1 hy8.2)
  have K1 := Lib.hid (fun W => refKind_any (at8 z fq) W hx8.1 hx8.2)
  have K2 := Lib.hid (fun W => refKind_any (at8 z tq) W hy8.1 hy8.2)
  have U1 := Lib.hid (fun W => refUp_any (kindF (at8 z fq)) W)
  unfold goB
  have hws : wrap64 (sn : Int) = sn := by unfold wrap64; omega
  have hwy : wrap64 (at8 z tq) = at8 z tq := by unfold wrap64; omega
  have hwx : wrap64 (at8 z fq) = at8 z fq := by unfold wrap64; omega
  have hsb : ((sn : Int) != 0) = true ∧ ((sn : Int) != 1) = false ∨ ((sn : Int) != 0) = false := by
    obtain rfl | rfl : sn = 0 ∨ sn = 1 := by omega
    · right; rfl
    · left; exact ⟨rfl, rfl⟩
  generalize hh : at8 z fq = x at *
  generalize hy : at8 z tq = y at *
  have HF := Lib.hid hh
  have HT := Lib.hid hy
  clear hz h8 hc hs hh hy hx8 hy8
  generalize sideF x = sx at *
  generalize sideF y = sy at *
  generalize kindF y = ky at *
  generalize kindF x = kx at *
  generalize upF kx = ux at *
  by_cases h1 : sx = sn
  · have b1 : (sx != (sn : Int)) = false := by simpa using h1
    by_cases h2 : sy = sn
    · rw [if_pos (.inr (.inl h2))]
      have b2 : (sy == (sn : Int)) = true := by simpa using h2
      clear h1 h2
      rcases hsb with ⟨c1, c2⟩ | c1
      · go_enter Tryd.func28, Tryd.ntmps28
        go_wp2_with (first
          | (go_at_call 51; refine (C.out _).mono ?_; rintro e w1 ⟨rfl, hb1⟩; have HB1 := Lib.hid (bthen (ball (ball (bref w) _) _) hb1); obtain ⟨m0, m1, m2, m3⟩ := mv_cells' (rowB2 hb1); have HP := Lib.hid (show PosAt w1 w.heap.size z from rowB1 hb1); have cs := HP.out.cell 97 (by rw [HZ.out]; omega); rw [HS.out] at cs; have ct := HP.out.cell tq (by rw [HZ.out]; omega); rw [HT.out] at ct; have cf := HP.out.cell fq (by rw [HZ.out]; omega); rw [HF.out] at cf)
          | (go_at_call_of 52 (Value.int .i64 x); refine (S1.out _).mono ?_; rintro e w2 ⟨rfl, rfl⟩)
          | (go_at_call 52; refine (S2.out _).mono ?_; rintro e w3 ⟨rfl, rfl⟩)
          | (go_at_call_of 12 (Value.int .i64 y); refine (K2.out _).mono ?_; rintro e w4 ⟨rfl, rfl⟩)
          | (go_at_call 12; refine (K1.out _).mono ?_; rintro e w5 ⟨rfl, rfl⟩)
          | (go_at_call 53; refine (U1.out _).mono ?_; rintro e w6 ⟨rfl, rfl⟩))
        go_ret
        exact ⟨rfl, HB1.out⟩
      · go_enter Tryd.func28, Tryd.ntmps28
        go_wp2_with (first
          | (go_at_call 51; refine (C.out _).mono ?_; rintro e w1 ⟨rfl, hb1⟩; have HB1 := Lib.hid (bthen (ball (ball (bref w) _) _) hb1); obtain ⟨m0, m1, m2, m3⟩ := mv_cells' (rowB2 hb1); have HP := Lib.hid (show PosAt w1 w.heap.size z from rowB1 hb1); have cs := HP.out.cell 97 (by rw [HZ.out]; omega); rw [HS.out] at cs; have ct := HP.out.cell tq (by rw [HZ.out]; omega); rw [HT.out] at ct; have cf := HP.out.cell fq (by rw [HZ.out]; omega); rw [HF.out] at cf)
          | (go_at_call_of 52 (Value.int .i64 x); refine (S1.out _).mono ?_; rintro e w2 ⟨rfl, rfl⟩)
          | (go_at_call 52; refine (S2.out _).mono ?_; rintro e w3 ⟨rfl, rfl⟩)
          | (go_at_call_of 12 (Value.int .i64 y); refine (K2.out _).mono ?_; rintro e w4 ⟨rfl, rfl⟩)
          | (go_at_call 12; refine (K1.out _).mono ?_; rintro e w5 ⟨rfl, rfl⟩)
          | (go_at_call 53; refine (U1.out _).mono ?_; rintro e w6 ⟨rfl, rfl⟩))
        go_ret
        exact ⟨rfl, HB1.out⟩
    · have b2 : (sy == (sn : Int)) = false := by simpa using h2
      by_cases h3 : ky = 8
      · rw [if_pos (.inr (.inr h3))]
        have b3 : (ky == 8) = true := by simpa using h3
        clear h1 h2 h3
        rcases hsb with ⟨c1, c2⟩ | c1
        · go_enter Tryd.func28, Tryd.ntmps28
          go_wp2_with (first
            | (go_at_call 51; refine (C.out _).mono ?_; rintro e w1 ⟨rfl, hb1⟩; have HB1 := Lib.hid (bthen (ball (ball (bref w) _) _) hb1); obtain ⟨m0, m1, m2, m3⟩ := mv_cells' (rowB2 hb1); have HP := Lib.hid (show PosAt w1 w.heap.size z from rowB1 hb1); have cs := HP.out.cell 97 (by rw [HZ.out]; omega); rw [HS.out] at cs; have ct := HP.out.cell tq (by rw [HZ.out]; omega); rw [HT.out] at ct; have cf := HP.out.cell fq (by rw [HZ.out]; omega); rw [HF.out] at cf)
            | (go_at_call_of 52 (Value.int .i64 x); refine (S1.out _).mono ?_; rintro e w2 ⟨rfl, rfl⟩)
            | (go_at_call 52; refine (S2.out _).mono ?_; rintro e w3 ⟨rfl, rfl⟩)
            | (go_at_call_of 12 (Value.int .i64 y); refine (K2.out _).mono ?_; rintro e w4 ⟨rfl, rfl⟩)
            | (go_at_call 12; refine (K1.out _).mono ?_; rintro e w5 ⟨rfl, rfl⟩)
            | (go_at_call 53; refine (U1.out _).mono ?_; rintro e w6 ⟨rfl, rfl⟩))
          go_ret
          exact ⟨rfl, HB1.out⟩
        · go_enter Tryd.func28, Tryd.ntmps28
          go_wp2_with (first
            | (go_at_call 51; refine (C.out _).mono ?_; rintro e w1 ⟨rfl, hb1⟩; have HB1 := Lib.hid (bthen (ball (ball (bref w) _) _) hb1); obtain ⟨m0, m1, m2, m3⟩ := mv_cells' (rowB2 hb1); have HP := Lib.hid (show PosAt w1 w.heap.size z from rowB1 hb1); have cs := HP.out.cell 97 (by rw [HZ.out]; omega); rw [HS.out] at cs; have ct := HP.out.cell tq (by rw [HZ.out]; omega); rw [HT.out] at ct; have cf := HP.out.cell fq (by rw [HZ.out]; omega); rw [HF.out] at cf)
            | (go_at_call_of 52 (Value.int .i64 x); refine (S1.out _).mono ?_; rintro e w2 ⟨rfl, rfl⟩)
            | (go_at_call 52; refine (S2.out _).mono ?_; rintro e w3 ⟨rfl, rfl⟩)
            | (go_at_call_of 12 (Value.int .i64 y); refine (K2.out _).mono ?_; rintro e w4 ⟨rfl, rfl⟩)
            | (go_at_call 12; refine (K1.out _).mono ?_; rintro e w5 ⟨rfl, rfl⟩)
            | (go_at_call 53; refine (U1.out _).mono ?_; rintro e w6 ⟨rfl, rfl⟩))
          go_ret
          exact ⟨rfl, HB1.out⟩
      · rw [if_neg (by omega)]
        have b3 : (ky == 8) = false := by simpa using h3
        clear h1 h2 h3
        cases p
        · rcases hsb with ⟨c1, c2⟩ | c1
          · go_enter Tryd.func28, Tryd.ntmps28
            go_wp2_with (first
              | (go_at_call 51; refine (C.out _).mono ?_; rintro e w1 ⟨rfl, hb1⟩; have HB1 := Lib.hid (bthen (ball (ball (bref w) _) _) hb1); obtain ⟨m0, m1, m2, m3⟩ := mv_cells' (rowB2 hb1); have HP := Lib.hid (show PosAt w1 w.heap.size z from rowB1 hb1); have cs := HP.out.cell 97 (by rw [HZ.out]; omega); rw [HS.out] at cs; have ct := HP.out.cell tq (by rw [HZ.out]; omega); rw [HT.out] at ct; have cf := HP.out.cell fq (by rw [HZ.out]; omega); rw [HF.out] at cf)
              | (go_at_call_of 52 (Value.int .i64 x); refine (S1.out _).mono ?_; rintro e w2 ⟨rfl, rfl⟩)
              | (go_at_call 52; refine (S2.out _).mono ?_; rintro e w3 ⟨rfl, rfl⟩)
              | (go_at_call_of 12 (Value.int .i64 y); refine (K2.out _).mono ?_; rintro e w4 ⟨rfl, rfl⟩)
              | (go_at_call 12; refine (K1.out _).mono ?_; rintro e w5 ⟨rfl, rfl⟩)
              | (go_at_call 53; refine (U1.out _).mono ?_; rintro e w6 ⟨rfl, rfl⟩))
            go_ret
            exact ⟨rfl, HB1.out⟩
          · go_enter Tryd.func28, Tryd.ntmps28
            go_wp2_with (first
              | (go_at_call 51; refine (C.out _).mono ?_; rintro e w1 ⟨rfl, hb1⟩; have HB1 := Lib.hid (bthen (ball (ball (bref w) _) _) hb1); obtain ⟨m0, m1, m2, m3⟩ := mv_cells' (rowB2 hb1); have HP := Lib.hid (show PosAt w1 w.heap.size z from rowB1 hb1); have cs := HP.out.cell 97 (by rw [HZ.out]; omega); rw [HS.out] at cs; have ct := HP.out.cell tq (by rw [HZ.out]; omega); rw [HT.out] at ct; have cf := HP.out.cell fq (by rw [HZ.out]; omega); rw [HF.out] at cf)
              | (go_at_call_of 52 (Value.int .i64 x); refine (S1.out _).mono ?_; rintro e w2 ⟨rfl, rfl⟩)
              | (go_at_call 52; refine (S2.out _).mono ?_; rintro e w3 ⟨rfl, rfl⟩)
              | (go_at_call_of 12 (Value.int .i64 y); refine (K2.out _).mono ?_; rintro e w4 ⟨rfl, rfl⟩)
              | (go_at_call 12; refine (K1.out _).mono ?_; rintro e w5 ⟨rfl, rfl⟩)
              | (go_at_call 53; refine (U1.out _).mono ?_; rintro e w6 ⟨rfl, rfl⟩))
            go_ret
            exact ⟨rfl, HB1.out⟩
        · rcases hsb with ⟨c1, c2⟩ | c1
          · go_enter Tryd.func28, Tryd.ntmps28
            go_wp2_with (first
              | (go_at_call 51; refine (C.out _).mono ?_; rintro e w1 ⟨rfl, hb1⟩; have HB1 := Lib.hid (bthen (ball (ball (bref w) _) _) hb1); obtain ⟨m0, m1, m2, m3⟩ := mv_cells' (rowB2 hb1); have HP := Lib.hid (show PosAt w1 w.heap.size z from rowB1 hb1); have cs := HP.out.cell 97 (by rw [HZ.out]; omega); rw [HS.out] at cs; have ct := HP.out.cell tq (by rw [HZ.out]; omega); rw [HT.out] at ct; have cf := HP.out.cell fq (by rw [HZ.out]; omega); rw [HF.out] at cf)
              | (go_at_call_of 52 (Value.int .i64 x); refine (S1.out _).mono ?_; rintro e w2 ⟨rfl, rfl⟩)
              | (go_at_call 52; refine (S2.out _).mono ?_; rintro e w3 ⟨rfl, rfl⟩)
              | (go_at_call_of 12 (Value.int .i64 y); refine (K2.out _).mono ?_; rintro e w4 ⟨rfl, rfl⟩)
              | (go_at_call 12; refine (K1.out _).mono ?_; rintro e w5 ⟨rfl, rfl⟩)
              | (go_at_call 53; refine (U1.out _).mono ?_; rintro e w6 ⟨rfl, rfl⟩))
            go_ret
            exact ⟨rfl, HB1.out⟩
          · go_enter Tryd.func28, Tryd.ntmps28
            go_wp2_with (first
              | (go_at_call 51; refine (C.out _).mono ?_; rintro e w1 ⟨rfl, hb1⟩; have HB1 := Lib.hid (bthen (ball (ball (bref w) _) _) hb1); obtain ⟨m0, m1, m2, m3⟩ := mv_cells' (rowB2 hb1); have HP := Lib.hid (show PosAt w1 w.heap.size z from rowB1 hb1); have cs := HP.out.cell 97 (by rw [HZ.out]; omega); rw [HS.out] at cs; have ct := HP.out.cell tq (by rw [HZ.out]; omega); rw [HT.out] at ct; have cf := HP.out.cell fq (by rw [HZ.out]; omega); rw [HF.out] at cf)
              | (go_at_call_of 52 (Value.int .i64 x); refine (S1.out _).mono ?_; rintro e w2 ⟨rfl, rfl⟩)
              | (go_at_call 52; refine (S2.out _).mono ?_; rintro e w3 ⟨rfl, rfl⟩)
              | (go_at_call_of 12 (Value.int .i64 y); refine (K2.out _).mono ?_; rintro e w4 ⟨rfl, rfl⟩)
              | (go_at_call 12; refine (K1.out _).mono ?_; rintro e w5 ⟨rfl, rfl⟩)
              | (go_at_call 53; refine (U1.out _).mono ?_; rintro e w6 ⟨rfl, rfl⟩))
            go_ret
            exact ⟨rfl, HB1.out⟩
  · rw [if_pos (.inl h1)]
    have b1 : (sx != (sn : Int)) = true := by simpa using h1
    clear h1
    rcases hsb with ⟨c1, c2⟩ | c1
    · go_enter Tryd.func28, Tryd.ntmps28
      go_wp2_with (first
        | (go_at_call 51; refine (C.out _).mono ?_; rintro e w1 ⟨rfl, hb1⟩; have HB1 := Lib.hid (bthen (ball (ball (bref w) _) _) hb1); obtain ⟨m0, m1, m2, m3⟩ := mv_cells' (rowB2 hb1); have HP := Lib.hid (show PosAt w1 w.heap.size z from rowB1 hb1); have cs := HP.out.cell 97 (by rw [HZ.out]; omega); rw [HS.out] at cs; have ct := HP.out.cell tq (by rw [HZ.out]; omega); rw [HT.out] at ct; have cf := HP.out.cell fq (by rw [HZ.out]; omega); rw [HF.out] at cf)
        | (go_at_call_of 52 (Value.int .i64 x); refine (S1.out _).mono ?_; rintro e w2 ⟨rfl, rfl⟩)
        | (go_at_call 52; refine (S2.out _).mono ?_; rintro e w3 ⟨rfl, rfl⟩)
        | (go_at_call_of 12 (Value.int .i64 y); refine (K2.out _).mono ?_; rintro e w4 ⟨rfl, rfl⟩)
        | (go_at_call 12; refine (K1.out _).mono ?_; rintro e w5 ⟨rfl, rfl⟩)
        | (go_at_call 53; refine (U1.out _).mono ?_; rintro e w6 ⟨rfl, rfl⟩))
      go_ret
      exact ⟨rfl, HB1.out⟩
    · go_enter Tryd.func28, Tryd.ntmps28
      go_wp2_with (first
        | (go_at_call 51; refine (C.out _).mono ?_; rintro e w1 ⟨rfl, hb1⟩; have HB1 := Lib.hid (bthen (ball (ball (bref w) _) _) hb1); obtain ⟨m0, m1, m2, m3⟩ := mv_cells' (rowB2 hb1); have HP := Lib.hid (show PosAt w1 w.heap.size z from rowB1 hb1); have cs := HP.out.cell 97 (by rw [HZ.out]; omega); rw [HS.out] at cs; have ct := HP.out.cell tq (by rw [HZ.out]; omega); rw [HT.out] at ct; have cf := HP.out.cell fq (by rw [HZ.out]; omega); rw [HF.out] at cf)
        | (go_at_call_of 52 (Value.int .i64 x); refine (S1.out _).mono ?_; rintro e w2 ⟨rfl, rfl⟩)
        | (go_at_call 52; refine (S2.out _).mono ?_; rintro e w3 ⟨rfl, rfl⟩)
        | (go_at_call_of 12 (Value.int .i64 y); refine (K2.out _).mono ?_; rintro e w4 ⟨rfl, rfl⟩)
        | (go_at_call 12; refine (K1.out _).mono ?_; rintro e w5 ⟨rfl, rfl⟩)
        | (go_at_call 53; refine (U1.out _).mono ?_; rintro e w6 ⟨rfl, rfl⟩))
      go_ret
      exact ⟨rfl, HB1.out⟩
/-- The reference's Can is whether the program can. -/
theorem refCan_any (z : List Int) (f t d : Int) (p : Bool) (hz : z.length = 98) (h8 : I8s z) (w : World) :
    Calls Tryd.prog 28 #[.agg (posC z).toArray, .agg #[.int .i64 f, .int .i64 t, .int .i64 d, .bool p]] w fun e w' => e = .returned (.bool (canF z f t d p)) ∧ Below w.heap.size w w' := by
  unfold canF
  by_cases hc : checkM f t d p = 0
  · rw [if_pos hc]
    have hcc := (checkM_zero f t d p).1 hc
    by_cases h01 : at8 z 97 = 0 ∨ at8 z 97 = 1
    · rw [if_pos h01]
      obtain ⟨sn, hs, hsn⟩ : ∃ sn : Nat, at8 z 97 = sn ∧ sn < 2 := ⟨(at8 z 97).toNat, by omega, by omega⟩
      obtain ⟨tq, rfl⟩ : ∃ tq : Nat, t = tq := ⟨t.toNat, by omega⟩
      by_cases hd : d = 0
      · rw [if_pos hd]
        subst hd
        obtain ⟨fq, rfl⟩ : ∃ fq : Nat, f = fq := ⟨f.toNat, by omega⟩
        rw [hs, Int.toNat_natCast, Int.toNat_natCast]
        exact refCan_go z fq tq sn p (by omega) (by omega) hsn hs hz h8 w hc
      · rw [if_neg hd]
        obtain ⟨dn, rfl⟩ : ∃ dn : Nat, d = dn := ⟨d.toNat, by omega⟩
        obtain ⟨h1, h2⟩ := hcc
        rcases h2 with h2 | ⟨h2, h3, rfl, rfl⟩
        · exact absurd h2.1 hd
        · have e : handF z (at8 z 97) dn = at8 z (81 + sn * 8 + dn) := by
            unfold handF
            rw [if_pos (by omega), hs, Int.toNat_natCast, Int.toNat_natCast]
          rw [e, Int.toNat_natCast]
          exact refCan_drop z tq dn sn (by omega) (by omega) hsn hs hz h8 w hc
    · rw [if_neg h01]
      exact refCan_side z f t d p hz h8 w hc (fun e => h01 (.inl e)) (fun e => h01 (.inr e))
  · rw [if_neg hc]
    exact refCan_check z f t d p hz h8 w hc
end Go.Proofs.YtfemicpfkgecbaaDoor

/-
  The reference of layer 9: After.
-/
namespace Go.Proofs.YtfemicpfkgecbaaDoor
open Go.RowKit
set_option linter.unusedVariables false
set_option linter.unusedSimpArgs false

/-- The position and the move that were handed over, and the place of the result. -/
def RA (w : World) (z : List Int) (M : Array Value) (W : World) : Prop :=
  PosAt W w.heap.size z ∧ W.heap[w.heap.size + 1]? = some (.cells M 54) ∧ W.heap[w.heap.size + 2]? = some (.cells Tryd.zeroCells28 28) ∧ Below w.heap.size w W
theorem RA.start (w : World) (z : List Int) (M : Array Value) : RA w z M (((w.alloc (.cells (posC z).toArray 28)).alloc (.cells M 54)).alloc (.cells Tryd.zeroCells28 28)) := by
  refine ⟨?_, ?_, ?_, ball (ball (ball (bref w) _) _) _⟩
  · show (((w.heap.push _).push _).push _)[w.heap.size]? = _
    simp [Array.getElem?_push]
    omega
  · show (((w.heap.push _).push _).push _)[w.heap.size + 1]? = _
    rw [Array.getElem?_push, if_neg (by simp), Array.getElem?_push, if_pos (by simp)]
  · show (((w.heap.push _).push _).push _)[w.heap.size + 2]? = _
    rw [Array.getElem?_push, if_pos (by simp)]
theorem RA.set {w W : World} {z : List Int} {M : Array Value} (h : RA w z M W) (j : Nat) (v : Int) : RA w (z.set j v) M (W.setCell ⟨w.heap.size, j, none⟩ (.int .i8 v)) :=
  ⟨h.1.set j v, (heap_setCell_other _ _ _ _ (by simp)).trans h.2.1, (heap_setCell_other _ _ _ _ (by simp)).trans h.2.2.1, h.2.2.2.setCell (Nat.le_refl _) _⟩
theorem RA.drew {w W : World} {z : List Int} {M : Array Value} (h : RA w z M W) : RA w z M W.drew := ⟨h.1, h.2.1, h.2.2.1, h.2.2.2.drew⟩
theorem RA.cell {w W : World} {z : List Int} {M : Array Value} (h : RA w z M W) (j : Nat) (v : Int) (hj : j < z.length) (hv : at8 z j = v) : W.cell? ⟨w.heap.size, j, none⟩ = some (.int .i8 v) := by
  rw [h.1.cell j hj, hv]
theorem RA.frozen {w W : World} {z : List Int} {M : Array Value} (h : RA w z M W) (j : Nat) : W.frozen? ⟨w.heap.size, j, none⟩ = false := h.1.frozen j
set_option maxHeartbeats 4000000 in
theorem refAfter_drop (z : List Int) (tq dn sn : Nat) (ht : tq < 81) (hd : 1 ≤ dn ∧ dn ≤ 7) (hsn : sn < 2) (hs : at8 z 97 = sn) (hn : 0 ≤ at8 z (81 + sn * 8 + dn)) (hz : z.length = 98) (h8 : I8s z) (w : World) :
    Calls Tryd.prog 33 #[.agg (posC z).toArray, .agg #[.int .i64 0, .int .i64 tq, .int .i64 dn, .bool false]] w fun e w' => e = .returned (.agg (posC (((z.set (81 + sn * 8 + dn) (at8 z (81 + sn * 8 + dn) + -1)).set tq (16 * sn + dn)).set 97 (1 - sn))).toArray) ∧ Below w.heap.size w w' := by
  have H := Lib.hid (RA.start w z #[.int .i64 0, .int .i64 tq, .int .i64 dn, .bool false])
  have HZ := Lib.hid hz
  have HS := Lib.hid hs
  have hn8 := h8.at (81 + sn * 8 + dn)
  have HH := Lib.hid (show at8 z (81 + sn * 8 + dn) = at8 z (81 + sn * 8 + dn) from rfl)
  have bd : ((dn : Int) != 0) = true := by simp; omega
  have hws : wrap64 (sn : Int) = sn := by unfold wrap64; omega
  obtain ⟨hd1, hd7⟩ := hd
  clear hz h8 hs
  go_enter Tryd.func33, Tryd.ntmps33
  go_upto_region 1 with fail
  generalize ((w.alloc (.cells (posC z).toArray 28)).alloc (.cells #[.int .i64 0, .int .i64 tq, .int .i64 dn, .bool false] 54)).alloc (.cells Tryd.zeroCells28 28) = wa at *
  have c97 := H.out.cell 97 sn (by rw [HZ.out]; omega) HS.out
  have ch := H.out.cell (81 + sn * 8 + dn) _ (by rw [HZ.out]; omega) rfl
  have fh := H.out.frozen (81 + sn * 8 + dn)
  obtain ⟨m0, m1, m2, m3⟩ := mv_cells' H.out.2.1
  generalize hnn : at8 z (81 + sn * 8 + dn) = n at *
  have hn1 : n - 1 = n + -1 := by omega
  go_wp2_with fail
  go_region
  have H1 := Lib.hid (H.out.set (81 + sn * 8 + dn) (n + -1)).drew
  clear c97 ch fh m0 m1 m2 m3
  generalize (wa.setCell ⟨w.heap.size, 81 + sn * 8 + dn, none⟩ (.int .i8 (n + -1))).drew = wb at *
  obtain ⟨m0, m1, m2, m3⟩ := mv_cells' H1.out.2.1
  have ct := H1.out.cell tq _ (by rw [List.length_set, HZ.out]; omega) rfl
  have ft := H1.out.frozen tq
  have y0 : 0 ≤ 16 * (sn : Int) + dn := by omega
  have y1 : 16 * (sn : Int) + dn ≤ 127 := by omega
  go_upto_region 12 with fail
  have H2 := Lib.hid (H1.out.set tq (16 * (sn : Int) + dn))
  clear ct ft m0 m1 m2 m3
  generalize wb.setCell ⟨w.heap.size, tq, none⟩ (.int .i8 (16 * (sn : Int) + dn)) = wd at *
  have c97 := H2.out.cell 97 sn (by rw [List.length_set, List.length_set, HZ.out]; omega) (by
    rw [at8_set _ _ _ _ (by rw [List.length_set, HZ.out]; omega), if_neg (by omega), at8_set _ _ _ _ (by rw [HZ.out]; omega), if_neg (by omega), HS.out])
  have f97 := H2.out.frozen 97
  go_upto_region 13 with fail
  have HF := Lib.hid (H2.out.set 97 (1 - (sn : Int)))
  have HZF := Lib.hid (show ((((z.set (81 + sn * 8 + dn) (n + -1)).set tq (16 * (sn : Int) + dn)).set 97 (1 - (sn : Int))).length = 98) by rw [List.length_set, List.length_set, List.length_set, HZ.out])
  generalize wd.setCell ⟨w.heap.size, 97, none⟩ (.int .i8 (1 - (sn : Int))) = we at *
  have HNN := Lib.hid hnn
  clear c97 f97 hnn
  generalize ez : ((z.set (81 + sn * 8 + dn) (n + -1)).set tq (16 * (sn : Int) + dn)).set 97 (1 - (sn : Int)) = zf at *
  have EZ := Lib.hid (show ((z.set (81 + sn * 8 + dn) (at8 z (81 + sn * 8 + dn) + -1)).set tq (16 * (sn : Int) + dn)).set 97 (1 - (sn : Int)) = zf by rw [HNN.out]; exact ez)
  clear ez
  have HINF := Lib.hid (show (Tryd.prog.info? 28).map (·.size) = some (posC zf).length by rw [posC_len, HZF.out]; exact infoPos)
  have HSS := Lib.hid (show Tryd.zeroCells28.size = (posC zf).toArray.size from zeroPos_size.trans (by rw [List.size_toArray, posC_len, HZF.out]))
  go_wp2_with (first
    | (refine wpList_load_mid rfl 28 _ rfl w.heap.size 0 rfl (posC zf) _ HF.out.1.range Tryd.underlying28 rfl HINF.out ?_)
    | (refine wpList_store_row rfl 28 _ _ rfl (w.heap.size + 2) (posC zf).toArray rfl rfl 28 Tryd.zeroCells28 HF.out.2.2.1 (by rw [List.size_toArray]; exact HINF.out) HSS.out (posC_one zf) ?_))
  refine bodyPost_ret (results_cell_row rfl _ _ (w.heap.size + 2) 28 (posC zf).toArray (0, 0) _ rfl (setRow_heap _ _ _ _ _ _ HF.out.2.2.1) Tryd.underlying28 rfl (by rw [List.size_toArray]; exact HINF.out)) rfl ?_
  exact ⟨by rw [EZ.out], below_row HF.out.2.2.2 (by omega) _⟩
end Go.Proofs.YtfemicpfkgecbaaDoor

/-
  The reference of layer 9: After, of moves on the board.
-/
namespace Go.Proofs.YtfemicpfkgecbaaDoor
open Go.RowKit
set_option linter.unusedVariables false
set_option linter.unusedSimpArgs false

set_option maxHeartbeats 4000000 in
theorem refAfter_k0 (z : List Int) (fq tq sn : Nat) (x : Int) (hf : fq < 81) (ht : tq < 81) (hft : fq ≠ tq) (hsn : sn < 2) (hs : at8 z 97 = sn) (hx : at8 z fq = x) (hk0 : rawF (kindF (at8 z tq)) = 0) (hz : z.length = 98) (h8 : I8s z) (w : World) :
    Calls Tryd.prog 33 #[.agg (posC z).toArray, .agg #[.int .i64 fq, .int .i64 tq, .int .i64 0, .bool false]] w fun e w' => e = .returned (.agg (posC ((((z).set (tq) (x)).set (fq) (0)).set (97) (1 - (sn : Int)))).toArray) ∧ Below w.heap.size w w' := by
  have H0 := Lib.hid (RA.start w z #[.int .i64 fq, .int .i64 tq, .int .i64 0, .bool false])
  have HZ := Lib.hid hz
  have HS := Lib.hid hs
  have HX := Lib.hid hx
  have hy8 := h8.at tq
  have hx0 := h8.at fq
  rw [hx] at hx0
  have K := Lib.hid (fun W => refKind_any (at8 z tq) W hy8.1 hy8.2)
  have hkl := kindF_le (at8 z tq)
  have R := Lib.hid (fun W => refRaw_any (kindF (at8 z tq)) W (by omega))
  rw [hk0] at R
  have hws : wrap64 (sn : Int) = sn := by unfold wrap64; omega
  generalize hyy : at8 z tq = y at *
  have HY := Lib.hid hyy
  have hwy : wrap64 y = y := by unfold wrap64; omega
  clear hz h8 hs hx hyy hk0 hkl
  generalize kindF y = ky at *
  go_enter Tryd.func33, Tryd.ntmps33
  go_upto_region 1 with fail
  generalize ((w.alloc (.cells (posC z).toArray 28)).alloc (.cells #[.int .i64 fq, .int .i64 tq, .int .i64 0, .bool false] 54)).alloc (.cells Tryd.zeroCells28 28) = w0 at *
  obtain ⟨m0, m1, m2, m3⟩ := mv_cells' H0.out.2.1
  have c97 := H0.out.cell (97) ((sn : Int)) (by simp only [List.length_set, HZ.out]; omega) (by exact HS.out)
  have ct := H0.out.cell (tq) (y) (by simp only [List.length_set, HZ.out]; omega) (by exact HY.out)
  have ctf := H0.out.frozen (tq)
  have cf := H0.out.cell (fq) (x) (by simp only [List.length_set, HZ.out]; omega) (by exact HX.out)
  go_wp2_with (first | (go_at_call 12; refine (K.out _).mono ?_; rintro e wk ⟨rfl, rfl⟩) | (go_at_call 61; refine (R.out _).mono ?_; rintro e wr ⟨rfl, rfl⟩))
  go_region
  have H1 := Lib.hid (H0.out.set (tq) (x)).drew
  clear m0 m1 m2 m3 c97 ct ctf cf
  generalize (w0.setCell ⟨w.heap.size, tq, none⟩ (.int .i8 x)).drew = w1 at *
  obtain ⟨m0, m1, m2, m3⟩ := mv_cells' H1.out.2.1
  have cf := H1.out.cell (fq) (x) (by simp only [List.length_set, HZ.out]; omega) (by rw [at8_set _ _ _ _ (by simp only [List.length_set, HZ.out]; omega), if_neg (by omega)]; exact HX.out)
  have cff := H1.out.frozen (fq)
  go_upto_region 12 with fail
  have H2 := Lib.hid (H1.out.set (fq) (0))
  clear m0 m1 m2 m3 cf cff
  generalize w1.setCell ⟨w.heap.size, fq, none⟩ (.int .i8 0) = w2 at *
  obtain ⟨m0, m1, m2, m3⟩ := mv_cells' H2.out.2.1
  have c97 := H2.out.cell (97) ((sn : Int)) (by simp only [List.length_set, HZ.out]; omega) (by rw [at8_set _ _ _ _ (by simp only [List.length_set, HZ.out]; omega), if_neg (by omega)]; rw [at8_set _ _ _ _ (by simp only [List.length_set, HZ.out]; omega), if_neg (by omega)]; exact HS.out)
  have c97f := H2.out.frozen (97)
  go_upto_region 13 with fail
  have H3 := Lib.hid (H2.out.set (97) (1 - (sn : Int)))
  clear m0 m1 m2 m3 c97 c97f
  generalize w2.setCell ⟨w.heap.size, 97, none⟩ (.int .i8 (1 - (sn : Int))) = w3 at *
  have HF := H3
  have HZF := Lib.hid (show ((((z).set (tq) (x)).set (fq) (0)).set (97) (1 - (sn : Int))).length = 98 by simp only [List.length_set, HZ.out])
  generalize ez : (((z).set (tq) (x)).set (fq) (0)).set (97) (1 - (sn : Int)) = zf at *
  have EZ := Lib.hid ez
  clear ez
  have HINF := Lib.hid (show (Tryd.prog.info? 28).map (·.size) = some (posC zf).length by rw [posC_len, HZF.out]; exact infoPos)
  have HSS := Lib.hid (show Tryd.zeroCells28.size = (posC zf).toArray.size from zeroPos_size.trans (by rw [List.size_toArray, posC_len, HZF.out]))
  go_wp2_with (first
    | (refine wpList_load_mid rfl 28 _ rfl w.heap.size 0 rfl (posC zf) _ HF.out.1.range Tryd.underlying28 rfl HINF.out ?_)
    | (refine wpList_store_row rfl 28 _ _ rfl (w.heap.size + 2) (posC zf).toArray rfl rfl 28 Tryd.zeroCells28 HF.out.2.2.1 (by rw [List.size_toArray]; exact HINF.out) HSS.out (posC_one zf) ?_))
  refine bodyPost_ret (results_cell_row rfl _ _ (w.heap.size + 2) 28 (posC zf).toArray (0, 0) _ rfl (setRow_heap _ _ _ _ _ _ HF.out.2.2.1) Tryd.underlying28 rfl (by rw [List.size_toArray]; exact HINF.out)) rfl ?_
  exact ⟨by rw [EZ.out], below_row HF.out.2.2.2 (by omega) _⟩
set_option maxHeartbeats 4000000 in
theorem refAfter_k0p (z : List Int) (fq tq sn : Nat) (x : Int) (hf : fq < 81) (ht : tq < 81) (hft : fq ≠ tq) (hsn : sn < 2) (hs : at8 z 97 = sn) (hx : at8 z fq = x) (hk0 : rawF (kindF (at8 z tq)) = 0) (hx8 : x ≤ 119) (hz : z.length = 98) (h8 : I8s z) (w : World) :
    Calls Tryd.prog 33 #[.agg (posC z).toArray, .agg #[.int .i64 fq, .int .i64 tq, .int .i64 0, .bool true]] w fun e w' => e = .returned (.agg (posC (((((z).set (tq) (x)).set (tq) (x + 8)).set (fq) (0)).set (97) (1 - (sn : Int)))).toArray) ∧ Below w.heap.size w w' := by
  have H0 := Lib.hid (RA.start w z #[.int .i64 fq, .int .i64 tq, .int .i64 0, .bool true])
  have HZ := Lib.hid hz
  have HS := Lib.hid hs
  have HX := Lib.hid hx
  have hy8 := h8.at tq
  have hx0 := h8.at fq
  rw [hx] at hx0
  have K := Lib.hid (fun W => refKind_any (at8 z tq) W hy8.1 hy8.2)
  have hkl := kindF_le (at8 z tq)
  have R := Lib.hid (fun W => refRaw_any (kindF (at8 z tq)) W (by omega))
  rw [hk0] at R
  have hws : wrap64 (sn : Int) = sn := by unfold wrap64; omega
  generalize hyy : at8 z tq = y at *
  have HY := Lib.hid hyy
  have hwy : wrap64 y = y := by unfold wrap64; omega
  clear hz h8 hs hx hyy hk0 hkl
  generalize kindF y = ky at *
  go_enter Tryd.func33, Tryd.ntmps33
  go_upto_region 1 with fail
  generalize ((w.alloc (.cells (posC z).toArray 28)).alloc (.cells #[.int .i64 fq, .int .i64 tq, .int .i64 0, .bool true] 54)).alloc (.cells Tryd.zeroCells28 28) = w0 at *
  obtain ⟨m0, m1, m2, m3⟩ := mv_cells' H0.out.2.1
  have c97 := H0.out.cell (97) ((sn : Int)) (by simp only [List.length_set, HZ.out]; omega) (by exact HS.out)
  have ct := H0.out.cell (tq) (y) (by simp only [List.length_set, HZ.out]; omega) (by exact HY.out)
  have ctf := H0.out.frozen (tq)
  have cf := H0.out.cell (fq) (x) (by simp only [List.length_set, HZ.out]; omega) (by exact HX.out)
  go_wp2_with (first | (go_at_call 12; refine (K.out _).mono ?_; rintro e wk ⟨rfl, rfl⟩) | (go_at_call 61; refine (R.out _).mono ?_; rintro e wr ⟨rfl, rfl⟩))
  go_region
  have H1 := Lib.hid (H0.out.set (tq) (x)).drew
  clear m0 m1 m2 m3 c97 ct ctf cf
  generalize (w0.setCell ⟨w.heap.size, tq, none⟩ (.int .i8 x)).drew = w1 at *
  obtain ⟨m0, m1, m2, m3⟩ := mv_cells' H1.out.2.1
  have ct := H1.out.cell (tq) (x) (by simp only [List.length_set, HZ.out]; omega) (by rw [at8_set _ _ _ _ (by simp only [List.length_set, HZ.out]; omega), if_pos rfl])
  have ctf := H1.out.frozen (tq)
  go_upto_region 11 with fail
  have H2 := Lib.hid (H1.out.set (tq) (x + 8))
  clear m0 m1 m2 m3 ct ctf
  generalize w1.setCell ⟨w.heap.size, tq, none⟩ (.int .i8 (x + 8)) = w2 at *
  obtain ⟨m0, m1, m2, m3⟩ := mv_cells' H2.out.2.1
  have cf := H2.out.cell (fq) (x) (by simp only [List.length_set, HZ.out]; omega) (by rw [at8_set _ _ _ _ (by simp only [List.length_set, HZ.out]; omega), if_neg (by omega)]; rw [at8_set _ _ _ _ (by simp only [List.length_set, HZ.out]; omega), if_neg (by omega)]; exact HX.out)
  have cff := H2.out.frozen (fq)
  go_upto_region 12 with fail
  have H3 := Lib.hid (H2.out.set (fq) (0))
  clear m0 m1 m2 m3 cf cff
  generalize w2.setCell ⟨w.heap.size, fq, none⟩ (.int .i8 0) = w3 at *
  obtain ⟨m0, m1, m2, m3⟩ := mv_cells' H3.out.2.1
  have c97 := H3.out.cell (97) ((sn : Int)) (by simp only [List.length_set, HZ.out]; omega) (by rw [at8_set _ _ _ _ (by simp only [List.length_set, HZ.out]; omega), if_neg (by omega)]; rw [at8_set _ _ _ _ (by simp only [List.length_set, HZ.out]; omega), if_neg (by omega)]; rw [at8_set _ _ _ _ (by simp only [List.length_set, HZ.out]; omega), if_neg (by omega)]; exact HS.out)
  have c97f := H3.out.frozen (97)
  go_upto_region 13 with fail
  have H4 := Lib.hid (H3.out.set (97) (1 - (sn : Int)))
  clear m0 m1 m2 m3 c97 c97f
  generalize w3.setCell ⟨w.heap.size, 97, none⟩ (.int .i8 (1 - (sn : Int))) = w4 at *
  have HF := H4
  have HZF := Lib.hid (show (((((z).set (tq) (x)).set (tq) (x + 8)).set (fq) (0)).set (97) (1 - (sn : Int))).length = 98 by simp only [List.length_set, HZ.out])
  generalize ez : ((((z).set (tq) (x)).set (tq) (x + 8)).set (fq) (0)).set (97) (1 - (sn : Int)) = zf at *
  have EZ := Lib.hid ez
  clear ez
  have HINF := Lib.hid (show (Tryd.prog.info? 28).map (·.size) = some (posC zf).length by rw [posC_len, HZF.out]; exact infoPos)
  have HSS := Lib.hid (show Tryd.zeroCells28.size = (posC zf).toArray.size from zeroPos_size.trans (by rw [List.size_toArray, posC_len, HZF.out]))
  go_wp2_with (first
    | (refine wpList_load_mid rfl 28 _ rfl w.heap.size 0 rfl (posC zf) _ HF.out.1.range Tryd.underlying28 rfl HINF.out ?_)
    | (refine wpList_store_row rfl 28 _ _ rfl (w.heap.size + 2) (posC zf).toArray rfl rfl 28 Tryd.zeroCells28 HF.out.2.2.1 (by rw [List.size_toArray]; exact HINF.out) HSS.out (posC_one zf) ?_))
  refine bodyPost_ret (results_cell_row rfl _ _ (w.heap.size + 2) 28 (posC zf).toArray (0, 0) _ rfl (setRow_heap _ _ _ _ _ _ HF.out.2.2.1) Tryd.underlying28 rfl (by rw [List.size_toArray]; exact HINF.out)) rfl ?_
  exact ⟨by rw [EZ.out], below_row HF.out.2.2.2 (by omega) _⟩
set_option maxHeartbeats 4000000 in
theorem refAfter_k (z : List Int) (fq tq sn k : Nat) (x n : Int) (hf : fq < 81) (ht : tq < 81) (hft : fq ≠ tq) (hsn : sn < 2) (hs : at8 z 97 = sn) (hx : at8 z fq = x) (hk : 1 ≤ k ∧ k ≤ 7) (hn : at8 z (81 + sn * 8 + k) = n) (hn1 : n ≤ 126) (hk0 : rawF (kindF (at8 z tq)) = (k : Int)) (hz : z.length = 98) (h8 : I8s z) (w : World) :
    Calls Tryd.prog 33 #[.agg (posC z).toArray, .agg #[.int .i64 fq, .int .i64 tq, .int .i64 0, .bool false]] w fun e w' => e = .returned (.agg (posC (((((z).set (81 + sn * 8 + k) (n + 1)).set (tq) (x)).set (fq) (0)).set (97) (1 - (sn : Int)))).toArray) ∧ Below w.heap.size w w' := by
  have H0 := Lib.hid (RA.start w z #[.int .i64 fq, .int .i64 tq, .int .i64 0, .bool false])
  have HZ := Lib.hid hz
  have HS := Lib.hid hs
  have HX := Lib.hid hx
  have hy8 := h8.at tq
  have hx0 := h8.at fq
  rw [hx] at hx0
  have hn8 := h8.at (81 + sn * 8 + k)
  rw [hn] at hn8
  have HN := Lib.hid hn
  obtain ⟨hk1, hk7⟩ := hk
  have bk : ((k : Int) != 0) = true := by simp; omega
  have K := Lib.hid (fun W => refKind_any (at8 z tq) W hy8.1 hy8.2)
  have hkl := kindF_le (at8 z tq)
  have R := Lib.hid (fun W => refRaw_any (kindF (at8 z tq)) W (by omega))
  rw [hk0] at R
  have hws : wrap64 (sn : Int) = sn := by unfold wrap64; omega
  generalize hyy : at8 z tq = y at *
  have HY := Lib.hid hyy
  have hwy : wrap64 y = y := by unfold wrap64; omega
  clear hz h8 hs hx hyy hk0 hkl hn
  generalize kindF y = ky at *
  go_enter Tryd.func33, Tryd.ntmps33
  go_upto_region 1 with fail
  generalize ((w.alloc (.cells (posC z).toArray 28)).alloc (.cells #[.int .i64 fq, .int .i64 tq, .int .i64 0, .bool false] 54)).alloc (.cells Tryd.zeroCells28 28) = w0 at *
  obtain ⟨m0, m1, m2, m3⟩ := mv_cells' H0.out.2.1
  have c97 := H0.out.cell (97) ((sn : Int)) (by simp only [List.length_set, HZ.out]; omega) (by exact HS.out)
  have ct := H0.out.cell (tq) (y) (by simp only [List.length_set, HZ.out]; omega) (by exact HY.out)
  have ctf := H0.out.frozen (tq)
  have cf := H0.out.cell (fq) (x) (by simp only [List.length_set, HZ.out]; omega) (by exact HX.out)
  have ch := H0.out.cell (81 + sn * 8 + k) (n) (by simp only [List.length_set, HZ.out]; omega) (by exact HN.out)
  have chf := H0.out.frozen (81 + sn * 8 + k)
  go_wp2_with (first | (go_at_call 12; refine (K.out _).mono ?_; rintro e wk ⟨rfl, rfl⟩) | (go_at_call 61; refine (R.out _).mono ?_; rintro e wr ⟨rfl, rfl⟩))
  go_region
  have H1 := Lib.hid (H0.out.set (81 + sn * 8 + k) (n + 1)).drew
  clear m0 m1 m2 m3 c97 ct ctf cf ch chf
  generalize (w0.setCell ⟨w.heap.size, 81 + sn * 8 + k, none⟩ (.int .i8 (n + 1))).drew = w1 at *
  obtain ⟨m0, m1, m2, m3⟩ := mv_cells' H1.out.2.1
  have cf := H1.out.cell (fq) (x) (by simp only [List.length_set, HZ.out]; omega) (by rw [at8_set _ _ _ _ (by simp only [List.length_set, HZ.out]; omega), if_neg (by omega)]; exact HX.out)
  have ct := H1.out.cell (tq) (y) (by simp only [List.length_set, HZ.out]; omega) (by rw [at8_set _ _ _ _ (by simp only [List.length_set, HZ.out]; omega), if_neg (by omega)]; exact HY.out)
  have ctf := H1.out.frozen (tq)
  go_wp2_with fail
  go_region
  have H2 := Lib.hid (H1.out.set (tq) (x)).drew
  clear m0 m1 m2 m3 cf ct ctf
  generalize (w1.setCell ⟨w.heap.size, tq, none⟩ (.int .i8 x)).drew = w2 at *
  obtain ⟨m0, m1, m2, m3⟩ := mv_cells' H2.out.2.1
  have cf := H2.out.cell (fq) (x) (by simp only [List.length_set, HZ.out]; omega) (by rw [at8_set _ _ _ _ (by simp only [List.length_set, HZ.out]; omega), if_neg (by omega)]; rw [at8_set _ _ _ _ (by simp only [List.length_set, HZ.out]; omega), if_neg (by omega)]; exact HX.out)
  have cff := H2.out.frozen (fq)
  go_upto_region 12 with fail
  have H3 := Lib.hid (H2.out.set (fq) (0))
  clear m0 m1 m2 m3 cf cff
  generalize w2.setCell ⟨w.heap.size, fq, none⟩ (.int .i8 0) = w3 at *
  obtain ⟨m0, m1, m2, m3⟩ := mv_cells' H3.out.2.1
  have c97 := H3.out.cell (97) ((sn : Int)) (by simp only [List.length_set, HZ.out]; omega) (by rw [at8_set _ _ _ _ (by simp only [List.length_set, HZ.out]; omega), if_neg (by omega)]; rw [at8_set _ _ _ _ (by simp only [List.length_set, HZ.out]; omega), if_neg (by omega)]; rw [at8_set _ _ _ _ (by simp only [List.length_set, HZ.out]; omega), if_neg (by omega)]; exact HS.out)
  have c97f := H3.out.frozen (97)
  go_upto_region 13 with fail
  have H4 := Lib.hid (H3.out.set (97) (1 - (sn : Int)))
  clear m0 m1 m2 m3 c97 c97f
  generalize w3.setCell ⟨w.heap.size, 97, none⟩ (.int .i8 (1 - (sn : Int))) = w4 at *
  have HF := H4
  have HZF := Lib.hid (show (((((z).set (81 + sn * 8 + k) (n + 1)).set (tq) (x)).set (fq) (0)).set (97) (1 - (sn : Int))).length = 98 by simp only [List.length_set, HZ.out])
  generalize ez : ((((z).set (81 + sn * 8 + k) (n + 1)).set (tq) (x)).set (fq) (0)).set (97) (1 - (sn : Int)) = zf at *
  have EZ := Lib.hid ez
  clear ez
  have HINF := Lib.hid (show (Tryd.prog.info? 28).map (·.size) = some (posC zf).length by rw [posC_len, HZF.out]; exact infoPos)
  have HSS := Lib.hid (show Tryd.zeroCells28.size = (posC zf).toArray.size from zeroPos_size.trans (by rw [List.size_toArray, posC_len, HZF.out]))
  go_wp2_with (first
    | (refine wpList_load_mid rfl 28 _ rfl w.heap.size 0 rfl (posC zf) _ HF.out.1.range Tryd.underlying28 rfl HINF.out ?_)
    | (refine wpList_store_row rfl 28 _ _ rfl (w.heap.size + 2) (posC zf).toArray rfl rfl 28 Tryd.zeroCells28 HF.out.2.2.1 (by rw [List.size_toArray]; exact HINF.out) HSS.out (posC_one zf) ?_))
  refine bodyPost_ret (results_cell_row rfl _ _ (w.heap.size + 2) 28 (posC zf).toArray (0, 0) _ rfl (setRow_heap _ _ _ _ _ _ HF.out.2.2.1) Tryd.underlying28 rfl (by rw [List.size_toArray]; exact HINF.out)) rfl ?_
  exact ⟨by rw [EZ.out], below_row HF.out.2.2.2 (by omega) _⟩
set_option maxHeartbeats 4000000 in
theorem refAfter_kp (z : List Int) (fq tq sn k : Nat) (x n : Int) (hf : fq < 81) (ht : tq < 81) (hft : fq ≠ tq) (hsn : sn < 2) (hs : at8 z 97 = sn) (hx : at8 z fq = x) (hk : 1 ≤ k ∧ k ≤ 7) (hn : at8 z (81 + sn * 8 + k) = n) (hn1 : n ≤ 126) (hk0 : rawF (kindF (at8 z tq)) = (k : Int)) (hx8 : x ≤ 119) (hz : z.length = 98) (h8 : I8s z) (w : World) :
    Calls Tryd.prog 33 #[.agg (posC z).toArray, .agg #[.int .i64 fq, .int .i64 tq, .int .i64 0, .bool true]] w fun e w' => e = .returned (.agg (posC ((((((z).set (81 + sn * 8 + k) (n + 1)).set (tq) (x)).set (tq) (x + 8)).set (fq) (0)).set (97) (1 - (sn : Int)))).toArray) ∧ Below w.heap.size w w' := by
  have H0 := Lib.hid (RA.start w z #[.int .i64 fq, .int .i64 tq, .int .i64 0, .bool true])
  have HZ := Lib.hid hz
  have HS := Lib.hid hs
  have HX := Lib.hid hx
  have hy8 := h8.at tq
  have hx0 := h8.at fq
  rw [hx] at hx0
  have hn8 := h8.at (81 + sn * 8 + k)
  rw [hn] at hn8
  have HN := Lib.hid hn
  obtain ⟨hk1, hk7⟩ := hk
  have bk : ((k : Int) != 0) = true := by simp; omega
  have K := Lib.hid (fun W => refKind_any (at8 z tq) W hy8.1 hy8.2)
  have hkl := kindF_le (at8 z tq)
  have R := Lib.hid (fun W => refRaw_any (kindF (at8 z tq)) W (by omega))
  rw [hk0] at R
  have hws : wrap64 (sn : Int) = sn := by unfold wrap64; omega
  generalize hyy : at8 z tq = y at *
  have HY := Lib.hid hyy
  have hwy : wrap64 y = y := by unfold wrap64; omega
  clear hz h8 hs hx hyy hk0 hkl hn
  generalize kindF y = ky at *
  go_enter Tryd.func33, Tryd.ntmps33
  go_upto_region 1 with fail
  generalize ((w.alloc (.cells (posC z).toArray 28)).alloc (.cells #[.int .i64 fq, .int .i64 tq, .int .i64 0, .bool true] 54)).alloc (.cells Tryd.zeroCells28 28) = w0 at *
  obtain ⟨m0, m1, m2, m3⟩ := mv_cells' H0.out.2.1
  have c97 := H0.out.cell (97) ((sn : Int)) (by simp only [List.length_set, HZ.out]; omega) (by exact HS.out)
  have ct := H0.out.cell (tq) (y) (by simp only [List.length_set, HZ.out]; omega) (by exact HY.out)
  have ctf := H0.out.frozen (tq)
  have cf := H0.out.cell (fq) (x) (by simp only [List.length_set, HZ.out]; omega) (by exact HX.out)
  have ch := H0.out.cell (81 + sn * 8 + k) (n) (by simp only [List.length_set, HZ.out]; omega) (by exact HN.out)
  have chf := H0.out.frozen (81 + sn * 8 + k)
  go_wp2_with (first | (go_at_call 12; refine (K.out _).mono ?_; rintro e wk ⟨rfl, rfl⟩) | (go_at_call 61; refine (R.out _).mono ?_; rintro e wr ⟨rfl, rfl⟩))
  go_region
  have H1 := Lib.hid (H0.out.set (81 + sn * 8 + k) (n + 1)).drew
  clear m0 m1 m2 m3 c97 ct ctf cf ch chf
  generalize (w0.setCell ⟨w.heap.size, 81 + sn * 8 + k, none⟩ (.int .i8 (n + 1))).drew = w1 at *
  obtain ⟨m0, m1, m2, m3⟩ := mv_cells' H1.out.2.1
  have cf := H1.out.cell (fq) (x) (by simp only [List.length_set, HZ.out]; omega) (by rw [at8_set _ _ _ _ (by simp only [List.length_set, HZ.out]; omega), if_neg (by omega)]; exact HX.out)
  have ct := H1.out.cell (tq) (y) (by simp only [List.length_set, HZ.out]; omega) (by rw [at8_set _ _ _ _ (by simp only [List.length_set, HZ.out]; omega), if_neg (by omega)]; exact HY.out)
  have ctf := H1.out.frozen (tq)
  go_wp2_with fail
  go_region
  have H2 := Lib.hid (H1.out.set (tq) (x)).drew
  clear m0 m1 m2 m3 cf ct ctf
  generalize (w1.setCell ⟨w.heap.size, tq, none⟩ (.int .i8 x)).drew = w2 at *
  obtain ⟨m0, m1, m2, m3⟩ := mv_cells' H2.out.2.1
  have ct := H2.out.cell (tq) (x) (by simp only [List.length_set, HZ.out]; omega) (by rw [at8_set _ _ _ _ (by simp only [List.length_set, HZ.out]; omega), if_pos rfl])
  have ctf := H2.out.frozen (tq)
  go_upto_region 11 with fail
  have H3 := Lib.hid (H2.out.set (tq) (x + 8))
  clear m0 m1 m2 m3 ct ctf
  generalize w2.setCell ⟨w.heap.size, tq, none⟩ (.int .i8 (x + 8)) = w3 at *
  obtain ⟨m0, m1, m2, m3⟩ := mv_cells' H3.out.2.1
  have cf := H3.out.cell (fq) (x) (by simp only [List.length_set, HZ.out]; omega) (by rw [at8_set _ _ _ _ (by simp only [List.length_set, HZ.out]; omega), if_neg (by omega)]; rw [at8_set _ _ _ _ (by simp only [List.length_set, HZ.out]; omega), if_neg (by omega)]; rw [at8_set _ _ _ _ (by simp only [List.length_set, HZ.out]; omega), if_neg (by omega)]; exact HX.out)
  have cff := H3.out.frozen (fq)
  go_upto_region 12 with fail
  have H4 := Lib.hid (H3.out.set (fq) (0))
  clear m0 m1 m2 m3 cf cff
  generalize w3.setCell ⟨w.heap.size, fq, none⟩ (.int .i8 0) = w4 at *
  obtain ⟨m0, m1, m2, m3⟩ := mv_cells' H4.out.2.1
  have c97 := H4.out.cell (97) ((sn : Int)) (by simp only [List.length_set, HZ.out]; omega) (by rw [at8_set _ _ _ _ (by simp only [List.length_set, HZ.out]; omega), if_neg (by omega)]; rw [at8_set _ _ _ _ (by simp only [List.length_set, HZ.out]; omega), if_neg (by omega)]; rw [at8_set _ _ _ _ (by simp only [List.length_set, HZ.out]; omega), if_neg (by omega)]; rw [at8_set _ _ _ _ (by simp only [List.length_set, HZ.out]; omega), if_neg (by omega)]; exact HS.out)
  have c97f := H4.out.frozen (97)
  go_upto_region 13 with fail
  have H5 := Lib.hid (H4.out.set (97) (1 - (sn : Int)))
  clear m0 m1 m2 m3 c97 c97f
  generalize w4.setCell ⟨w.heap.size, 97, none⟩ (.int .i8 (1 - (sn : Int))) = w5 at *
  have HF := H5
  have HZF := Lib.hid (show ((((((z).set (81 + sn * 8 + k) (n + 1)).set (tq) (x)).set (tq) (x + 8)).set (fq) (0)).set (97) (1 - (sn : Int))).length = 98 by simp only [List.length_set, HZ.out])
  generalize ez : (((((z).set (81 + sn * 8 + k) (n + 1)).set (tq) (x)).set (tq) (x + 8)).set (fq) (0)).set (97) (1 - (sn : Int)) = zf at *
  have EZ := Lib.hid ez
  clear ez
  have HINF := Lib.hid (show (Tryd.prog.info? 28).map (·.size) = some (posC zf).length by rw [posC_len, HZF.out]; exact infoPos)
  have HSS := Lib.hid (show Tryd.zeroCells28.size = (posC zf).toArray.size from zeroPos_size.trans (by rw [List.size_toArray, posC_len, HZF.out]))
  go_wp2_with (first
    | (refine wpList_load_mid rfl 28 _ rfl w.heap.size 0 rfl (posC zf) _ HF.out.1.range Tryd.underlying28 rfl HINF.out ?_)
    | (refine wpList_store_row rfl 28 _ _ rfl (w.heap.size + 2) (posC zf).toArray rfl rfl 28 Tryd.zeroCells28 HF.out.2.2.1 (by rw [List.size_toArray]; exact HINF.out) HSS.out (posC_one zf) ?_))
  refine bodyPost_ret (results_cell_row rfl _ _ (w.heap.size + 2) 28 (posC zf).toArray (0, 0) _ rfl (setRow_heap _ _ _ _ _ _ HF.out.2.2.1) Tryd.underlying28 rfl (by rw [List.size_toArray]; exact HINF.out)) rfl ?_
  exact ⟨by rw [EZ.out], below_row HF.out.2.2.2 (by omega) _⟩
end Go.Proofs.YtfemicpfkgecbaaDoor

/-
  The reference of layer 9: After is the position behind the move.
-/
namespace Go.Proofs.YtfemicpfkgecbaaDoor
open Go.RowKit
set_option linter.unusedVariables false
set_option linter.unusedSimpArgs false

theorem of_all : ∀ s : Nat, s < 2 → ∀ d : Nat, d < 8 → 1 ≤ d → ofF s d = 16 * s + d ∧ kindF (ofF s d) ≠ 0 := by decide +kernel
theorem up_all : ∀ n : Nat, n < 32 → upF (kindF n) ≠ 0 → ofF (sideF n) (upF (kindF n)) = n + 8 ∧ kindF ((n : Int) + 8) ≠ 0 := by decide +kernel
theorem refAfter_any (z : List Int) (f t d : Int) (p : Bool) (hz : z.length = 98) (h8 : I8s z) (hh : ∀ j, 81 ≤ j → j < 97 → 0 ≤ at8 z j ∧ at8 z j ≤ 126) (hcan : canF z f t d p = true) (w : World) :
    Calls Tryd.prog 33 #[.agg (posC z).toArray, .agg #[.int .i64 f, .int .i64 t, .int .i64 d, .bool p]] w fun e w' => e = .returned (.agg (posC (afterZ z f t d p)).toArray) ∧ Below w.heap.size w w' := by
  obtain ⟨hck, hs, hm⟩ := canF_true hcan
  have hcc := (checkM_zero f t d p).1 hck
  obtain ⟨s, hsz, hs2⟩ : ∃ s : Nat, at8 z 97 = s ∧ s < 2 := ⟨(at8 z 97).toNat, by omega, by omega⟩
  unfold afterZ midZ
  rw [hsz, Int.toNat_natCast]
  rcases hm with ⟨rfl, hg⟩ | ⟨hd, hn, h0⟩
  · obtain ⟨hf, ht, hft⟩ : (0 ≤ f ∧ f < 81) ∧ (0 ≤ t ∧ t < 81) ∧ f ≠ t := by omega
    obtain ⟨fq, rfl⟩ : ∃ i : Nat, f = i := ⟨f.toNat, by omega⟩
    obtain ⟨tq, rfl⟩ : ∃ j : Nat, t = j := ⟨t.toNat, by omega⟩
    rw [if_pos rfl, Int.toNat_natCast, Int.toNat_natCast]
    obtain ⟨g1, g2, g3, g4⟩ := goB_true hg
    rw [Int.toNat_natCast] at g1 g2 g3 g4
    rw [hsz] at g1
    have hks := kind_side (at8 z fq)
    obtain ⟨xn, hxn, hx1, hx2⟩ : ∃ xn : Nat, at8 z fq = xn ∧ 1 ≤ xn ∧ xn < 32 := ⟨(at8 z fq).toNat, by omega, by omega, by omega⟩
    have hkx : kindF (at8 z fq) ≠ 0 := by omega
    have hne : fq ≠ tq := by omega
    have hk := kindF_le (at8 z tq)
    have hr := rawF_cases (kindF (at8 z tq))
    have e1 : putZ (putZ (takeZ z s (at8 z tq)) fq 0) tq (behF (at8 z fq) p) = ((takeZ z s (at8 z tq)).set fq 0).set tq (behF (at8 z fq) p) := by
      rw [putZ_at _ fq _ (by omega), if_pos kind_zero, putZ_at _ tq _ (by omega), if_neg]
      cases p
      · exact hkx
      · show kindF (ofF (sideF (at8 z fq)) (upF (kindF (at8 z fq)))) ≠ 0
        have := g4 rfl
        rw [hxn] at this ⊢
        have hu := up_all xn hx2 this
        rw [hu.1]
        exact hu.2
    rw [e1]
    by_cases hk0 : rawF (kindF (at8 z tq)) = 0
    · rw [show takeZ z s (at8 z tq) = z from if_pos hk0, List.set_comm _ _ hne]
      cases p
      · exact refAfter_k0 z fq tq s (at8 z fq) (by omega) (by omega) hne hs2 hsz rfl hk0 hz h8 w
      · have hu := up_all xn hx2 (by rw [← hxn]; exact g4 rfl)
        rw [show behF (at8 z fq) true = at8 z fq + 8 by
          show ofF (sideF (at8 z fq)) (upF (kindF (at8 z fq))) = _
          rw [hxn]; exact hu.1]
        have := refAfter_k0p z fq tq s (at8 z fq) (by omega) (by omega) hne hs2 hsz rfl hk0 (by omega) hz h8 w
        rw [List.set_set] at this
        exact this
    · obtain ⟨k, hk1, hk2⟩ : ∃ k : Nat, rawF (kindF (at8 z tq)) = k ∧ 1 ≤ k ∧ k ≤ 7 := ⟨(rawF (kindF (at8 z tq))).toNat, by omega, by omega, by
        have : rawF (kindF (at8 z tq)) ≠ 8 := fun e8 => g3 (by omega)
        omega⟩
      have hb := hh (81 + s * 8 + k) (by omega) (by omega)
      rw [show takeZ z s (at8 z tq) = z.set (81 + s * 8 + k) (at8 z (81 + s * 8 + k) + 1) by
        unfold takeZ
        rw [if_neg hk0, hk1, Int.toNat_natCast], List.set_comm _ _ hne]
      cases p
      · exact refAfter_k z fq tq s k (at8 z fq) _ (by omega) (by omega) hne hs2 hsz rfl hk2 rfl hb.2 hk1 hz h8 w
      · have hu := up_all xn hx2 (by rw [← hxn]; exact g4 rfl)
        rw [show behF (at8 z fq) true = at8 z fq + 8 by
          show ofF (sideF (at8 z fq)) (upF (kindF (at8 z fq))) = _
          rw [hxn]; exact hu.1]
        have := refAfter_kp z fq tq s k (at8 z fq) _ (by omega) (by omega) hne hs2 hsz rfl hk2 rfl hb.2 hk1 (by omega) hz h8 w
        rw [List.set_set] at this
        exact this
  · obtain ⟨ht, hd7, rfl, rfl⟩ : (0 ≤ t ∧ t < 81) ∧ (1 ≤ d ∧ d ≤ 7) ∧ f = 0 ∧ p = false := by
      obtain ⟨a, h | ⟨h1, h2, h3, h4⟩⟩ := hcc
      · exact absurd h.1 hd
      · exact ⟨a, ⟨h1, h2⟩, h3, h4⟩
    obtain ⟨tq, rfl⟩ : ∃ j : Nat, t = j := ⟨t.toNat, by omega⟩
    obtain ⟨dn, rfl⟩ : ∃ j : Nat, d = j := ⟨d.toNat, by omega⟩
    have hb := hh (81 + s * 8 + dn) (by omega) (by omega)
    have ho := of_all s hs2 dn (by omega) (by omega)
    rw [if_neg hd, Int.toNat_natCast, putZ_at _ tq _ (by omega), if_neg ho.2, ho.1]
    exact refAfter_drop z tq dn s (by omega) (by omega) hs2 hsz hb.1 hz h8 w
end Go.Proofs.YtfemicpfkgecbaaDoor

/-
  deed.After: the position behind a move, or the position as it is.
-/
namespace Go.Proofs.YtfemicpfkgecbaaDoor
open Go.RowKit
set_option linter.unusedVariables false
set_option linter.unusedSimpArgs false

theorem past_none (w : World) (B g b : Nat) : Past w B g b (.slice none 0 0) [] := ⟨World.ownsRow_nil _ _ _ _, by simp [Value.ownBlock], by simp [Value.ownBlock]⟩

theorem results_row_tmp {P : Program} {fn : Func} {p u : Tmp} {ty : TypeId} (h : fn.results = #[.cell p ty, .tmp u]) (tmps : Array Value) (w : World) (g : Nat) (t : TypeId) (cs : Array Value) (fr : Nat × Nat) (d : TypeDesc)
    (hp : tmps.getD p undef = .pointer (some ⟨g, 0, none⟩)) (hg : w.heap[g]? = some (.cells cs t fr))
    (hu : P.underlying ty = some d) (hd : (match d with | .struct _ | .array _ _ => true | _ => false) = true) (hi : (P.info? ty).map (·.size) = some cs.size) :
    (results fn tmps).run P w = .ok (.tuple #[.agg cs, tmps.getD u undef]) w := by
  have hp' : tmps[p]?.getD undef = .pointer (some ⟨g, 0, none⟩) := by simpa using hp
  rw [results_cell_tmp h]
  simp [hp', asAddr, run_loadVar_row w g t ty cs fr d hg hu hd hi, Result.andThen]
theorem RA.grow {w W W' : World} {z : List Int} {M : Array Value} (h : RA w z M W) (hb : Below W.heap.size W W') : RA w z M W' :=
  ⟨h.1.grow hb, (hb.block _ (lt_of_row' h.2.1)).trans h.2.1, (hb.block _ (lt_of_row' h.2.2.1)).trans h.2.2.1, bthen h.2.2.2 hb⟩
theorem RA.but3 {w W W' : World} {z : List Int} {M : Array Value} {g b : Nat} (h : RA w z M W) (hb : But3 g b none W W') (hg : w.heap.size + 2 < g) (hbb : w.heap.size + 2 < b) : RA w z M W' :=
  ⟨hb.row h.1 (by omega) (by omega) (by simp), hb.row h.2.1 (by omega) (by omega) (by simp), hb.row h.2.2.1 (by omega) (by omega) (by simp), h.2.2.2.trans (hb.below (by omega) (by omega) (by simp) h.2.2.2.size)⟩
set_option maxHeartbeats 4000000 in
theorem after_yes (z : List Int) (f t d : Int) (p : Bool) (hz : z.length = 98) (h8 : I8s z) (hc : Clean z) (hh : ∀ j, 81 ≤ j → j < 97 → 0 ≤ at8 z j ∧ at8 z j ≤ 126) (hcan : canF z f t d p = true) (w : World) :
    Calls Tryd.prog 31 #[.agg (posC z).toArray, .agg #[.int .i64 f, .int .i64 t, .int .i64 d, .bool p]] w fun e w' => e = .returned (.tuple #[.agg (posC (afterZ z f t d p)).toArray, .bool true]) ∧ Below w.heap.size w w' := by
  have H0 := Lib.hid (RA.start w z #[.int .i64 f, .int .i64 t, .int .i64 d, .bool p])
  have NE := Lib.hid (fun W => newGame_any z hz h8 W)
  rw [newZ_self z hz hc] at NE
  have MK := Lib.hid (fun (B g b : Nat) (v : Value) (W : World) (hB : B ≤ W.heap.size) (h : Gk W g b z v) (hp : Past W B g b v []) => make_yes B g b z v [] f t d p hz h8 hc hh (by simp) W hB h hp hcan)
  have hl : (afterZ z f t d p).length = 98 := by unfold afterZ; rw [List.length_set, midZ_len, hz]
  have HZ := Lib.hid hz
  have HINF := Lib.hid (show (Tryd.prog.info? 28).map (·.size) = some (posC z).length by rw [posC_len, hz]; exact infoPos)
  have HL := Lib.hid hl
  have HINF2 := Lib.hid (show (Tryd.prog.info? 28).map (·.size) = some (posC (afterZ z f t d p)).length by rw [posC_len, hl]; exact infoPos)
  have HSS := Lib.hid (show Tryd.zeroCells28.size = (posC (afterZ z f t d p)).toArray.size from zeroPos_size.trans (by rw [List.size_toArray, posC_len, hl]))
  have HS0 := Lib.hid (show w.heap.size + 2 < (((w.alloc (.cells (posC z).toArray 28)).alloc (.cells #[.int .i64 f, .int .i64 t, .int .i64 d, .bool p] 54)).alloc (.cells Tryd.zeroCells28 28)).heap.size by simp)
  clear hz h8 hc hcan hl hh
  generalize ez : afterZ z f t d p = zf at *
  have EZ := Lib.hid ez
  clear ez
  go_enter Tryd.func31, Tryd.ntmps31
  go_upto_region 1 with fail
  generalize ((w.alloc (.cells (posC z).toArray 28)).alloc (.cells #[.int .i64 f, .int .i64 t, .int .i64 d, .bool p] 54)).alloc (.cells Tryd.zeroCells28 28) = w0 at *
  go_wp2_with (first
    | (go_at_call 27; refine (NE.out _).mono ?_; rintro e w1 ⟨g, b, rfl, hg, hb, hG, hbw⟩; have GE := Lib.hid (And.intro (Nat.lt_of_lt_of_le HS0.out hg) (Nat.lt_of_lt_of_le HS0.out hb)); have HG := Lib.hid hG; have H1 := Lib.hid (H0.out.grow hbw); obtain ⟨m0, m1, m2, m3⟩ := mv_cells' H1.out.2.1; clear hg hb hG hbw)
    | (go_at_call 30; refine (MK.out w.heap.size g b _ _ H1.out.2.2.2.size HG.out (past_none _ _ _ _)).mono ?_; rintro e w2 ⟨rfl, v1, hG, hP, hB⟩; have HG1 := Lib.hid hG; have H2 := Lib.hid (H1.out.but3 hB GE.out.1 GE.out.2); obtain ⟨g0, g1, g2⟩ := hG.1.cells; clear hG hP hB)
    | (refine wpList_load_mid rfl 28 _ rfl w.heap.size 0 rfl (posC z) _ H0.out.1.range Tryd.underlying28 rfl HINF.out ?_)
    | (refine wpList_load_mid rfl 28 _ rfl b 0 rfl (posC zf) _ (posRangeB HG1.out.2.1 HL.out) Tryd.underlying28 rfl HINF2.out ?_)
    | (refine wpList_store_row rfl 28 _ _ rfl (w.heap.size + 2) (posC zf).toArray rfl rfl 28 Tryd.zeroCells28 H2.out.2.2.1 (by rw [List.size_toArray]; exact HINF2.out) HSS.out (posC_one zf) ?_))
  refine bodyPost_ret (results_row_tmp rfl _ _ (w.heap.size + 2) 28 (posC zf).toArray (0, 0) _ rfl (setRow_heap _ _ _ _ _ _ H2.out.2.2.1) Tryd.underlying28 rfl (by rw [List.size_toArray]; exact HINF2.out)) rfl ?_
  exact ⟨by first | rfl | (rw [EZ.out]; rfl), below_row H2.out.2.2.2 (by omega) _⟩
set_option maxHeartbeats 4000000 in
theorem after_no (z : List Int) (f t d : Int) (p : Bool) (hz : z.length = 98) (h8 : I8s z) (hc : Clean z) (hcan : canF z f t d p = false) (w : World) :
    Calls Tryd.prog 31 #[.agg (posC z).toArray, .agg #[.int .i64 f, .int .i64 t, .int .i64 d, .bool p]] w fun e w' => e = .returned (.tuple #[.agg (posC (z)).toArray, .bool false]) ∧ Below w.heap.size w w' := by
  have H0 := Lib.hid (RA.start w z #[.int .i64 f, .int .i64 t, .int .i64 d, .bool p])
  have NE := Lib.hid (fun W => newGame_any z hz h8 W)
  rw [newZ_self z hz hc] at NE
  have MK := Lib.hid (fun (g b : Nat) (v : Value) (W : World) (h : Gk W g b z v) => make_no g b z v f t d p hz h8 W h hcan)
  have hl : (z).length = 98 := by exact hz
  have HZ := Lib.hid hz
  have HINF := Lib.hid (show (Tryd.prog.info? 28).map (·.size) = some (posC z).length by rw [posC_len, hz]; exact infoPos)
  have HL := Lib.hid hl
  have HINF2 := Lib.hid (show (Tryd.prog.info? 28).map (·.size) = some (posC (z)).length by rw [posC_len, hl]; exact infoPos)
  have HSS := Lib.hid (show Tryd.zeroCells28.size = (posC (z)).toArray.size from zeroPos_size.trans (by rw [List.size_toArray, posC_len, hl]))
  have HS0 := Lib.hid (show w.heap.size + 2 < (((w.alloc (.cells (posC z).toArray 28)).alloc (.cells #[.int .i64 f, .int .i64 t, .int .i64 d, .bool p] 54)).alloc (.cells Tryd.zeroCells28 28)).heap.size by simp)
  clear hz h8 hc hcan hl
  go_enter Tryd.func31, Tryd.ntmps31
  go_upto_region 1 with fail
  generalize ((w.alloc (.cells (posC z).toArray 28)).alloc (.cells #[.int .i64 f, .int .i64 t, .int .i64 d, .bool p] 54)).alloc (.cells Tryd.zeroCells28 28) = w0 at *
  go_wp2_with (first
    | (go_at_call 27; refine (NE.out _).mono ?_; rintro e w1 ⟨g, b, rfl, hg, hb, hG, hbw⟩; have GE := Lib.hid (And.intro (Nat.lt_of_lt_of_le HS0.out hg) (Nat.lt_of_lt_of_le HS0.out hb)); have HG := Lib.hid hG; have H1 := Lib.hid (H0.out.grow hbw); obtain ⟨m0, m1, m2, m3⟩ := mv_cells' H1.out.2.1; clear hg hb hG hbw)
    | (go_at_call 30; refine (MK.out g b _ _ HG.out).mono ?_; rintro e w2 ⟨rfl, hB⟩; have HG1 := Lib.hid (HG.out.grow hB); have H2 := Lib.hid (H1.out.grow hB); obtain ⟨g0, g1, g2⟩ := HG1.out.1.cells; clear hB)
    | (refine wpList_load_mid rfl 28 _ rfl w.heap.size 0 rfl (posC z) _ H0.out.1.range Tryd.underlying28 rfl HINF.out ?_)
    | (refine wpList_load_mid rfl 28 _ rfl b 0 rfl (posC z) _ (posRangeB HG1.out.2.1 HL.out) Tryd.underlying28 rfl HINF2.out ?_)
    | (refine wpList_store_row rfl 28 _ _ rfl (w.heap.size + 2) (posC z).toArray rfl rfl 28 Tryd.zeroCells28 H2.out.2.2.1 (by rw [List.size_toArray]; exact HINF2.out) HSS.out (posC_one z) ?_))
  refine bodyPost_ret (results_row_tmp rfl _ _ (w.heap.size + 2) 28 (posC z).toArray (0, 0) _ rfl (setRow_heap _ _ _ _ _ _ H2.out.2.2.1) Tryd.underlying28 rfl (by rw [List.size_toArray]; exact HINF2.out)) rfl ?_
  exact ⟨by rfl, below_row H2.out.2.2.2 (by omega) _⟩
end Go.Proofs.YtfemicpfkgecbaaDoor
