/-
  Lists of squares: the set package's Squares, the reference's List, and the statements' same.
-/
import Derived.Test.YtnmekghjkajhcaaDoorLists
namespace Go.Proofs.YtnmekghjkajhcaaDoor
open Go.RowKit
set_option linter.unusedVariables false

theorem Own.parts {w : World} {B : Nat} {v : Value} {l : List Int} (h : Own w B v l) :
    (v = .slice none 0 0 ∧ l = []) ∨ ∃ g cap, v = .slice (some ⟨g, 0, none⟩) l.length cap ∧ B ≤ g ∧ g < w.heap.size ∧ ∀ (j : Nat) (hj : j < l.length), w.cell? ⟨g, 0 + j, none⟩ = some (.int .i64 l[j]) := by
  rcases h.2 with ⟨h1, h2⟩ | ⟨g, cap, cur, hv, hb, hg, -⟩
  · exact .inl ⟨h1, List.length_eq_zero_iff.1 h2⟩
  · have ho : v.ownBlock = some g := by rw [hv]; rfl
    refine .inr ⟨g, cap, hv, hb, (h.lt g ho).2, fun j hj => ?_⟩
    have := h.cells ho j (.int .i64 l[j]) (by simp [hj])
    rw [Nat.zero_add]
    have e : (⟨g, 0, none⟩ : Addr).add j = ⟨g, j, none⟩ := by unfold Addr.add; split <;> simp_all
    rw [e] at this
    exact this
theorem Own.mono {w : World} {B C : Nat} {v : Value} {l : List Int} (h : Own w B v l) (hc : C ≤ B) : Own w C v l :=
  ⟨h.1, h.2.imp id (fun ⟨g, cap, cur, hv, hb, r⟩ => ⟨g, cap, cur, hv, Nat.le_trans hc hb, r⟩)⟩
theorem Own.grow {w w' : World} {B : Nat} {v : Value} {l : List Int} (h : Own w B v l) (hb : Below w.heap.size w w') : Own w' B v l := by
  refine ⟨h.1, ?_⟩
  rcases h.2 with h1 | ⟨g, cap, cur, hv, hB, hg, r⟩
  · exact .inl h1
  · have hlt : g < w.heap.size := (Array.getElem?_eq_some_iff.1 hg).1
    exact .inr ⟨g, cap, cur, hv, hB, (hb.block g hlt).trans hg, r⟩

theorem squares_any (n : Nat) (hn : Sq n) (w : World) (hT : Tab w) (hw : 1 ≤ w.heap.size) :
    Calls Tryd.prog 14 #[.agg #[.int .u64 (loW n), .int .u64 (hiW n)]] w fun e w' => ∃ v, e = .returned v ∧ Own w' w.heap.size v (sqI n) ∧ Below w.heap.size w w' := by
  obtain ⟨i0, hi, hz0, hz1, hz2⟩ := info_parts infoInt
  have C := Lib.hid (fun W => count_any n hn W)
  have hp := pop_le 81 n
  have hsp := bitsL_split n hn
  have A0 := Lib.hid (fun B v (W : World) h1 h2 h3 h4 => appendBits_any (n % 9223372036854775808) 0 B (by omega) (by omega) v [] (by simp) W h1 h2 h3 h4)
  have A1 := Lib.hid (fun B v (W : World) h1 h2 h3 h4 => appendBits_any (n / 9223372036854775808) 63 B (by have := hn.hi; omega) (by omega) v ([] ++ (bitsL (n % 9223372036854775808) 64).map (fun i => ((i + 0 : Nat) : Int))) (by simp; have := bitsL_le (n % 9223372036854775808) 64; omega) W h1 h2 h3 h4)
  have hs : sqI n = ([] ++ (bitsL (n % 9223372036854775808) 64).map (fun i => ((i + 0 : Nat) : Int))) ++ (bitsL (n / 9223372036854775808) 64).map (fun i => ((i + 63 : Nat) : Int)) := by
    unfold sqI
    rw [← hsp, List.map_append, List.map_map]
    rfl
  have HS := Lib.hid hs
  have HT := Lib.hid hT
  clear hs hT hsp
  have ex : ((n % 9223372036854775808 : Nat) : Int) = loW n := rfl
  have ey : ((n / 9223372036854775808 : Nat) : Int) = hiW n := rfl
  rw [ex] at A0
  rw [ey] at A1
  generalize ([] ++ (bitsL (n % 9223372036854775808) 64).map (fun i => ((i + 0 : Nat) : Int))) = l1 at A0 A1 HS
  generalize l1 ++ (bitsL (n / 9223372036854775808) 64).map (fun i => ((i + 63 : Nat) : Int)) = l2 at A1 HS
  clear ex ey hn
  generalize loW n = x at A0 C ⊢
  generalize hiW n = y at A1 C ⊢
  generalize sqI n = L at HS ⊢
  generalize pop 81 n = p at C hp
  go_enter Tryd.func14, Tryd.ntmps14
  have b2 : i0.bytes * p ≤ 281474976710656 := by rw [hz2]; omega
  have b3 : p ≤ maxLen := by simp [maxLen]; omega
  go_wp2_with (go_at_call 12; refine (C.out _).mono ?_; rintro e w1 ⟨rfl, hb1⟩; have V1 : Var w1 w.heap.size x y := (Var.grow ⟨by simp, by go_simp, by go_simp, by go_simp, by go_simp⟩ hb1))
  obtain ⟨w2, hrun, ho2, hg2⟩ := run_make_own (P := Tryd.prog) w1 w1.heap.size 33 3 i0 (.int .i64 0) 1 Tryd.underlying33 hi hz0 hz1 .i64 .i64 p b2 b3 (Nat.le_refl _)
  have hb2 : Below w1.heap.size w1 w2 := (bref w1).grown hg2 (Nat.le_refl _) (fun k h => nomatch h)
  have hA1 : Below w.heap.size w w1 := bthen (ball (bref w) _) hb1
  have V2 : Var w2 w.heap.size x y := V1.grow hb2
  have s1 := V1.lt
  have s2 := hb2.size
  have T2 : Hid (Tab w2) := HT.out.grow (bthen hA1 hb2)
  have D0 := Lib.hid (A0.out w1.heap.size _ w2 s2 ho2 T2.out (by omega))
  have HB2 := Lib.hid (bthen hA1 hb2)
  rw [hrun]
  have q0 := V2.lo
  have q1 := V2.hi
  clear hb1 hb2 hA1 V1 V2 ho2 hg2 hz0 hz1 hz2 hi b2 b3 hrun A0 C
  go_wp2_with (first
    | (go_at_call_of 29 (Value.int .u64 x); refine D0.out.mono ?_; rintro e w3 ⟨v3, rfl, ho3, hb3⟩; have q3 := (hb3.cell (p := ⟨w.heap.size, 1, none⟩) s1).trans q1; have s3 : w1.heap.size ≤ w3.heap.size := (by have := hb3.size; omega); have B3 : Below w.heap.size w w3 := (HB2.out.trans (hb3.mono (Nat.le_of_lt s1))); have T3 := HT.out.grow B3)
    | (go_at_call_of 29 (Value.int .u64 y); refine (A1.out w1.heap.size v3 w3 s3 ho3 T3 (by omega)).mono ?_; rintro e w4 ⟨v4, rfl, ho4, hb4⟩))
  go_ret
  refine ⟨v4, rfl, ?_, B3.trans (hb4.mono (Nat.le_of_lt s1))⟩
  rw [HS.out]
  exact ho4.mono (Nat.le_of_lt s1)

def upL (n k : Nat) : List Int := ((List.range k).filter (fun i => n.testBit i)).map (fun (i : Nat) => (i : Int))
theorem upL_len (n k : Nat) : (upL n k).length ≤ k := by
  unfold upL
  rw [List.length_map]
  exact Nat.le_trans (List.length_filter_le _ _) (by simp)
theorem upL_step (n k : Nat) : upL n (k + 1) = if n.testBit k then upL n k ++ [(k : Int)] else upL n k := by
  unfold upL
  rw [List.range_succ, List.filter_append, List.map_append]
  by_cases h : n.testBit k = true
  · simp [h]
  · simp [h]
theorem upL_all (n : Nat) : upL n 81 = sqI n := rfl

end Go.Proofs.YtnmekghjkajhcaaDoor
