/-
  Lists of squares: what the set package's Squares, the reference's List, and the statements' plain and same return.
-/
import Derived.Test.YtnmekghjkajhcaaDoorListMath
import Derived.OwnWalk
import Derived.WalkSmall
import Derived.Maps.AppendAt
namespace Go.Proofs.YtnmekghjkajhcaaDoor
open Go.RowKit
set_option linter.unusedVariables false

theorem infoInt : (Tryd.prog.info? 3).map (fun i => (i.zero, i.size, i.bytes)) = some (some (.int .i64 0), 1, 8) := by kernel_rfl

/-- A list of numbers in the call's own memory from block B on. -/
def Own (w : World) (B : Nat) (v : Value) (l : List Int) : Prop := w.ownsRow B 3 1 v l.length (l.map (Value.int .i64))

theorem lo_and (x : Nat) (h : x < 18446744073709551616) (h0 : x ≠ 0) : bits .and .u64 (x : Int) (IntKind.u64.wrap ((x : Int) - 1)) = ((x &&& (x - 1) : Nat) : Int) := by
  have e : (x : Int) - 1 = ((x - 1 : Nat) : Int) := by omega
  rw [e, wrap_nat _ (by omega), u64_and_nat _ _ h (by omega)]

theorem appendBits_any (x f B : Nat) (hx : x < 18446744073709551616) (hf : f ≤ 63) (v : Value) (l : List Int) (hl : l.length ≤ 100) (w : World) (hB : B ≤ w.heap.size) (ho : Own w B v l) (hT : Tab w) (hB1 : 1 ≤ B) :
    Calls Tryd.prog 29 #[v, .int .u64 x, .int .i64 f] w fun e w' => ∃ v', e = .returned v' ∧ Own w' B v' (l ++ (bitsL x 64).map (fun i => ((i + f : Nat) : Int))) ∧ Below B w w' := by
  go_enter Tryd.func29, Tryd.ntmps29
  go_wp2
  obtain ⟨i0, hi, hz0, hz1, hz2⟩ := info_parts infoInt
  have HX := Lib.hid hx
  have HT := Lib.hid hT
  have HO := Lib.hid ho
  clear hx hT ho
  go_loopw [0, 1] (fun v i wr => ∃ (y : Nat) (m : List Int), i = .int .u64 y ∧ Hid (y < 18446744073709551616) ∧ m.length + (bitsL y 64).length ≤ 64 ∧ Hid (m ++ (bitsL y 64).map (fun i => ((i + f : Nat) : Int)) = (bitsL x 64).map (fun i => ((i + f : Nat) : Int))) ∧ Hid (Own wr B v (l ++ m)) ∧ Hid (Below B w wr) ∧ B ≤ wr.heap.size) (fun _ i _ => (intOf i).toNat)
  case atStart => exact ⟨x, [], rfl, HX.out, by simpa using bitsL_le x 64, by simp [Hid], by simpa [Hid] using HO.out, Below.refl _ _, hB⟩
  case round =>
    obtain ⟨y, m, rfl, hy, hlen, hm, hO, hW, hs⟩ := hrel
    clear HX HO
    by_cases hy0 : y = 0
    · subst hy0
      rw [bitsL_zero, List.map_nil, List.append_nil] at hm
      clear hi hz0 hz1 hz2 hlen
      go_wp2
      go_ret
      refine ⟨_, rfl, ?_, hW.out⟩
      rw [← hm.out]
      exact hO.out
    · have hst := bitsL_step y 64 (by have := hy.out; omega) hy0
      obtain ⟨e1, e2, e3⟩ := hst
      have hTr : Tab wr := by
        intro j hj
        rw [← HT.out j hj]
        exact hW.out.cell (p := ⟨0, j, none⟩) (by show 0 < B; omega)
      have Z := Lib.hid (tz_any y hy.out hy0 wr hTr)
      have hcl := lo_and y hy.out hy0
      have d1 : ((y : Int) == 0) = false := by simpa using hy0
      have d2 : ((y : Int) != 0) = true := by simpa using hy0
      have E1 := Lib.hid e1
      have hy2 : Hid (y &&& (y - 1) < 18446744073709551616) := by have := hy.out; unfold Hid; omega
      generalize hk : Lib.ctz 64 y = k at Z E1 e2
      generalize hz : y &&& (y - 1) = z at hcl E1 e3 hy2
      have E3 := Lib.hid e3
      have hml : m.length ≤ 64 := by omega
      rw [E1.out] at hlen hm
      simp only [List.length_cons] at hlen
      clear hk hz e1 e3 hy hTr hy0
      go_wp2_with (first
        | (go_at_call 43; refine Z.out.mono ?_; rintro e w2 ⟨rfl, rfl⟩)
        | (at_builtin; refine wpList_append_own _ rfl _ _ 33 rfl B 3 i0 (.int .i64 0) 1 8 Tryd.underlying33 hi hz0 hz1 hz2 rfl (by decide) _ _ _ rfl (hO.out.alloc _) ⟨wr.heap.size, 0, none⟩ 1 1 [.int .i64 ((f : Int) + (k : Int))] rfl rfl ?c1 ?c2 ?c3 ?c4 ?c5 ?_))
      case c1 => exact (cell_one_new _ _ _)
      case c2 => simp [Value.oneCell']
      case c3 => simp [maxLen]; omega
      case c4 => simp; omega
      case c5 => simp; omega
      intro v' w2 hown hgrow _
      have hB2 : Below B w w2 := (hW.out.alloc hs _).grown hgrow (by simp; omega) (fun b hb => (hO.out.lt b hb).1)
      have ho2 : Own w2 B v' (l ++ (m ++ [(f : Int) + (k : Int)])) := by
        unfold Own
        have e : (l ++ (m ++ [(f : Int) + (k : Int)])).length = l.length + m.length + 1 := by simp; omega
        rw [e, List.map_append, List.map_append]
        exact hown
      have hs2 : B ≤ w2.heap.size := by have := hgrow.size; simp at this; omega
      have hm2 : Hid ((m ++ [(f : Int) + (k : Int)]) ++ (bitsL z 64).map (fun i => ((i + f : Nat) : Int)) = (bitsL x 64).map (fun i => ((i + f : Nat) : Int))) := by
        unfold Hid
        have e : ((k + f : Nat) : Int) = (f : Int) + (k : Int) := by omega
        rw [← hm.out, List.map_cons, List.append_assoc, e]
        rfl
      have HO2 := Lib.hid ho2
      have HB2 := Lib.hid hB2
      clear ho2 hB2 hown hgrow hO hW hm
      go_wp2
      go_roundw
      case rel => exact ⟨z, m ++ [(f : Int) + (k : Int)], rfl, hy2, by simp; omega, hm2, HO2.out, HB2.out, hs2⟩
      case measure =>
        have := E3.out
        simp [intOf]
        omega
end Go.Proofs.YtnmekghjkajhcaaDoor
