/-
  Of, of lists of any length.
-/
import Derived.Test.YtiecopkihlaidaaDoorPut
namespace Go.Proofs.YtiecopkihlaidaaDoor
open Go.RowKit
set_option linter.unusedVariables false

theorem of_big (b off cap : Nat) (l : List Int) (w : World) (hlen : l.length ≤ maxLen) (hb : b < w.heap.size)
    (hc : ∀ (j : Nat) (hj : j < l.length), w.cell? ⟨b, off + j, none⟩ = some (.int .i64 l[j])) :
    Calls Tryd.prog 10 #[.slice (some ⟨b, off, none⟩) l.length cap] w fun e w' => e = .returned (.agg #[.int .u64 (loW (ofN l)), .int .u64 (hiW (ofN l))]) ∧ Below w.heap.size w w' := by
  have HC := Lib.hid hc
  have HM := Lib.hid hlen
  clear hc hlen
  go_enter Tryd.func10, Tryd.ntmps10
  go_wp2
  go_loopw [5, 8] (fun _ i wr => ∃ k : Nat, k ≤ l.length ∧ i = .int .i64 k ∧ Below w.heap.size w wr ∧ Var wr w.heap.size 0 0 ∧ Var wr (w.heap.size + 1) (loW (ofN (l.take k))) (hiW (ofN (l.take k)))) (fun _ i _ => l.length - (intOf i).toNat)
  case atStart =>
    refine ⟨0, Nat.zero_le _, rfl, ball (ball (bref _) _) _, ⟨?_, ?_, ?_, ?_, ?_⟩, ⟨?_, ?_, ?_, ?_, ?_⟩⟩
    case refine_7 => rw [List.take_zero, show ofN [] = 0 from rfl, lo_zero]; go_simp
    case refine_8 => rw [List.take_zero, show ofN [] = 0 from rfl, hi_zero]; go_simp
    all_goals first | (go_simp; done) | (simp; done)
  case round =>
    obtain ⟨k, hk, rfl, hB, hR, hV⟩ := hrel
    have HB := Lib.hid hB
    have HR := Lib.hid hR
    have HV := Lib.hid hV
    have hz := hV.lt
    by_cases hlt : k < l.length
    · have hcell : wr.cell? ⟨b, off + k, none⟩ = some (.int .i64 l[k]) := (hB.cell (p := ⟨b, off + k, none⟩) hb).trans (HC.out k hlt)
      have C := Lib.hid (fun W => with_any (ofN (l.take k)) l[k] (ofN_sq _) W)
      rw [← take_step l k hlt] at C
      have l0 := hV.lo
      have l1 := hV.hi
      have l2 := hV.f0
      have l3 := hV.f1
      clear hB hR hV HC
      generalize l[k] = q at C hcell
      generalize loW (ofN (l.take k)) = x at C l0 HV
      generalize hiW (ofN (l.take k)) = y at C l1 HV
      generalize hx : loW (ofN (l.take (k + 1))) = x2 at C
      generalize hy : hiW (ofN (l.take (k + 1))) = y2 at C
      have HX := Lib.hid hx
      have HY := Lib.hid hy
      clear hx hy
      have hw : wrap64 ((k : Int) + 1) = ((k + 1 : Nat) : Int) := by
        have hm := HM.out
        rw [show maxLen = 9223372036854775807 from rfl] at hm
        unfold wrap64
        omega
      go_wp2_with (go_at_call 33; refine (C.out _).mono ?_; rintro e w2 ⟨rfl, hb2⟩; obtain ⟨hc2, hf2⟩ := bcells hb2; have hz2 : wr.heap.size ≤ w2.heap.size := hb2.size)
      go_roundw
      case rel =>
        refine ⟨k + 1, by omega, by simp only [hw], ?_, ?_, ?_⟩
        · exact ((HB.out.trans (hb2.mono HB.out.size)).setCell (by simp) _).setCell (by simp) _
        · exact (HR.out.grow hb2).other (by omega) _ _
        · rw [HX.out, HY.out]
          exact (HV.out.grow hb2).put _ _
      case measure => rw [hw]; simp [intOf]; omega
    · obtain rfl : k = l.length := by omega
      rw [List.take_length] at HV hV
      have l0 := hV.lo
      have l1 := hV.hi
      have r0 := hR.lo
      have r1 := hR.hi
      have r2 := hR.f0
      have r3 := hR.f1
      clear hB hR hV HC
      generalize hx : loW (ofN l) = x at l0 HV
      generalize hy : hiW (ofN l) = y at l1 HV
      have HX := Lib.hid hx
      have HY := Lib.hid hy
      clear hx hy
      go_wp2
      rw [HX.out, HY.out]
      exact bodyPost_ret (v := .agg #[.int .u64 x, .int .u64 y]) (by simp [results, Tryd.results10, go_sem, r0, r1]) rfl
        ⟨rfl, (HB.out.setCell (Nat.le_refl _) _).setCell (Nat.le_refl _) _⟩


/-- The numbers that a slice shows. -/
def Ints (w : World) (o : Option Addr) (l : List Int) : Prop := 0 < l.length → ∃ b off, o = some ⟨b, off, none⟩ ∧ b < w.heap.size ∧ ∀ (j : Nat) (hj : j < l.length), w.cell? ⟨b, off + j, none⟩ = some (.int .i64 l[j])
theorem Ints.grow {w w' : World} {o : Option Addr} {l : List Int} (h : Ints w o l) (hb : Below w.heap.size w w') : Ints w' o l := by
  intro hp
  obtain ⟨b, off, e, hlt, hc⟩ := h hp
  exact ⟨b, off, e, Nat.lt_of_lt_of_le hlt hb.size, fun j hj => (hb.cell (p := ⟨b, off + j, none⟩) hlt).trans (hc j hj)⟩
theorem of_ints (o : Option Addr) (cap : Nat) (l : List Int) (w : World) (hlen : l.length ≤ maxLen) (h : Ints w o l) :
    Calls Tryd.prog 10 #[.slice o l.length cap] w fun e w' => e = .returned (.agg #[.int .u64 (loW (ofN l)), .int .u64 (hiW (ofN l))]) ∧ Below w.heap.size w w' := by
  by_cases hp : 0 < l.length
  · obtain ⟨b, off, rfl, hlt, hc⟩ := h hp
    exact of_big b off cap l w hlen hlt hc
  · obtain rfl : l = [] := List.length_eq_zero_iff.1 (by omega)
    exact of_empty o cap w
theorem Var.row {w : World} {k g : Nat} {x y : Int} (h : Var w k x y) (hg : k ≠ g) (cs : Array Value) : Var (w.setRow g cs) k x y :=
  ⟨by simpa [World.setRow] using h.lt, (World.cell?_of_block (a := ⟨k, 0, none⟩) (setRow_other w g k cs hg)).trans h.lo, (World.cell?_of_block (a := ⟨k, 1, none⟩) (setRow_other w g k cs hg)).trans h.hi,
    (World.frozen?_of_block (a := ⟨k, 0, none⟩) (setRow_other w g k cs hg)).trans h.f0, (World.frozen?_of_block (a := ⟨k, 1, none⟩) (setRow_other w g k cs hg)).trans h.f1⟩
theorem arr_none : arrP 0 81 = zA := by
  unfold arrP zA
  congr 1
end Go.Proofs.YtiecopkihlaidaaDoor
