/-
  The runes of a text, found by their place and by themselves: what 'at' and 'place' return for any text whose runes are known.
-/
import Derived.Test.YtfemicpfkgecbaaLeaf
import Derived.Laws.RangeAny
import Derived.Lib.Hide
import Derived.LoopTactic
namespace Go.Proofs.Ytfemicpfkgecbaa
open Go.RowKit

/-- From pos on the text s has just the runes of the list. -/
def RunesAt (s : ByteArray) : List Int → Nat → Prop
  | [], pos => ¬ pos < s.size
  | r :: rs, pos => pos < s.size ∧ ((Utf8.decode s pos).1 : Int) = r ∧ RunesAt s rs (pos + (Utf8.decode s pos).2)
def placeFrom : List Int → Int → Int → Int
  | [], _, _ => 0
  | r :: rs, x, n => if r = x then n + 1 else placeFrom rs x (n + 1)
def atFrom : List Int → Int → Int
  | [], _ => 0
  | r :: rs, n => if n - 1 = 0 then r else atFrom rs (n - 1)

theorem width_pos (s : ByteArray) (pos : Nat) (h : pos < s.size) : 1 ≤ (Utf8.decode s pos).2 := by
  by_cases ha : (s[pos]'h).toNat < 128
  · rw [decode_ascii s pos h ha]
    exact Nat.le_refl _
  · exact (decode_high s pos h (by omega)).2

theorem below_iter (w : World) (s : ByteArray) (pos : Nat) : Below w.heap.size w (w.iter s pos) := (Below.refl _ _).alloc (Nat.le_refl _) _

theorem place_any (s : ByteArray) (rs0 : List Int) (x : Int) (w : World) (hr : RunesAt s rs0 0) (hl : rs0.length ≤ 100) :
    Calls Try.prog 46 #[.string s, .int .i32 x] w fun e w' => e = .returned (.int .i64 (placeFrom rs0 x 0)) ∧ Below w.heap.size w w' := by
  generalize hv : placeFrom rs0 x 0 = v
  have Hv := Lib.hid hv
  clear hv
  go_enter Try.func46, Try.ntmps46
  go_wp2
  go_loopw [5] (fun n w' => ∃ (pos : Nat) (rs : List Int) (k : Nat), w' = w.iter s pos ∧ n = .int .i64 k ∧ RunesAt s rs pos ∧ k + rs.length ≤ 100 ∧ placeFrom rs x k = v) (fun _ w' => s.size - w'.iterPos w.heap.size)
  case atStart => exact ⟨0, rs0, 0, rfl, rfl, hr, by simpa using hl, Hv.out⟩
  case round =>
    clear hr hl Hv
    obtain ⟨pos, rs, k, rfl, rfl, hrs, hk, hp⟩ := hrel
    have Hp := Lib.hid hp
    clear hp
    cases rs with
    | nil =>
      have hnx : ∀ ty, (Instr.next (.pointer (some ⟨w.heap.size, 0, none⟩)) true ty).run Try.prog (w.iter s pos) = _ := fun ty => run_next_end w s pos ty hrs
      clear hrs
      go_wp2
      go_ret
      exact ⟨by rw [← Hp.out]; rfl, below_iter _ _ _⟩
    | cons r rs =>
      obtain ⟨h1, h2, h3⟩ := hrs
      have hnx : ∀ ty, (Instr.next (.pointer (some ⟨w.heap.size, 0, none⟩)) true ty).run Try.prog (w.iter s pos) = _ := fun ty => run_next_any w s pos ty h1
      have hwd := width_pos s pos h1
      rw [h2] at hnx
      clear h2
      generalize hq : pos + (Utf8.decode s pos).2 = pos' at hnx h3
      have hlt : pos < pos' := by omega
      clear hq hwd
      have H3 := Lib.hid h3
      clear h3
      simp only [List.length_cons] at hk
      by_cases hx : r = x
      · subst hx
        have e : placeFrom (r :: rs) r k = k + 1 := if_pos rfl
        have He := Lib.hid (Hp.out.symm.trans e)
        clear e Hp
        have hb : (r == r) = true := by simp
        go_wp2
        go_ret
        exact ⟨by rw [He.out]; rfl, below_iter _ _ _⟩
      · have e : placeFrom (r :: rs) x k = placeFrom rs x (k + 1) := if_neg hx
        have He := Lib.hid (e.symm.trans Hp.out)
        have hb : (r == x) = false := by simpa using hx
        clear e Hp hx
        go_wp2
        go_roundw
        case rel => exact ⟨pos', rs, k + 1, rfl, by go_num, H3.out, by omega, He.out⟩
        case measure => simp; omega

theorem at_any (s : ByteArray) (rs0 : List Int) (n0 : Int) (w : World) (hr : RunesAt s rs0 0) (hl : rs0.length ≤ 100) (h0 : 1 ≤ n0) (h1 : n0 ≤ 100) :
    Calls Try.prog 33 #[.string s, .int .i64 n0] w fun e w' => e = .returned (.int .i32 (atFrom rs0 n0)) ∧ Below w.heap.size w w' := by
  generalize hv : atFrom rs0 n0 = v
  have Hv := Lib.hid hv
  clear hv
  go_enter Try.func33, Try.ntmps33
  go_wp2
  go_loopw [1] (fun n w' => ∃ (pos : Nat) (rs : List Int) (k : Int), w' = w.iter s pos ∧ n = .int .i64 k ∧ RunesAt s rs pos ∧ k ≤ 100 ∧ rs.length - 100 ≤ k ∧ atFrom rs k = v) (fun _ w' => s.size - w'.iterPos w.heap.size)
  case atStart => exact ⟨0, rs0, n0, rfl, rfl, hr, h1, by omega, Hv.out⟩
  case round =>
    clear hr hl Hv h0 h1
    obtain ⟨pos, rs, k, rfl, rfl, hrs, hk, hk2, hp⟩ := hrel
    have Hp := Lib.hid hp
    clear hp
    cases rs with
    | nil =>
      have hnx : ∀ ty, (Instr.next (.pointer (some ⟨w.heap.size, 0, none⟩)) true ty).run Try.prog (w.iter s pos) = _ := fun ty => run_next_end w s pos ty hrs
      clear hrs
      go_wp2
      go_ret
      exact ⟨by rw [← Hp.out]; rfl, below_iter _ _ _⟩
    | cons r rs =>
      obtain ⟨h1, h2, h3⟩ := hrs
      have hnx : ∀ ty, (Instr.next (.pointer (some ⟨w.heap.size, 0, none⟩)) true ty).run Try.prog (w.iter s pos) = _ := fun ty => run_next_any w s pos ty h1
      have hwd := width_pos s pos h1
      rw [h2] at hnx
      clear h2
      generalize hq : pos + (Utf8.decode s pos).2 = pos' at hnx h3
      have hlt : pos < pos' := by omega
      clear hq hwd
      have H3 := Lib.hid h3
      clear h3
      simp only [List.length_cons] at hk2
      by_cases hx : k - 1 = 0
      · have e : atFrom (r :: rs) k = r := if_pos hx
        have He := Lib.hid (Hp.out.symm.trans e)
        obtain rfl : k = 1 := by omega
        clear e Hp hx
        go_wp2
        go_ret
        exact ⟨by rw [He.out]; rfl, below_iter _ _ _⟩
      · have e : atFrom (r :: rs) k = atFrom rs (k - 1) := if_neg hx
        have He := Lib.hid (e.symm.trans Hp.out)
        have hb : (k - 1 == 0) = false := by simpa using hx
        have hk3 : -100 ≤ k - 1 := by omega
        clear e Hp hx
        go_wp2
        go_roundw
        case rel => exact ⟨pos', rs, k - 1, rfl, rfl, H3.out, by omega, by omega, He.out⟩
        case measure => simp; omega
end Go.Proofs.Ytfemicpfkgecbaa
