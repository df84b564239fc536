/-
  The walk of the law MoveTexts: for every move it returns true.
-/
import Derived.Test.YtfemicpfkgecbaaMvNames
import Derived.Test.YtfemicpfkgecbaaMvRef3
import Derived.OpenShut
namespace Go.Proofs.Ytfemicpfkgecbaa.moveTexts
open Go.RowKit
set_option linter.unusedVariables false
set_option linter.unusedSimpArgs false

theorem mv_alloc {w1 : World} {w : World} {v : Value} {o : Nat} {A : Obj} (h : Below (w.alloc A).heap.size (w.alloc A) w1) (hv : (w.alloc A).cell? ⟨w.heap.size, o, none⟩ = some v) : w1.cell? ⟨w.heap.size, o, none⟩ = some v := by
  rw [(bcells h).1 _ _ (by simp)]
  exact hv
set_option maxHeartbeats 2000000 in
theorem walk (f t d : Int) (p : Bool) (wf : (Lit.int .i64 f).wf = true) (wt : (Lit.int .i64 t).wf = true) (wd : (Lit.int .i64 d).wf = true) (w : World) :
    Calls Try.prog 3 #[.agg #[.int .i64 f, .int .i64 t, .int .i64 d, .bool p]] w fun e w' => e = .returned (.bool true) ∧ Below w.heap.size w w' := by
  have bd := bounds_i64 wd
  have N := Lib.hid (fun W => names_mv W)
  have T := Lib.hid (fun W => text_mv f t d p W bd.1 bd.2)
  have RT := Lib.hid (fun W => refText_mv f t d p W)
  have C := Lib.hid (fun W => check_mv f t d p W)
  have RC := Lib.hid (fun W => refCheck_mv f t d p W)
  by_cases hc : checkM f t d p = 0
  · have P := Lib.hid (fun W => parse_good f t d p hc W)
    have hn : (textS f t d p).toList.isEmpty = false := by
      rw [show textS f t d p = ⟨(textL f t d p).toArray⟩ from if_pos hc, ByteArray.toList_mk]
      unfold textL sqL
      split <;> rfl
    have b1 : ((textS f t d p).toList == (textS f t d p).toList) = true := by simp
    have b2 : ((textS f t d p).toList != (textS f t d p).toList) = false := by simp
    rw [hc] at C RC
    generalize textS f t d p = x at *
    have ef : (f == f) = true := by simp
    have et : (t == t) = true := by simp
    have ed : (d == d) = true := by simp
    have ep : (p == p) = true := by simp
    clear hc bd wf wt wd
    go_enter Try.func3, Try.ntmps3
    go_wp2_with (first
      | (go_at_call 8; refine (N.out _).mono ?_; rintro e w1 ⟨rfl, hb1⟩; obtain ⟨hc1, hf1⟩ := bcells hb1; have z1 := sz1 hb1; have HB := Lib.hid (bthen (ball (bref w) _) hb1))
      | (go_at_call 9; refine (T.out _).mono ?_; rintro e w2 ⟨rfl, hb2⟩; have HB := Lib.hid (bthen HB.out hb2)))
    have d0 : w2.cell? ⟨w.heap.size, 0, none⟩ = some (.int .i64 f) := by rw [(bcells hb2).1 _ _ z1, hc1 _ _ (by simp)]; go_simp
    have d1 : w2.cell? ⟨w.heap.size, 1, none⟩ = some (.int .i64 t) := by rw [(bcells hb2).1 _ _ z1, hc1 _ _ (by simp)]; go_simp
    have d2 : w2.cell? ⟨w.heap.size, 2, none⟩ = some (.int .i64 d) := by rw [(bcells hb2).1 _ _ z1, hc1 _ _ (by simp)]; go_simp
    have d3 : w2.cell? ⟨w.heap.size, 3, none⟩ = some (.bool p) := by rw [(bcells hb2).1 _ _ z1, hc1 _ _ (by simp)]; go_simp
    have z2 := Nat.lt_of_lt_of_le z1 hb2.size
    clear hc1 hf1 hb1 hb2
    go_region_held3 (fun w' => Below w2.heap.size w2 w' ∧ w.heap.size < w'.heap.size ∧ w'.cell? ⟨w.heap.size, 0, none⟩ = some (.int .i64 f) ∧ w'.cell? ⟨w.heap.size, 1, none⟩ = some (.int .i64 t) ∧ w'.cell? ⟨w.heap.size, 2, none⟩ = some (.int .i64 d) ∧ w'.cell? ⟨w.heap.size, 3, none⟩ = some (.bool p)) (first | assumption | exact ⟨(bref w2).drew, z2, d0, d1, d2, d3⟩ | exact heldR_step (by assumption) hb)
      (first
        | (go_at_call 10; refine (RT.out _).mono ?_; rintro e wn ⟨rfl, hb⟩)
        | (go_at_call 11; refine (C.out _).mono ?_; rintro e wn ⟨rfl, hb⟩)
        | (go_at_call 12; refine (RC.out _).mono ?_; rintro e wn ⟨rfl, hb⟩))
    rename_i wh hH
    obtain ⟨hHb, hHz, g0, g1, g2, g3⟩ := hH
    have HB := Lib.hid (bthen HB.out hHb)
    clear hHb d0 d1 d2 d3
    go_wp2_with (go_at_call 13; refine (P.out _).mono ?_; rintro e w5 ⟨rfl, hb5⟩; obtain ⟨hc5, hf5⟩ := bcells hb5; have z5 := Nat.lt_of_lt_of_le hHz hb5.size)
    go_ret
    exact ⟨rfl, ball (bthen HB.out hb5) _⟩
  · rw [show textS f t d p = ⟨#[]⟩ from if_neg hc] at T RT
    have b3 : (checkM f t d p != checkM f t d p) = false := by simp
    generalize checkM f t d p = v at *
    clear hc bd wf wt wd
    go_enter Try.func3, Try.ntmps3
    go_wp2_with (first
      | (go_at_call 8; refine (N.out _).mono ?_; rintro e w1 ⟨rfl, hb1⟩; obtain ⟨hc1, hf1⟩ := bcells hb1; have z1 := sz1 hb1; have HB := Lib.hid (bthen (ball (bref w) _) hb1))
      | (go_at_call 9; refine (T.out _).mono ?_; rintro e w2 ⟨rfl, hb2⟩; have HB := Lib.hid (bthen HB.out hb2)))
    have d0 : w2.cell? ⟨w.heap.size, 0, none⟩ = some (.int .i64 f) := by rw [(bcells hb2).1 _ _ z1, hc1 _ _ (by simp)]; go_simp
    have d1 : w2.cell? ⟨w.heap.size, 1, none⟩ = some (.int .i64 t) := by rw [(bcells hb2).1 _ _ z1, hc1 _ _ (by simp)]; go_simp
    have d2 : w2.cell? ⟨w.heap.size, 2, none⟩ = some (.int .i64 d) := by rw [(bcells hb2).1 _ _ z1, hc1 _ _ (by simp)]; go_simp
    have d3 : w2.cell? ⟨w.heap.size, 3, none⟩ = some (.bool p) := by rw [(bcells hb2).1 _ _ z1, hc1 _ _ (by simp)]; go_simp
    have z2 := Nat.lt_of_lt_of_le z1 hb2.size
    clear hc1 hf1 hb1 hb2
    go_region_held3 (fun w' => Below w2.heap.size w2 w' ∧ w.heap.size < w'.heap.size ∧ w'.cell? ⟨w.heap.size, 0, none⟩ = some (.int .i64 f) ∧ w'.cell? ⟨w.heap.size, 1, none⟩ = some (.int .i64 t) ∧ w'.cell? ⟨w.heap.size, 2, none⟩ = some (.int .i64 d) ∧ w'.cell? ⟨w.heap.size, 3, none⟩ = some (.bool p)) (first | assumption | exact ⟨(bref w2).drew, z2, d0, d1, d2, d3⟩ | exact heldR_step (by assumption) hb)
      (first
        | (go_at_call 10; refine (RT.out _).mono ?_; rintro e wn ⟨rfl, hb⟩)
        | (go_at_call 11; refine (C.out _).mono ?_; rintro e wn ⟨rfl, hb⟩)
        | (go_at_call 12; refine (RC.out _).mono ?_; rintro e wn ⟨rfl, hb⟩))
    rename_i wh hH
    obtain ⟨hHb, hHz, g0, g1, g2, g3⟩ := hH
    have HB := Lib.hid (bthen HB.out hHb)
    clear hHb d0 d1 d2 d3
    go_wp2
    go_ret
    exact ⟨rfl, HB.out⟩
end Go.Proofs.Ytfemicpfkgecbaa.moveTexts
