/-
  The reference's Reaches.
-/
import Derived.Test.YtilhicohfnaclaaDoorRefLine
import Derived.Test.YtilhicohfnaclaaDoorStepRef
namespace Go.Proofs.YtilhicohfnaclaaDoor
set_option maxRecDepth 100000
open Go.RowKit
set_option linter.unusedVariables false
set_option linter.unusedSimpArgs false

theorem load_row_want {P : Program} {ops : Array Oper} {rest : List Oper} {o : Oper} {a : Act} {w : World} {Q : Exit → Act → World → Prop} (hw : Region.wanted o (yielded ops a.tmps) = true) (ty : TypeId) (x : Operand) (ho : o.op = .load ty x)
    (g : Nat) (hx : a.eval x = .pointer (some ⟨g, 0, none⟩)) (t : TypeId) (cs : Array Value) (fr : Nat × Nat) (d : TypeDesc) (hg : w.heap[g]? = some (.cells cs t fr))
    (hu : P.underlying ty = some d) (hd : (match d with | .struct _ | .array _ _ => true | _ => false) = true) (hi : (P.info? ty).map (·.size) = some cs.size)
    (h : wpList P ops Q rest (a.put o.dst (.agg cs)) w) : wpList P ops Q (o :: rest) a w :=
  wpList_step fun K hK => by
    rw [if_pos hw]
    exact wp_load_row ty x ho g hx t cs fr d hg hu hd hi (hK _ _ h)
theorem line_out (q t : Int) (h : q < 0 ∨ 80 < q) : lineF q t = 0 := by
  unfold lineF
  exact if_pos (by omega)
set_option maxHeartbeats 4000000 in
theorem reaches_any (p q : Int) (t n : Nat) (h0 : -128 ≤ p) (h1 : p ≤ 127) (ht : t < 81) (w : World) :
    Calls Tryd.prog 66 #[.int .i64 p, .int .i64 q, .int .i64 (t : Int), .agg (arrP n 81)] w fun e w' => e = .returned (.bool (reachF p q t n)) ∧ Below w.heap.size w w' := by
  have K := Lib.hid (fun W => refKind_any p W h0 h1)
  have S := Lib.hid (fun W => refSide_any p W h0 h1)
  have ST := Lib.hid (fun W => refStep_any p q t h0 h1 W)
  have L := Lib.hid (fun W => refLine_any q t W)
  have FR := Lib.hid (fun W => refFree_any q t n W)
  have H30 := Lib.hid (Tryd.underlying42)
  have HI := Lib.hid (show (Tryd.prog.info? 42).map (·.size) = some (arrP n 81).size by rw [arrP_size]; kernel_rfl)
  have hro : reachF p q t n = (refStepF p q t || (slidesF p q t && freeF q t n)) := rfl
  have hsl : slidesF p q t = if kindF p = 2 then decide (lineF q t = 1) && decide (q / 9 = (t : Int) / 9) && decide (0 < aheadF (sideF p) q t)
    else if kindF p = 6 ∨ kindF p = 14 then decide (lineF q t = 2) else if kindF p = 7 ∨ kindF p = 15 then decide (lineF q t = 1) else false := rfl
  have hah : aheadF (sideF p) q t = if sideF p = 1 then -(q % 9 - (t : Int) % 9) else q % 9 - (t : Int) % 9 := rfl
  have hlo := line_out q t
  rw [hro]
  clear hro
  generalize arrP n 81 = A at FR HI ⊢
  generalize hst : refStepF p q t = st at ST ⊢
  generalize freeF q t n = fr at FR ⊢
  have HX := Lib.hid (show (w.alloc (.cells A 42)).heap[w.heap.size]? = some (.cells A 42) from heap_alloc_new w _)
  clear hst h0 h1
  cases st with
  | true =>
    clear hsl hah hlo
    go_enter Tryd.func66, Tryd.ntmps66
    go_wp2_with (go_at_call 102; refine (ST.out _).mono ?_; rintro e w1 ⟨rfl, hb1⟩)
    go_ret
    exact ⟨rfl, bthen (ball (bref w) _) hb1⟩
  | false =>
    generalize hln : lineF q t = ln at L hsl hlo
    generalize hk : kindF p = k at K hsl
    generalize hs : sideF p = s at S hah hsl
    have hss : s = 1 ∨ (s == 1) = false := by
      by_cases e : s = 1
      · exact .inl e
      · exact .inr (by simpa using e)
    have hkk : k = 2 ∨ (k = 6 ∨ k = 14) ∨ (k = 7 ∨ k = 15) ∨ ((k == 2) = false ∧ (k == 6) = false ∧ (k == 14) = false ∧ (k == 7) = false ∧ (k == 15) = false) := by
      have hn : ∀ x y : Int, (x == y) = false ↔ x ≠ y := fun x y => by simp
      rw [hn, hn, hn, hn, hn]
      omega
    rcases hkk with rfl | hkk | hkk | ⟨k1, k2, k3, k4, k5⟩
    · -- a lance
      rw [if_pos rfl] at hsl
      by_cases c1 : ln = 1
      · have hr : 0 ≤ q ∧ q ≤ 80 := by
          by_cases hq : q < 0 ∨ 80 < q
          · exact absurd ((hlo hq).symm.trans c1) (by decide)
          · omega
        obtain ⟨q0, q1⟩ := hr
        subst c1
        by_cases c2 : q / 9 = (t : Int) / 9
        · have t2 : (q / 9 == (t : Int) / 9) = true := by simpa using c2
          rcases hss with rfl | hs1
          · rw [if_pos rfl] at hah
            by_cases c3 : 0 < -(q % 9 - (t : Int) % 9)
            · have e : slidesF p q t = true := by rw [hsl, hah]; simp [c2]; omega
              rw [e]
              have c4 : q % 9 < (t : Int) % 9 := by omega
              have c5 : 0 < (t : Int) % 9 - q % 9 := by omega
              clear hsl hah hlo e c2
              go_enter Tryd.func66, Tryd.ntmps66
              go_wp2_with (first
                | (go_at_call 102; refine (ST.out _).mono ?_; rintro e w1 ⟨rfl, hb1⟩)
                | (go_at_call 103; refine (L.out _).mono ?_; rintro e w2 ⟨rfl, rfl⟩)
                | (go_at_call 35; refine (S.out _).mono ?_; rintro e w2 ⟨rfl, rfl⟩)
                | (go_at_call 59; refine (K.out _).mono ?_; rintro e w2 ⟨rfl, rfl⟩)
                | (refine load_row_want (by rfl) 42 _ rfl w.heap.size rfl 42 _ _ _ ((hb1.block w.heap.size (by simp)).trans HX.out) H30.out rfl HI.out ?_)
                | (go_at_call 104; refine (FR.out _).mono ?_; rintro e w4 ⟨rfl, hb4⟩))
              go_ret
              refine ⟨congrArg (fun b => Ending.returned (.bool b)) ?_, by first | exact bthen (bthen (ball (bref w) _) hb1) hb4 | exact bthen (ball (bref w) _) hb1⟩
              first | rfl | simp
            · have e : slidesF p q t = false := by rw [hsl, hah]; simp; omega
              rw [e]
              have c4 : ¬ q % 9 < (t : Int) % 9 := by omega
              have c5 : ¬ 0 < (t : Int) % 9 - q % 9 := by omega
              clear hsl hah hlo e c2
              go_enter Tryd.func66, Tryd.ntmps66
              go_wp2_with (first
                | (go_at_call 102; refine (ST.out _).mono ?_; rintro e w1 ⟨rfl, hb1⟩)
                | (go_at_call 103; refine (L.out _).mono ?_; rintro e w2 ⟨rfl, rfl⟩)
                | (go_at_call 35; refine (S.out _).mono ?_; rintro e w2 ⟨rfl, rfl⟩)
                | (go_at_call 59; refine (K.out _).mono ?_; rintro e w2 ⟨rfl, rfl⟩)
                | (refine load_row_want (by rfl) 42 _ rfl w.heap.size rfl 42 _ _ _ ((hb1.block w.heap.size (by simp)).trans HX.out) H30.out rfl HI.out ?_)
                | (go_at_call 104; refine (FR.out _).mono ?_; rintro e w4 ⟨rfl, hb4⟩))
              go_ret
              refine ⟨congrArg (fun b => Ending.returned (.bool b)) ?_, by first | exact bthen (bthen (ball (bref w) _) hb1) hb4 | exact bthen (ball (bref w) _) hb1⟩
              first | rfl | simp
          · rw [if_neg (by simpa using hs1)] at hah
            by_cases c3 : 0 < (q % 9 - (t : Int) % 9)
            · have e : slidesF p q t = true := by rw [hsl, hah]; simp [c2]; omega
              rw [e]
              have c4 : (t : Int) % 9 < q % 9 := by omega
              clear hsl hah hlo e c2
              go_enter Tryd.func66, Tryd.ntmps66
              go_wp2_with (first
                | (go_at_call 102; refine (ST.out _).mono ?_; rintro e w1 ⟨rfl, hb1⟩)
                | (go_at_call 103; refine (L.out _).mono ?_; rintro e w2 ⟨rfl, rfl⟩)
                | (go_at_call 35; refine (S.out _).mono ?_; rintro e w2 ⟨rfl, rfl⟩)
                | (go_at_call 59; refine (K.out _).mono ?_; rintro e w2 ⟨rfl, rfl⟩)
                | (refine load_row_want (by rfl) 42 _ rfl w.heap.size rfl 42 _ _ _ ((hb1.block w.heap.size (by simp)).trans HX.out) H30.out rfl HI.out ?_)
                | (go_at_call 104; refine (FR.out _).mono ?_; rintro e w4 ⟨rfl, hb4⟩))
              go_ret
              refine ⟨congrArg (fun b => Ending.returned (.bool b)) ?_, by first | exact bthen (bthen (ball (bref w) _) hb1) hb4 | exact bthen (ball (bref w) _) hb1⟩
              first | rfl | simp
            · have e : slidesF p q t = false := by rw [hsl, hah]; simp; omega
              rw [e]
              have c4 : ¬ (t : Int) % 9 < q % 9 := by omega
              clear hsl hah hlo e c2
              go_enter Tryd.func66, Tryd.ntmps66
              go_wp2_with (first
                | (go_at_call 102; refine (ST.out _).mono ?_; rintro e w1 ⟨rfl, hb1⟩)
                | (go_at_call 103; refine (L.out _).mono ?_; rintro e w2 ⟨rfl, rfl⟩)
                | (go_at_call 35; refine (S.out _).mono ?_; rintro e w2 ⟨rfl, rfl⟩)
                | (go_at_call 59; refine (K.out _).mono ?_; rintro e w2 ⟨rfl, rfl⟩)
                | (refine load_row_want (by rfl) 42 _ rfl w.heap.size rfl 42 _ _ _ ((hb1.block w.heap.size (by simp)).trans HX.out) H30.out rfl HI.out ?_)
                | (go_at_call 104; refine (FR.out _).mono ?_; rintro e w4 ⟨rfl, hb4⟩))
              go_ret
              refine ⟨congrArg (fun b => Ending.returned (.bool b)) ?_, by first | exact bthen (bthen (ball (bref w) _) hb1) hb4 | exact bthen (ball (bref w) _) hb1⟩
              first | rfl | simp
        · have t2 : (q / 9 == (t : Int) / 9) = false := by simpa using c2
          have e : slidesF p q t = false := by rw [hsl]; simp [c2]
          rw [e]
          clear hsl hah hlo e c2
          rcases hss with rfl | hs1
          · skip
            go_enter Tryd.func66, Tryd.ntmps66
            go_wp2_with (first
              | (go_at_call 102; refine (ST.out _).mono ?_; rintro e w1 ⟨rfl, hb1⟩)
              | (go_at_call 103; refine (L.out _).mono ?_; rintro e w2 ⟨rfl, rfl⟩)
              | (go_at_call 35; refine (S.out _).mono ?_; rintro e w2 ⟨rfl, rfl⟩)
              | (go_at_call 59; refine (K.out _).mono ?_; rintro e w2 ⟨rfl, rfl⟩)
              | (refine load_row_want (by rfl) 42 _ rfl w.heap.size rfl 42 _ _ _ ((hb1.block w.heap.size (by simp)).trans HX.out) H30.out rfl HI.out ?_)
              | (go_at_call 104; refine (FR.out _).mono ?_; rintro e w4 ⟨rfl, hb4⟩))
            go_ret
            refine ⟨congrArg (fun b => Ending.returned (.bool b)) ?_, by first | exact bthen (bthen (ball (bref w) _) hb1) hb4 | exact bthen (ball (bref w) _) hb1⟩
            first | rfl | simp
          · skip
            go_enter Tryd.func66, Tryd.ntmps66
            go_wp2_with (first
              | (go_at_call 102; refine (ST.out _).mono ?_; rintro e w1 ⟨rfl, hb1⟩)
              | (go_at_call 103; refine (L.out _).mono ?_; rintro e w2 ⟨rfl, rfl⟩)
              | (go_at_call 35; refine (S.out _).mono ?_; rintro e w2 ⟨rfl, rfl⟩)
              | (go_at_call 59; refine (K.out _).mono ?_; rintro e w2 ⟨rfl, rfl⟩)
              | (refine load_row_want (by rfl) 42 _ rfl w.heap.size rfl 42 _ _ _ ((hb1.block w.heap.size (by simp)).trans HX.out) H30.out rfl HI.out ?_)
              | (go_at_call 104; refine (FR.out _).mono ?_; rintro e w4 ⟨rfl, hb4⟩))
            go_ret
            refine ⟨congrArg (fun b => Ending.returned (.bool b)) ?_, by first | exact bthen (bthen (ball (bref w) _) hb1) hb4 | exact bthen (ball (bref w) _) hb1⟩
            first | rfl | simp
      · have t1 : (ln == 1) = false := by simpa using c1
        have e : slidesF p q t = false := by rw [hsl]; simp [c1]
        rw [e]
        clear hsl hah hlo e c1
        rcases hss with rfl | hs1
        · skip
          go_enter Tryd.func66, Tryd.ntmps66
          go_wp2_with (first
            | (go_at_call 102; refine (ST.out _).mono ?_; rintro e w1 ⟨rfl, hb1⟩)
            | (go_at_call 103; refine (L.out _).mono ?_; rintro e w2 ⟨rfl, rfl⟩)
            | (go_at_call 35; refine (S.out _).mono ?_; rintro e w2 ⟨rfl, rfl⟩)
            | (go_at_call 59; refine (K.out _).mono ?_; rintro e w2 ⟨rfl, rfl⟩)
            | (refine load_row_want (by rfl) 42 _ rfl w.heap.size rfl 42 _ _ _ ((hb1.block w.heap.size (by simp)).trans HX.out) H30.out rfl HI.out ?_)
            | (go_at_call 104; refine (FR.out _).mono ?_; rintro e w4 ⟨rfl, hb4⟩))
          go_ret
          refine ⟨congrArg (fun b => Ending.returned (.bool b)) ?_, by first | exact bthen (bthen (ball (bref w) _) hb1) hb4 | exact bthen (ball (bref w) _) hb1⟩
          first | rfl | simp
        · skip
          go_enter Tryd.func66, Tryd.ntmps66
          go_wp2_with (first
            | (go_at_call 102; refine (ST.out _).mono ?_; rintro e w1 ⟨rfl, hb1⟩)
            | (go_at_call 103; refine (L.out _).mono ?_; rintro e w2 ⟨rfl, rfl⟩)
            | (go_at_call 35; refine (S.out _).mono ?_; rintro e w2 ⟨rfl, rfl⟩)
            | (go_at_call 59; refine (K.out _).mono ?_; rintro e w2 ⟨rfl, rfl⟩)
            | (refine load_row_want (by rfl) 42 _ rfl w.heap.size rfl 42 _ _ _ ((hb1.block w.heap.size (by simp)).trans HX.out) H30.out rfl HI.out ?_)
            | (go_at_call 104; refine (FR.out _).mono ?_; rintro e w4 ⟨rfl, hb4⟩))
          go_ret
          refine ⟨congrArg (fun b => Ending.returned (.bool b)) ?_, by first | exact bthen (bthen (ball (bref w) _) hb1) hb4 | exact bthen (ball (bref w) _) hb1⟩
          first | rfl | simp
    · rw [if_neg (by omega), if_pos hkk] at hsl
      rw [hsl]
      clear hsl hah hlo
      by_cases c1 : ln = 2
      · subst c1
        rcases hss with rfl | hs1 <;> rcases hkk with rfl | rfl
        all_goals
          go_enter Tryd.func66, Tryd.ntmps66
          go_wp2_with (first
            | (go_at_call 102; refine (ST.out _).mono ?_; rintro e w1 ⟨rfl, hb1⟩)
            | (go_at_call 103; refine (L.out _).mono ?_; rintro e w2 ⟨rfl, rfl⟩)
            | (go_at_call 35; refine (S.out _).mono ?_; rintro e w2 ⟨rfl, rfl⟩)
            | (go_at_call 59; refine (K.out _).mono ?_; rintro e w2 ⟨rfl, rfl⟩)
            | (refine load_row_want (by rfl) 42 _ rfl w.heap.size rfl 42 _ _ _ ((hb1.block w.heap.size (by simp)).trans HX.out) H30.out rfl HI.out ?_)
            | (go_at_call 104; refine (FR.out _).mono ?_; rintro e w4 ⟨rfl, hb4⟩))
          go_ret
          refine ⟨congrArg (fun b => Ending.returned (.bool b)) ?_, by first | exact bthen (bthen (ball (bref w) _) hb1) hb4 | exact bthen (ball (bref w) _) hb1⟩
          first | rfl | simp
      · have t1 : (ln == 2) = false := by simpa using c1
        rw [decide_eq_false c1]
        clear c1
        rcases hss with rfl | hs1 <;> rcases hkk with rfl | rfl
        all_goals
          go_enter Tryd.func66, Tryd.ntmps66
          go_wp2_with (first
            | (go_at_call 102; refine (ST.out _).mono ?_; rintro e w1 ⟨rfl, hb1⟩)
            | (go_at_call 103; refine (L.out _).mono ?_; rintro e w2 ⟨rfl, rfl⟩)
            | (go_at_call 35; refine (S.out _).mono ?_; rintro e w2 ⟨rfl, rfl⟩)
            | (go_at_call 59; refine (K.out _).mono ?_; rintro e w2 ⟨rfl, rfl⟩)
            | (refine load_row_want (by rfl) 42 _ rfl w.heap.size rfl 42 _ _ _ ((hb1.block w.heap.size (by simp)).trans HX.out) H30.out rfl HI.out ?_)
            | (go_at_call 104; refine (FR.out _).mono ?_; rintro e w4 ⟨rfl, hb4⟩))
          go_ret
          refine ⟨congrArg (fun b => Ending.returned (.bool b)) ?_, by first | exact bthen (bthen (ball (bref w) _) hb1) hb4 | exact bthen (ball (bref w) _) hb1⟩
          first | rfl | simp
    · rw [if_neg (by omega), if_neg (by omega), if_pos hkk] at hsl
      rw [hsl]
      clear hsl hah hlo
      by_cases c1 : ln = 1
      · subst c1
        rcases hss with rfl | hs1 <;> rcases hkk with rfl | rfl
        all_goals
          go_enter Tryd.func66, Tryd.ntmps66
          go_wp2_with (first
            | (go_at_call 102; refine (ST.out _).mono ?_; rintro e w1 ⟨rfl, hb1⟩)
            | (go_at_call 103; refine (L.out _).mono ?_; rintro e w2 ⟨rfl, rfl⟩)
            | (go_at_call 35; refine (S.out _).mono ?_; rintro e w2 ⟨rfl, rfl⟩)
            | (go_at_call 59; refine (K.out _).mono ?_; rintro e w2 ⟨rfl, rfl⟩)
            | (refine load_row_want (by rfl) 42 _ rfl w.heap.size rfl 42 _ _ _ ((hb1.block w.heap.size (by simp)).trans HX.out) H30.out rfl HI.out ?_)
            | (go_at_call 104; refine (FR.out _).mono ?_; rintro e w4 ⟨rfl, hb4⟩))
          go_ret
          refine ⟨congrArg (fun b => Ending.returned (.bool b)) ?_, by first | exact bthen (bthen (ball (bref w) _) hb1) hb4 | exact bthen (ball (bref w) _) hb1⟩
          first | rfl | simp
      · have t1 : (ln == 1) = false := by simpa using c1
        rw [decide_eq_false c1]
        clear c1
        rcases hss with rfl | hs1 <;> rcases hkk with rfl | rfl
        all_goals
          go_enter Tryd.func66, Tryd.ntmps66
          go_wp2_with (first
            | (go_at_call 102; refine (ST.out _).mono ?_; rintro e w1 ⟨rfl, hb1⟩)
            | (go_at_call 103; refine (L.out _).mono ?_; rintro e w2 ⟨rfl, rfl⟩)
            | (go_at_call 35; refine (S.out _).mono ?_; rintro e w2 ⟨rfl, rfl⟩)
            | (go_at_call 59; refine (K.out _).mono ?_; rintro e w2 ⟨rfl, rfl⟩)
            | (refine load_row_want (by rfl) 42 _ rfl w.heap.size rfl 42 _ _ _ ((hb1.block w.heap.size (by simp)).trans HX.out) H30.out rfl HI.out ?_)
            | (go_at_call 104; refine (FR.out _).mono ?_; rintro e w4 ⟨rfl, hb4⟩))
          go_ret
          refine ⟨congrArg (fun b => Ending.returned (.bool b)) ?_, by first | exact bthen (bthen (ball (bref w) _) hb1) hb4 | exact bthen (ball (bref w) _) hb1⟩
          first | rfl | simp
    · have hn : ∀ x y : Int, (x == y) = false → x ≠ y := fun x y h => by simpa using h
      rw [if_neg (hn _ _ k1), if_neg (by have := hn _ _ k2; have := hn _ _ k3; omega), if_neg (by have := hn _ _ k4; have := hn _ _ k5; omega)] at hsl
      rw [hsl]
      clear hsl hah hlo hn
      rcases hss with rfl | hs1
      · skip
        go_enter Tryd.func66, Tryd.ntmps66
        go_wp2_with (first
          | (go_at_call 102; refine (ST.out _).mono ?_; rintro e w1 ⟨rfl, hb1⟩)
          | (go_at_call 103; refine (L.out _).mono ?_; rintro e w2 ⟨rfl, rfl⟩)
          | (go_at_call 35; refine (S.out _).mono ?_; rintro e w2 ⟨rfl, rfl⟩)
          | (go_at_call 59; refine (K.out _).mono ?_; rintro e w2 ⟨rfl, rfl⟩)
          | (refine load_row_want (by rfl) 42 _ rfl w.heap.size rfl 42 _ _ _ ((hb1.block w.heap.size (by simp)).trans HX.out) H30.out rfl HI.out ?_)
          | (go_at_call 104; refine (FR.out _).mono ?_; rintro e w4 ⟨rfl, hb4⟩))
        go_ret
        refine ⟨congrArg (fun b => Ending.returned (.bool b)) ?_, by first | exact bthen (bthen (ball (bref w) _) hb1) hb4 | exact bthen (ball (bref w) _) hb1⟩
        first | rfl | simp
      · skip
        go_enter Tryd.func66, Tryd.ntmps66
        go_wp2_with (first
          | (go_at_call 102; refine (ST.out _).mono ?_; rintro e w1 ⟨rfl, hb1⟩)
          | (go_at_call 103; refine (L.out _).mono ?_; rintro e w2 ⟨rfl, rfl⟩)
          | (go_at_call 35; refine (S.out _).mono ?_; rintro e w2 ⟨rfl, rfl⟩)
          | (go_at_call 59; refine (K.out _).mono ?_; rintro e w2 ⟨rfl, rfl⟩)
          | (refine load_row_want (by rfl) 42 _ rfl w.heap.size rfl 42 _ _ _ ((hb1.block w.heap.size (by simp)).trans HX.out) H30.out rfl HI.out ?_)
          | (go_at_call 104; refine (FR.out _).mono ?_; rintro e w4 ⟨rfl, hb4⟩))
        go_ret
        refine ⟨congrArg (fun b => Ending.returned (.bool b)) ?_, by first | exact bthen (bthen (ball (bref w) _) hb1) hb4 | exact bthen (ball (bref w) _) hb1⟩
        first | rfl | simp
end Go.Proofs.YtilhicohfnaclaaDoor
