/-
  The step package's leaf calls: isSquare, Turn, From, Far.
-/
import Derived.Test.YtilhicohfnaclaaDoorDirs
import Derived.Test.YtilhicohfnaclaaDoorRefKind
import Derived.Test.YtilhicohfnaclaaDoorFar
import Derived.OwnWalk
import Derived.WalkSmall
import Derived.ArgAppend
import Derived.Test.YtilhicohfnaclaaDoorRegFrame
import Derived.LoopTactic
import Derived.Deep.MidRow
namespace Go.Proofs.YtilhicohfnaclaaDoor
open Go.RowKit
set_option linter.unusedVariables false

theorem stays {P : Program} {f : FuncId} {a : Array Value} {w : World} {E : Ending} (h : Calls P f a w fun e w' => e = E ∧ w = w') : Calls P f a w fun e w' => e = E ∧ Below w.heap.size w w' :=
  h.mono fun e w' h => ⟨h.1, h.2 ▸ bref w⟩
theorem held2_fst {wc W : World} {s : Nat} {x y : Value} (h : Below wc.heap.size wc W ∧ s < W.heap.size ∧ W.cell? ⟨s, 0, none⟩ = some x ∧ W.cell? ⟨s, 1, none⟩ = some y) : Below wc.heap.size wc W := h.1
/-- One variable of two cells, held while a statement makes memory. -/
theorem held2_step {wc W w' : World} {s : Nat} {x y : Value} (h : Below wc.heap.size wc W ∧ s < W.heap.size ∧ W.cell? ⟨s, 0, none⟩ = some x ∧ W.cell? ⟨s, 1, none⟩ = some y) (hb : Below W.heap.size W w') :
    Below wc.heap.size wc w' ∧ s < w'.heap.size ∧ w'.cell? ⟨s, 0, none⟩ = some x ∧ w'.cell? ⟨s, 1, none⟩ = some y := by
  obtain ⟨h0, h1, h3, h4⟩ := h
  have hs := hb.size
  exact ⟨bthen h0 hb, by omega, (hb.cell (p := ⟨s, 0, none⟩) h1).trans h3, (hb.cell (p := ⟨s, 1, none⟩) h1).trans h4⟩

theorem turn_any (f r s : Int) (w : World) :
    Calls Tryd.prog 100 #[.agg #[.int .i64 f, .int .i64 r], .int .i64 s] w fun e w' => e = .returned (.agg #[.int .i64 (turnF s (f, r)).1, .int .i64 (turnF s (f, r)).2]) ∧ Below w.heap.size w w' := by
  by_cases h : s = 1
  · subst h
    rw [show turnF 1 (f, r) = (wrap64 (-f), wrap64 (-r)) from rfl]
    go_enter Tryd.func100, Tryd.ntmps100
    go_wp2
    exact bodyPost_ret (v := .agg #[.int .i64 (wrap64 (-f)), .int .i64 (wrap64 (-r))]) (by simp [results, Tryd.results100, go_sem]) rfl ⟨rfl, ball (ball (bref _) _) _⟩
  · rw [show turnF s (f, r) = (f, r) from if_neg h]
    go_enter Tryd.func100, Tryd.ntmps100
    go_wp2
    exact bodyPost_ret (v := .agg #[.int .i64 f, .int .i64 r]) (by simp [results, Tryd.results100, go_sem]) rfl ⟨rfl, ball (ball (bref _) _) _⟩

theorem from_any (f r q : Int) (w : World) :
    Calls Tryd.prog 121 #[.agg #[.int .i64 f, .int .i64 r], .int .i64 q] w fun e w' => e = .returned (.int .i64 (fromF (f, r) q)) ∧ Below w.heap.size w w' := by
  have I := Lib.hid (fun W => isSquare_any q W)
  by_cases h : 0 ≤ q ∧ q < 81
  · rw [show fromF (f, r) q = squareF (wrap64 (q / 9 + f)) (wrap64 (q % 9 + r)) from if_pos h]
    rw [show decide (0 ≤ q ∧ q < 81) = true by simp [h]] at I
    have F := Lib.hid (fun W => stays (file_any q W h.1 (by omega)))
    have R := Lib.hid (fun W => stays (rank_any q W h.1 (by omega)))
    have S := Lib.hid (fun W => stays (square_any (wrap64 (q / 9 + f)) (wrap64 (q % 9 + r)) W))
    have e1 : IntKind.i64.wrap (q / 9 + f) = wrap64 (q / 9 + f) := wrap_i64_eq _
    have e2 : IntKind.i64.wrap (q % 9 + r) = wrap64 (q % 9 + r) := wrap_i64_eq _
    generalize h1 : wrap64 (q / 9 + f) = A at S e1 ⊢
    generalize h2 : wrap64 (q % 9 + r) = B at S e2 ⊢
    generalize squareF A B = z at S ⊢
    go_enter Tryd.func121, Tryd.ntmps121
    go_wp2_with (go_at_call 128; refine (I.out _).mono ?_; rintro e w1 ⟨rfl, rfl⟩)
    go_region_held3 (fun w' => Below w.heap.size w w' ∧ w.heap.size < w'.heap.size ∧ w'.cell? ⟨w.heap.size, 0, none⟩ = some (.int .i64 f) ∧ w'.cell? ⟨w.heap.size, 1, none⟩ = some (.int .i64 r)) (first | exact ⟨(ball (bref w) _).drew, by simp, by go_simp, by go_simp⟩ | exact held2_step (by assumption) hb)
      (first
        | (go_at_call 119; refine (F.out _).mono ?_; rintro e wn ⟨rfl, hb⟩)
        | (go_at_call 126; refine (R.out _).mono ?_; rintro e wn ⟨rfl, hb⟩)
        | (go_at_call 116; refine (S.out _).mono ?_; rintro e wn ⟨rfl, hb⟩))
    go_wp2
    go_ret
    exact ⟨rfl, held2_fst (by assumption)⟩
  · rw [show fromF (f, r) q = -1 from if_neg h]
    rw [show decide (0 ≤ q ∧ q < 81) = false by simpa using h] at I
    go_enter Tryd.func121, Tryd.ntmps121
    go_wp2_with (go_at_call 128; refine (I.out _).mono ?_; rintro e w1 ⟨rfl, rfl⟩)
    go_ret
    exact ⟨rfl, ball (bref _) _⟩

end Go.Proofs.YtilhicohfnaclaaDoor

/-
  The step package's lists of ways: aslant, straight, Dirs.
-/
namespace Go.Proofs.YtilhicohfnaclaaDoor
open Go.RowKit
set_option linter.unusedVariables false

/-- A list of ways, laid from block g on. -/
def cellsD (l : List (Int × Int)) : List Value := l.flatMap fun d => [.int .i64 d.1, .int .i64 d.2]
structure DirsAt (w : World) (g : Nat) (l : List (Int × Int)) : Prop where
  lt : g < w.heap.size
  at0 : ∀ (j : Nat) (u : Value), (cellsD l)[j]? = some u → w.cell? ⟨g, j, none⟩ = some u

theorem DirsAt.grow {w w' : World} {g : Nat} {l : List (Int × Int)} (h : DirsAt w g l) (hb : Below w.heap.size w w') : DirsAt w' g l :=
  ⟨Nat.lt_of_lt_of_le h.lt hb.size, fun j u hj => (hb.cell (p := ⟨g, j, none⟩) h.lt).trans (h.at0 j u hj)⟩
theorem DirsAt.new (w : World) (l : List (Int × Int)) (cs : Array Value) (t : TypeId) (h : cs.toList = cellsD l) : DirsAt (w.alloc (.cells cs t)) w.heap.size l := by
  refine ⟨by simp, fun j u hj => ?_⟩
  rw [← h] at hj
  have e := heap_alloc_new w (.cells cs t)
  simp only [World.cell?, e]
  simpa using hj
theorem DirsAt.row {w : World} {B n : Nat} {t : TypeId} {v : Value} {l : List (Int × Int)} (h : w.ownsRow B t 2 v n (cellsD l)) (hn : n ≠ 0) : ∃ g cap, v = .slice (some ⟨g, 0, none⟩) n cap ∧ B ≤ g ∧ DirsAt w g l := by
  rcases h.2 with ⟨-, h2⟩ | ⟨g, cap, cur, hv, hb, hg, -⟩
  · exact absurd h2 hn
  · have ho : v.ownBlock = some g := by rw [hv]; rfl
    refine ⟨g, cap, hv, hb, (Array.getElem?_eq_some_iff.1 hg).1, fun j u hj => ?_⟩
    have := h.cells ho j u hj
    have e : (⟨g, 0, none⟩ : Addr).add j = ⟨g, j, none⟩ := by unfold Addr.add; split <;> simp_all
    rw [e] at this
    exact this
/-- A value that is a list of ways, in memory that lies behind B. -/
def DirsV (w : World) (B : Nat) (v : Value) (l : List (Int × Int)) : Prop := (v = .slice none 0 0 ∧ l = []) ∨ ∃ g cap, v = .slice (some ⟨g, 0, none⟩) l.length cap ∧ B ≤ g ∧ DirsAt w g l

theorem DirsV.parts {w : World} {B : Nat} {v : Value} {l : List (Int × Int)} (h : DirsV w B v l) : ∃ ao cap, v = .slice ao l.length cap ∧ (l.length ≠ 0 → ∃ g, ao = some ⟨g, 0, none⟩ ∧ B ≤ g ∧ DirsAt w g l) := by
  rcases h with ⟨rfl, rfl⟩ | ⟨g, cap, rfl, hb, hd⟩
  · exact ⟨none, 0, rfl, fun h => absurd rfl h⟩
  · exact ⟨_, cap, rfl, fun _ => ⟨g, rfl, hb, hd⟩⟩

theorem infoDir : (Tryd.prog.info? 109).map (fun i => (i.zero, i.size, i.bytes)) = some (some (.agg #[.int .i64 0, .int .i64 0]), 2, 16) := by kernel_rfl

theorem straight_any (w : World) :
    Calls Tryd.prog 130 #[] w fun e w' => e = .returned (.slice (some ⟨w.heap.size, 0, none⟩) 4 4) ∧ DirsAt w' w.heap.size straightL ∧ Below w.heap.size w w' := by
  go_enter Tryd.func130, Tryd.ntmps130
  go_wp2
  go_ret
  exact ⟨rfl, DirsAt.new w straightL _ _ rfl, ball (bref _) _⟩
theorem aslant_any (w : World) :
    Calls Tryd.prog 129 #[] w fun e w' => e = .returned (.slice (some ⟨w.heap.size, 0, none⟩) 4 4) ∧ DirsAt w' w.heap.size aslantL ∧ Below w.heap.size w w' := by
  go_enter Tryd.func129, Tryd.ntmps129
  go_wp2
  go_ret
  exact ⟨rfl, DirsAt.new w aslantL _ _ rfl, ball (bref _) _⟩

theorem DirsV.lit (w : World) (B : Nat) (hB : B ≤ w.heap.size) (l : List (Int × Int)) (cs : Array Value) (t : TypeId) (n : Nat) (hn : n = l.length) (h : cs.toList = cellsD l) : DirsV (w.alloc (.cells cs t)) B (.slice (some ⟨w.heap.size, 0, none⟩) n n) l := by
  subst hn
  exact .inr ⟨_, _, rfl, hB, DirsAt.new w l cs t h⟩

theorem DirsAt.add {w : World} {g : Nat} {l : List (Int × Int)} (h : DirsAt w g l) : ∀ j u, (cellsD l)[j]? = some u → w.cell? ((⟨g, 0, none⟩ : Addr).add j) = some u := by
  intro j u hj
  have e : (⟨g, 0, none⟩ : Addr).add j = ⟨g, j, none⟩ := by unfold Addr.add; split <;> simp_all
  rw [e]
  exact h.at0 j u hj
theorem DirsAt.add' {w : World} {g : Nat} {l : List (Int × Int)} (h : DirsAt w g l) : ∀ b, some (⟨g, 0, none⟩ : Addr) = some b → ∀ j u, (cellsD l)[j]? = some u → w.cell? (b.add j) = some u := by
  intro b hb
  cases hb
  exact h.add
theorem oneCells (l : List (Int × Int)) : ∀ u ∈ cellsD l, u.oneCell' = true := by
  intro u hu
  unfold cellsD at hu
  rw [List.mem_flatMap] at hu
  obtain ⟨d, -, hd⟩ := hu
  simp at hd
  rcases hd with rfl | rfl <;> rfl

theorem dirs_4 (w : World) :
    Calls Tryd.prog 120 #[.int .i64 4] w fun e w' => ∃ v, e = .returned v ∧ DirsV w' w.heap.size v (dirsL 4) ∧ Below w.heap.size w w' := by
  obtain ⟨i0, hi, hz0, hz1, hz2⟩ := info_parts infoDir
  go_enter Tryd.func120, Tryd.ntmps120
  go_wp2_with (first
    | (go_at_call 129; refine (aslant_any _).mono ?_; rintro e w1 ⟨rfl, h1, hb1⟩)
    | (at_builtin; refine wpList_append_grows _ rfl _ _ 106 rfl 109 i0 (.agg #[.int .i64 0, .int .i64 0]) 2 16 Tryd.underlying106 hi hz0 hz1 hz2 rfl (by decide) (some ⟨w.heap.size, 0, none⟩) 4 4 (cellsD aslantL) rfl (fun h => nomatch h) rfl (h1.grow (ball (bref w1) _)).add' ⟨w1.heap.size, 0, none⟩ 1 1 (cellsD [(0, -1)]) rfl rfl (DirsAt.new w1 [(0, -1)] _ _ rfl).add (oneCells _) (by decide) (by decide) (by decide) ?_))
  intro v' w2 hown hgrow
  have hB := (ball hb1 _).grown hgrow (by have := hb1.size; simp; omega) (fun k h => nomatch h)
  obtain ⟨g, cap, rfl, hg, hd⟩ := DirsAt.row (l := dirsL 4) hown (by decide)
  have hs := hb1.size
  go_wp2
  go_ret
  exact ⟨_, rfl, .inr ⟨g, cap, rfl, by omega, hd⟩, hB⟩

theorem dirs_gold (k : Int) (h : k = 5 ∨ k = 9 ∨ k = 10 ∨ k = 11 ∨ k = 12) (w : World) :
    Calls Tryd.prog 120 #[.int .i64 k] w fun e w' => ∃ v, e = .returned v ∧ DirsV w' w.heap.size v (straightL ++ [(-1, -1), (1, -1)]) ∧ Below w.heap.size w w' := by
  obtain ⟨i0, hi, hz0, hz1, hz2⟩ := info_parts infoDir
  rcases h with rfl | rfl | rfl | rfl | rfl
  all_goals
    go_enter Tryd.func120, Tryd.ntmps120
    go_wp2_with (first
      | (go_at_call 130; refine (straight_any _).mono ?_; rintro e w1 ⟨rfl, h1, hb1⟩)
      | (at_builtin; refine wpList_append_grows _ rfl _ _ 106 rfl 109 i0 (.agg #[.int .i64 0, .int .i64 0]) 2 16 Tryd.underlying106 hi hz0 hz1 hz2 rfl (by decide) (some ⟨w.heap.size, 0, none⟩) 4 4 (cellsD straightL) rfl (fun h => nomatch h) rfl (h1.grow (ball (bref w1) _)).add' ⟨w1.heap.size, 0, none⟩ 2 2 (cellsD [(-1, -1), (1, -1)]) rfl rfl (DirsAt.new w1 [(-1, -1), (1, -1)] _ _ rfl).add (oneCells _) (by decide) (by decide) (by decide) ?_))
    intro v' w2 hown hgrow
    have hB := (ball hb1 _).grown hgrow (by have := hb1.size; simp; omega) (fun k h => nomatch h)
    obtain ⟨g, cap, rfl, hg, hd⟩ := DirsAt.row (l := straightL ++ [(-1, -1), (1, -1)]) hown (by decide)
    have hs := hb1.size
    go_wp2
    go_ret
    exact ⟨_, rfl, .inr ⟨g, cap, rfl, by omega, hd⟩, hB⟩

theorem dirs_king (w : World) :
    Calls Tryd.prog 120 #[.int .i64 8] w fun e w' => ∃ v, e = .returned v ∧ DirsV w' w.heap.size v (straightL ++ aslantL) ∧ Below w.heap.size w w' := by
  obtain ⟨i0, hi, hz0, hz1, hz2⟩ := info_parts infoDir
  go_enter Tryd.func120, Tryd.ntmps120
  go_wp2_with (first
    | (go_at_call 130; refine (straight_any _).mono ?_; rintro e w1 ⟨rfl, h1, hb1⟩)
    | (go_at_call 129; refine (aslant_any _).mono ?_; rintro e w2 ⟨rfl, h2, hb2⟩)
    | (at_builtin; refine wpList_append_grows _ rfl _ _ 106 rfl 109 i0 (.agg #[.int .i64 0, .int .i64 0]) 2 16 Tryd.underlying106 hi hz0 hz1 hz2 rfl (by decide) (some ⟨w.heap.size, 0, none⟩) 4 4 (cellsD straightL) rfl (fun h => nomatch h) rfl (h1.grow hb2).add' ⟨w1.heap.size, 0, none⟩ 4 4 (cellsD aslantL) rfl rfl h2.add (oneCells _) (by decide) (by decide) (by decide) ?_))
  intro v' w3 hown hgrow
  have hB := (bthen hb1 hb2).grown hgrow (by have := hb1.size; have := hb2.size; omega) (fun k h => nomatch h)
  obtain ⟨g, cap, rfl, hg, hd⟩ := DirsAt.row (l := straightL ++ aslantL) hown (by decide)
  have hs := (bthen hb1 hb2).size
  go_wp2
  go_ret
  exact ⟨_, rfl, .inr ⟨g, cap, rfl, by omega, hd⟩, hB⟩

theorem dirs_any (k : Int) (w : World) :
    Calls Tryd.prog 120 #[.int .i64 k] w fun e w' => ∃ v, e = .returned v ∧ DirsV w' w.heap.size v (dirsL k) ∧ Below w.heap.size w w' := by
  by_cases h4 : k = 4
  · subst h4
    exact dirs_4 w
  by_cases hg : k = 5 ∨ k = 9 ∨ k = 10 ∨ k = 11 ∨ k = 12
  · have e : dirsL k = straightL ++ [(-1, -1), (1, -1)] := by unfold dirsL; rw [if_neg (by omega), if_neg (by omega), if_neg (by omega), if_pos hg]
    rw [e]
    exact dirs_gold k hg w
  by_cases h8 : k = 8
  · subst h8
    exact dirs_king w
  by_cases h1 : k = 1
  · subst h1
    go_enter Tryd.func120, Tryd.ntmps120
    go_wp2
    go_ret
    exact ⟨_, rfl, DirsV.lit w _ (Nat.le_refl _) (dirsL 1) _ _ 1 rfl rfl, ball (bref _) _⟩
  by_cases h3 : k = 3
  · subst h3
    go_enter Tryd.func120, Tryd.ntmps120
    go_wp2
    go_ret
    exact ⟨_, rfl, DirsV.lit w _ (Nat.le_refl _) (dirsL 3) _ _ 2 rfl rfl, ball (bref _) _⟩
  by_cases h14 : k = 14
  · subst h14
    go_enter Tryd.func120, Tryd.ntmps120
    go_wp2_with (go_at_call 130; refine (straight_any _).mono ?_; rintro e w1 ⟨rfl, h1, hb1⟩)
    go_ret
    exact ⟨_, rfl, .inr ⟨_, _, rfl, Nat.le_refl _, h1⟩, hb1⟩
  by_cases h15 : k = 15
  · subst h15
    go_enter Tryd.func120, Tryd.ntmps120
    go_wp2_with (go_at_call 129; refine (aslant_any _).mono ?_; rintro e w1 ⟨rfl, h1, hb1⟩)
    go_ret
    exact ⟨_, rfl, .inr ⟨_, _, rfl, Nat.le_refl _, h1⟩, hb1⟩
  have e : dirsL k = [] := by unfold dirsL; rw [if_neg h1, if_neg h3, if_neg h4, if_neg hg, if_neg h8, if_neg h14, if_neg h15]
  rw [e]
  have b1 : (k == 1) = false := by simpa using h1
  have b3 : (k == 3) = false := by simpa using h3
  have b4 : (k == 4) = false := by simpa using h4
  have b5 : (k == 5) = false := by simp; omega
  have b9 : (k == 9) = false := by simp; omega
  have b10 : (k == 10) = false := by simp; omega
  have b11 : (k == 11) = false := by simp; omega
  have b12 : (k == 12) = false := by simp; omega
  have b8 : (k == 8) = false := by simpa using h8
  have b14 : (k == 14) = false := by simpa using h14
  have b15 : (k == 15) = false := by simpa using h15
  clear e h1 h3 h4 hg h8 h14 h15
  go_enter Tryd.func120, Tryd.ntmps120
  go_wp2
  go_ret
  exact ⟨_, rfl, .inl ⟨rfl, rfl⟩, bref _⟩
end Go.Proofs.YtilhicohfnaclaaDoor

/-
  The step package's Of and Zone.
-/
namespace Go.Proofs.YtilhicohfnaclaaDoor
set_option maxRecDepth 100000
open Go.RowKit
set_option linter.unusedVariables false
set_option linter.unusedSimpArgs false

/-- The first k of a piece's steps, as a set. -/
def partN (l : List (Int × Int)) (s q : Int) (k : Nat) : Nat := ofN ((l.take k).map fun d => fromF (turnF s d) q)
theorem dirs_len (k : Int) : (dirsL k).length ≤ 8 := by
  unfold dirsL
  repeat' split
  all_goals decide
theorem partN_sq (l : List (Int × Int)) (s q : Int) (k : Nat) : Sq (partN l s q k) := ofN_sq _
theorem partN_step (l : List (Int × Int)) (s q : Int) (k : Nat) (h : k < l.length) : partN l s q (k + 1) = partN l s q k ||| oneN (fromF (turnF s l[k]) q) := by
  unfold partN
  rw [List.take_succ_eq_append_getElem h, List.map_append, ← ofN_snoc]
  rfl
theorem partN_all (p q : Int) : partN (dirsL (kindF p)) (sideF p) q (dirsL (kindF p)).length = stepN p q := by
  unfold partN stepN
  rw [List.take_length]

/-- What a round of a loop over ways holds while its statement makes memory: the result's variable (block b), the set's (block b + 1) can be written, the ways lie where they lay (block g), and the way at hand lies in block d. -/
structure Held (w W : World) (b g d : Nat) (l : List (Int × Int)) (u v : Value) : Prop where
  below : Below b w W
  res : Var W b 0 0
  lt : b + 1 < W.heap.size
  f0 : W.frozen? ⟨b + 1, 0, none⟩ = false
  f1 : W.frozen? ⟨b + 1, 1, none⟩ = false
  ways : DirsAt W g l
  dlt : d < W.heap.size
  c0 : W.cell? ⟨d, 0, none⟩ = some u
  c1 : W.cell? ⟨d, 1, none⟩ = some v
theorem DirsAt.set {w : World} {g k o : Nat} {l : List (Int × Int)} (h : DirsAt w g l) (x : Value) (hk : k ≠ g) : DirsAt (w.setCell ⟨k, o, none⟩ x) g l :=
  ⟨by simpa using h.lt, fun j u hj => by
    have hc := h.at0 j u hj
    go_simp⟩
theorem Held.step {w W W' : World} {b g d : Nat} {l : List (Int × Int)} {u v : Value} (h : Held w W b g d l u v) (hb : Below W.heap.size W W') : Held w W' b g d l u v := by
  obtain ⟨h0, h1, h2, h3, h4, h5, h6, h7, h8⟩ := h
  have hs := hb.size
  exact ⟨h0.trans (hb.mono (by omega)), h1.grow hb, by omega, (hb.frozen (p := ⟨b + 1, 0, none⟩) h2).trans h3, (hb.frozen (p := ⟨b + 1, 1, none⟩) h2).trans h4, h5.grow hb, by omega, (hb.cell (p := ⟨d, 0, none⟩) h6).trans h7, (hb.cell (p := ⟨d, 1, none⟩) h6).trans h8⟩
theorem Held.store {w W : World} {b g d : Nat} {l : List (Int × Int)} {u v : Value} (h : Held w W b g d l u v) (hg : g ≠ b + 1) (hd : d ≠ b + 1) (x y : Value) : Held w ((W.setCell ⟨b + 1, 0, none⟩ x).setCell ⟨b + 1, 1, none⟩ y) b g d l u v := by
  obtain ⟨h0, h1, h2, h3, h4, h5, h6, h7, h8⟩ := h
  refine ⟨(h0.setCell (Nat.le_succ _) _).setCell (Nat.le_succ _) _, h1.other (by omega) _ _, by simpa using h2, by simpa using h3, by simpa using h4, (h5.set _ (Ne.symm hg)).set _ (Ne.symm hg), by simpa using h6, ?_, ?_⟩
  · go_simp
  · go_simp

theorem infoSet2 : (Tryd.prog.info? 32).map (·.size) = some 2 := by kernel_rfl
theorem infoDir2 : (Tryd.prog.info? 109).map (·.size) = some 2 := by kernel_rfl
theorem range2 {w : World} {k : Nat} {x y : Value} (h0 : w.cell? ⟨k, 0, none⟩ = some x) (h1 : w.cell? ⟨k, 1, none⟩ = some y) : w.rangeAt k 0 [x, y] := fun j v hj => by
  match j, hj with
  | 0, hj => simp at hj; subst hj; exact h0
  | 1, hj => simp at hj; subst hj; exact h1
  | j + 2, hj => simp at hj
theorem there2 {w : World} {k : Nat} {x y : Value} (h0 : w.cell? ⟨k, 0, none⟩ = some x) (h1 : w.cell? ⟨k, 1, none⟩ = some y) (f0 : w.frozen? ⟨k, 0, none⟩ = false) (f1 : w.frozen? ⟨k, 1, none⟩ = false) : w.there k 0 2 := fun j hj => by
  match j, hj with
  | 0, _ => exact ⟨by simp [h0], by simpa using f0⟩
  | 1, _ => exact ⟨by simp [h1], by simpa using f1⟩
  | j + 2, hj => omega
theorem stored2 {w : World} {k : Nat} {u v : Value} (h0 : w.cell? ⟨k, 0, none⟩ = some u) (h1 : w.cell? ⟨k, 1, none⟩ = some v) (x y : Value) : (w.setCells k 0 #[x, y].toList).cell? ⟨k, 0, none⟩ = some x ∧ (w.setCells k 0 #[x, y].toList).cell? ⟨k, 1, none⟩ = some y := by
  have e : w.setCells k 0 #[x, y].toList = (w.setCell ⟨k, 0, none⟩ x).setCell ⟨k, 1, none⟩ y := rfl
  rw [e]
  exact ⟨by go_simp, by go_simp⟩
theorem cells2_grow {w w' : World} {k : Nat} {x y : Value} (hk : k < w.heap.size) (hb : Below w.heap.size w w') (h : w.cell? ⟨k, 0, none⟩ = some x ∧ w.cell? ⟨k, 1, none⟩ = some y) : w'.cell? ⟨k, 0, none⟩ = some x ∧ w'.cell? ⟨k, 1, none⟩ = some y :=
  ⟨(hb.cell (p := ⟨k, 0, none⟩) hk).trans h.1, (hb.cell (p := ⟨k, 1, none⟩) hk).trans h.2⟩

theorem cellsD_get : ∀ (l : List (Int × Int)) (k : Nat) (h : k < l.length), (cellsD l)[k * 2]? = some (.int .i64 l[k].1) ∧ (cellsD l)[k * 2 + 1]? = some (.int .i64 l[k].2)
  | [], k, h => absurd h (Nat.not_lt_zero _)
  | d :: l, 0, _ => ⟨rfl, rfl⟩
  | d :: l, k + 1, h => by
    have ih := cellsD_get l k (by simpa using h)
    have e1 : (k + 1) * 2 = k * 2 + 1 + 1 := by omega
    rw [e1]
    exact ih

set_option maxHeartbeats 1000000 in
theorem stepOf_any (p q : Int) (h0 : -128 ≤ p) (h1 : p ≤ 127) (w : World) :
    Calls Tryd.prog 97 #[.int .i8 p, .int .i64 q] w fun e w' => e = .returned (.agg #[.int .u64 (loW (stepN p q)), .int .u64 (hiW (stepN p q))]) ∧ Below w.heap.size w w' := by
  have K := Lib.hid (fun W => kind_any p W h0 h1)
  have S := Lib.hid (fun W => side_any p W h0 h1)
  have D := Lib.hid (fun W => dirs_any (kindF p) W)
  have hl := dirs_len (kindF p)
  rw [← partN_all]
  clear h0 h1
  generalize sideF p = s at S ⊢
  generalize dirsL (kindF p) = l at D hl ⊢
  generalize kindF p = k at K D
  go_enter Tryd.func97, Tryd.ntmps97
  go_wp2_with (first | (go_at_call 88; refine (K.out _).mono ?_; rintro e w1 ⟨rfl, rfl⟩) | (go_at_call 120; refine (D.out _).mono ?_; rintro e w2 ⟨v, rfl, hv, hb⟩; obtain ⟨ao, cap, rfl, hp⟩ := hv.parts))
  have hq : w.heap.size + 2 ≤ w2.heap.size := by have := hb.size; simp at this; omega
  have HP := Lib.hid hp
  have V0 : Var w2 w.heap.size 0 0 := Var.grow ⟨by simp; omega, by go_simp, by go_simp, by go_simp, by go_simp⟩ hb
  have V1 : Var w2 (w.heap.size + 1) (loW (partN l s q 0)) (hiW (partN l s q 0)) := by
    rw [show partN l s q 0 = 0 from rfl, lo_zero, hi_zero]
    exact Var.grow ⟨by simp, by go_simp, by go_simp, by go_simp, by go_simp⟩ hb
  have hB0 : Below w.heap.size w w2 := bthen (ball (ball (bref w) _) _) hb
  have HG : Hid (∀ g, ao = some ⟨g, 0, none⟩ → l.length ≠ 0 → w.heap.size + 2 ≤ g ∧ DirsAt w2 g l) := by
    intro g hg hl
    obtain ⟨g', e, h1, h2⟩ := hp hl
    rw [hg] at e
    cases e
    exact ⟨by simpa using h1, h2⟩
  have HS : Hid (l.length ≠ 0 → ∃ g, ao = some ⟨g, 0, none⟩) := fun hl => (hp hl).imp fun g h => h.1
  clear hv hp hb K D HP
  go_loopw [12] (fun i wr => ∃ k : Nat, k ≤ l.length ∧ i = .int .i64 k ∧ (∀ g, ao = some ⟨g, 0, none⟩ → l.length ≠ 0 → w.heap.size + 2 ≤ g ∧ DirsAt wr g l) ∧ Below w.heap.size w wr ∧ Var wr w.heap.size 0 0 ∧ Var wr (w.heap.size + 1) (loW (partN l s q k)) (hiW (partN l s q k))) (fun i _ => l.length - (intOf i).toNat)
  case atStart => exact ⟨0, Nat.zero_le _, rfl, HG.out, hB0, V0, V1⟩
  case round =>
    obtain ⟨k, hk, rfl, hW, hB, hR, hV⟩ := hrel
    have HB := Lib.hid hB
    have HR := Lib.hid hR
    have HV := Lib.hid hV
    have hz := hV.lt
    have wk : wrap64 ((k : Int) + 1) = ((k + 1 : Nat) : Int) := by unfold wrap64; omega
    by_cases hlt : k < l.length
    · obtain ⟨g, rfl⟩ := HS.out (by omega)
      obtain ⟨hg2, hdr⟩ := hW g rfl (by omega)
      have HD := Lib.hid hdr
      have hg1 := hdr.lt
      have c0 := hdr.at0 _ _ (cellsD_get l k hlt).1
      have c1 := hdr.at0 _ _ (cellsD_get l k hlt).2
      have C := Lib.hid (fun W => with_any (partN l s q k) (fromF (turnF s l[k]) q) (partN_sq l s q k) W)
      rw [← partN_step l s q k hlt] at C
      have T := Lib.hid (fun W => turn_any l[k].1 l[k].2 s W)
      have F := Lib.hid (fun W => from_any (turnF s l[k]).1 (turnF s l[k]).2 q W)
      have S' := Lib.hid (fun W => stays (S.out W))
      have l0 := hV.lo
      have l1 := hV.hi
      have l2 := hV.f0
      have l3 := hV.f1
      clear hB hR hV hdr S hW HG HS V0 V1 hB0
      change Hid (∀ W : World, Calls _ _ _ W fun e w' => e = .returned (.agg #[.int .i64 (turnF s l[k]).1, .int .i64 (turnF s l[k]).2]) ∧ _) at T
      change Hid (∀ W : World, Calls _ _ _ W fun e w' => e = .returned (.int .i64 (fromF (turnF s l[k]) q)) ∧ _) at F
      generalize fromF (turnF s l[k]) q = z at C F
      generalize (turnF s l[k]).1 = tf at T F
      generalize (turnF s l[k]).2 = tr at T F
      generalize l[k].1 = df at T c0
      generalize l[k].2 = dr at T c1
      generalize loW (partN l s q k) = x at C l0 HV
      generalize hiW (partN l s q k) = y at C l1 HV
      generalize hx : loW (partN l s q (k + 1)) = x2 at C
      generalize hy : hiW (partN l s q (k + 1)) = y2 at C
      have HX := Lib.hid hx
      have HY := Lib.hid hy
      clear hx hy
      go_wp2_with fail
      have hg3 : g ≠ w.heap.size + 1 := by omega
      have hd3 : wr.heap.size ≠ w.heap.size + 1 := by omega
      have H0 : Hid (Held w (wr.alloc (Obj.cells #[Value.int IntKind.i64 df, Value.int IntKind.i64 dr] 109)).drew w.heap.size g wr.heap.size l (.int .i64 df) (.int .i64 dr)) :=
        ⟨(HB.out.alloc (by omega) _).drew, HR.out.grow (ball (bref wr) _).drew, by simp; omega, by go_simp, by go_simp, HD.out.grow (ball (bref wr) _).drew, by simp, by go_simp, by go_simp⟩
      refine wp_region_any (by kernel_rfl) ?_
      change wpAny _ _ _ _ _ _ _ (World.drew _)
      refine wpAny_inv3 (fun a0 => a0.eval (.tmp 0) = .int .i8 p ∧ a0.eval (.tmp 1) = .int .i64 q ∧ a0.eval (.tmp 5) = .pointer (some ⟨w.heap.size + 1, 0, none⟩) ∧ a0.eval (.tmp 7) = .pointer (some ⟨wr.heap.size, 0, none⟩) ∧ 24 < a0.tmps.size) ⟨rfl, rfl, rfl, rfl, of_decide_eq_true rfl⟩
        (fun a0 ls a w' => ls.size = 9 ∧ Held w w' w.heap.size g wr.heap.size l (.int .i64 df) (.int .i64 dr) ∧ (ls.getD 8 false = false → w'.cell? ⟨w.heap.size + 1, 0, none⟩ = some (.int .u64 x) ∧ w'.cell? ⟨w.heap.size + 1, 1, none⟩ = some (.int .u64 y)) ∧ (ls.getD 8 false = true → w'.cell? ⟨w.heap.size + 1, 0, none⟩ = some (.int .u64 x2) ∧ w'.cell? ⟨w.heap.size + 1, 1, none⟩ = some (.int .u64 y2)) ∧ (ls.getD 8 false = true → ls.getD 0 false = true) ∧ a = cput (ls.getD 7 false) 23 (.agg #[.int .u64 x2, .int .u64 y2]) (cput (ls.getD 6 false) 22 (.int .i64 z) (cput (ls.getD 5 false) 21 (.int .i64 q) (cput (ls.getD 4 false) 20 (.agg #[.int .i64 tf, .int .i64 tr]) (cput (ls.getD 3 false) 19 (.int .i64 s) (cput (ls.getD 2 false) 18 (.int .i8 p) (cput (ls.getD 1 false) 17 (.agg #[.int .i64 df, .int .i64 dr]) (cput (ls.getD 0 false) 16 (.agg #[.int .u64 x, .int .u64 y]) (a0))))))))) ?step ?fin ?start (by decide)
      case start => exact ⟨rfl, H0.out, fun _ => ⟨by go_simp, by go_simp⟩, (fun h => nomatch h), (fun h => nomatch h), rfl⟩
      case step =>
        rintro a0 ⟨e0, e1, e5, e7, esz⟩ ls a w' ⟨hl, hH, hS, hD, h80, ha⟩ i o ho hu hw
        have hu' := undone hu
        rcases i with _ | _ | _ | _ | _ | _ | _ | _ | _ | i
        · have ho' : some _ = some o := ho
          cases ho'
          have E5 : a.eval (.tmp 5) = .pointer (some ⟨w.heap.size + 1, 0, none⟩) := by rw [ha]; simp [eval_cput_ne, e5]
          have l8 : ls.getD 8 false = false := by
            cases h : ls.getD 8 false
            · rfl
            · rw [h80 h] at hu'; cases hu'
          have hS' := hS l8
          refine wpOp_step ho (fun K hK => ?_)
          rw [if_pos (by rfl)]
          refine wp_load_mid _ _ rfl (w.heap.size + 1) 0 E5 [.int .u64 x, .int .u64 y] _ (range2 hS'.1 hS'.2) Tryd.underlying32 rfl infoSet2 ?_
          exact hK _ _ ⟨by simp [hl], hH, by simpa [getF, hl] using hS, by simpa [getF, hl] using hD, by simp [getF, hl], by rw [ha]; simp [cput_put, getF, hl, hu', cput_at]⟩
        · have ho' : some _ = some o := ho
          cases ho'
          have E7 : a.eval (.tmp 7) = .pointer (some ⟨wr.heap.size, 0, none⟩) := by rw [ha]; simp [eval_cput_ne, e7]
          refine wpOp_step ho (fun K hK => ?_)
          rw [if_pos (by rfl)]
          refine wp_load_mid _ _ rfl (wr.heap.size) 0 E7 [.int .i64 df, .int .i64 dr] _ (range2 hH.c0 hH.c1) Tryd.underlying109 rfl infoDir2 ?_
          exact hK _ _ ⟨by simp [hl], hH, by simpa [getF, hl] using hS, by simpa [getF, hl] using hD, by simpa [getF, hl] using h80, by rw [ha]; simp [cput_put, getF, hl, hu', cput_at]⟩
        · have ho' : some _ = some o := ho
          cases ho'
          have E0 : a.eval (.tmp 0) = .int .i8 p := by rw [ha]; simp [eval_cput_ne, e0]
          refine wpOp_step ho (fun K hK => ?_)
          rw [if_pos (by rfl)]
          refine wp_valueK (w' := w') (.int .i8 p) ?_ (hK _ _ ⟨by simp [hl], hH, by simpa [getF, hl] using hS, by simpa [getF, hl] using hD, by simpa [getF, hl] using h80, by rw [ha]; simp [cput_put, getF, hl, hu', cput_at]⟩)
          clear ha
          exact congrArg (fun v => Result.ok (Next.value v) w') E0
        · have ho' : some _ = some o := ho
          cases ho'
          have d18 : ls.getD 2 false = true := hw ⟨2, .data⟩ (by simp) rfl
          have z18 : 18 < a0.tmps.size := by omega
          have E18 : a.eval (.tmp 18) = .int .i8 p := by rw [ha]; simp [eval_cput_ne, d18, eval_cput_at, size_cput, z18]
          refine wpOp_step ho (fun K hK => ?_)
          rw [if_pos (by rfl)]
          refine wp_callK 82 #[a.eval (.tmp 18)] ?_ ?_
          · clear ha E18
            go_simp
          · rw [E18]
            refine (S'.out _).mono ?_
            rintro e w2 ⟨rfl, hb2⟩
            refine ⟨_, rfl, hK _ _ ⟨by simp [hl], hH.step hb2, by simpa [getF, hl] using (fun h => cells2_grow hH.lt hb2 (hS h)), by simpa [getF, hl] using (fun h => cells2_grow hH.lt hb2 (hD h)), by simpa [getF, hl] using h80, by rw [ha]; simp [cput_put, getF, hl, hu', cput_at]⟩⟩
        · have ho' : some _ = some o := ho
          cases ho'
          have d17 : ls.getD 1 false = true := hw ⟨1, .data⟩ (by simp) rfl
          have z17 : 17 < a0.tmps.size := by omega
          have E17 : a.eval (.tmp 17) = .agg #[.int .i64 df, .int .i64 dr] := by rw [ha]; simp [eval_cput_ne, d17, eval_cput_at, size_cput, z17]
          have d19 : ls.getD 3 false = true := hw ⟨3, .data⟩ (by simp) rfl
          have z19 : 19 < a0.tmps.size := by omega
          have E19 : a.eval (.tmp 19) = .int .i64 s := by rw [ha]; simp [eval_cput_ne, d19, eval_cput_at, size_cput, z19]
          refine wpOp_step ho (fun K hK => ?_)
          rw [if_pos (by rfl)]
          refine wp_callK 100 #[a.eval (.tmp 17), a.eval (.tmp 19)] ?_ ?_
          · clear ha E17 E19
            go_simp
          · rw [E17, E19]
            refine (T.out _).mono ?_
            rintro e w2 ⟨rfl, hb2⟩
            refine ⟨_, rfl, hK _ _ ⟨by simp [hl], hH.step hb2, by simpa [getF, hl] using (fun h => cells2_grow hH.lt hb2 (hS h)), by simpa [getF, hl] using (fun h => cells2_grow hH.lt hb2 (hD h)), by simpa [getF, hl] using h80, by rw [ha]; simp [cput_put, getF, hl, hu', cput_at]⟩⟩
        · have ho' : some _ = some o := ho
          cases ho'
          have E1 : a.eval (.tmp 1) = .int .i64 q := by rw [ha]; simp [eval_cput_ne, e1]
          refine wpOp_step ho (fun K hK => ?_)
          rw [if_pos (by rfl)]
          refine wp_valueK (w' := w') (.int .i64 q) ?_ (hK _ _ ⟨by simp [hl], hH, by simpa [getF, hl] using hS, by simpa [getF, hl] using hD, by simpa [getF, hl] using h80, by rw [ha]; simp [cput_put, getF, hl, hu', cput_at]⟩)
          clear ha
          exact congrArg (fun v => Result.ok (Next.value v) w') E1
        · have ho' : some _ = some o := ho
          cases ho'
          have d20 : ls.getD 4 false = true := hw ⟨4, .data⟩ (by simp) rfl
          have z20 : 20 < a0.tmps.size := by omega
          have E20 : a.eval (.tmp 20) = .agg #[.int .i64 tf, .int .i64 tr] := by rw [ha]; simp [eval_cput_ne, d20, eval_cput_at, size_cput, z20]
          have d21 : ls.getD 5 false = true := hw ⟨5, .data⟩ (by simp) rfl
          have z21 : 21 < a0.tmps.size := by omega
          have E21 : a.eval (.tmp 21) = .int .i64 q := by rw [ha]; simp [eval_cput_ne, d21, eval_cput_at, size_cput, z21]
          refine wpOp_step ho (fun K hK => ?_)
          rw [if_pos (by rfl)]
          refine wp_callK 121 #[a.eval (.tmp 20), a.eval (.tmp 21)] ?_ ?_
          · clear ha E20 E21
            go_simp
          · rw [E20, E21]
            refine (F.out _).mono ?_
            rintro e w2 ⟨rfl, hb2⟩
            refine ⟨_, rfl, hK _ _ ⟨by simp [hl], hH.step hb2, by simpa [getF, hl] using (fun h => cells2_grow hH.lt hb2 (hS h)), by simpa [getF, hl] using (fun h => cells2_grow hH.lt hb2 (hD h)), by simpa [getF, hl] using h80, by rw [ha]; simp [cput_put, getF, hl, hu', cput_at]⟩⟩
        · have ho' : some _ = some o := ho
          cases ho'
          have d16 : ls.getD 0 false = true := hw ⟨0, .data⟩ (by simp) rfl
          have z16 : 16 < a0.tmps.size := by omega
          have E16 : a.eval (.tmp 16) = .agg #[.int .u64 x, .int .u64 y] := by rw [ha]; simp [eval_cput_ne, d16, eval_cput_at, size_cput, z16]
          have d22 : ls.getD 6 false = true := hw ⟨6, .data⟩ (by simp) rfl
          have z22 : 22 < a0.tmps.size := by omega
          have E22 : a.eval (.tmp 22) = .int .i64 z := by rw [ha]; simp [eval_cput_ne, d22, eval_cput_at, size_cput, z22]
          refine wpOp_step ho (fun K hK => ?_)
          rw [if_pos (by rfl)]
          refine wp_callK 65 #[a.eval (.tmp 16), a.eval (.tmp 22)] ?_ ?_
          · clear ha E16 E22
            go_simp
          · rw [E16, E22]
            refine (C.out _).mono ?_
            rintro e w2 ⟨rfl, hb2⟩
            refine ⟨_, rfl, hK _ _ ⟨by simp [hl], hH.step hb2, by simpa [getF, hl] using (fun h => cells2_grow hH.lt hb2 (hS h)), by simpa [getF, hl] using (fun h => cells2_grow hH.lt hb2 (hD h)), by simpa [getF, hl] using h80, by rw [ha]; simp [cput_put, getF, hl, hu', cput_at]⟩⟩
        · have ho' : some _ = some o := ho
          cases ho'
          have E5 : a.eval (.tmp 5) = .pointer (some ⟨w.heap.size + 1, 0, none⟩) := by rw [ha]; simp [eval_cput_ne, e5]
          have d23 : ls.getD 7 false = true := hw ⟨7, .data⟩ (by simp) rfl
          have z23 : 23 < a0.tmps.size := by omega
          have E23 : a.eval (.tmp 23) = .agg #[.int .u64 x2, .int .u64 y2] := by rw [ha]; simp [eval_cput_ne, d23, eval_cput_at, size_cput, z23]
          refine wpOp_step ho (fun K hK => ?_)
          rw [if_pos (by rfl)]
          have hS' := hS hu'
          refine wp_store_mid _ _ _ rfl (w.heap.size + 1) 0 #[.int .u64 x2, .int .u64 y2] E5 E23 (there2 hS'.1 hS'.2 hH.f0 hH.f1) infoSet2 (by simp [Value.oneCell']) ?_
          have gg : ∀ j, j ≠ 8 → (ls.setIfInBounds 8 true).getD j false = ls.getD j false := fun j hj => (getF (by omega : 8 < ls.size)).trans (if_neg (Ne.symm hj))
          have gs : (ls.setIfInBounds 8 true).getD 8 false = true := (getF (by omega : 8 < ls.size)).trans (if_pos rfl)
          have q0 := hS'.1
          have q1 := hS'.2
          refine hK _ _ ⟨by simp [hl], hH.store hg3 hd3 _ _, (fun h => by rw [gs] at h; cases h), (fun _ => stored2 q0 q1 _ _), (fun _ => by rw [gg 0 (by decide)]; exact hw ⟨0, .phase⟩ (by simp) rfl), ?_⟩
          rw [gg 7 (by decide), gg 6 (by decide), gg 5 (by decide), gg 4 (by decide), gg 3 (by decide), gg 2 (by decide), gg 1 (by decide), gg 0 (by decide), ha]
          rfl
        · cases ho
      case fin =>
        rintro ls a w' ⟨hl, hH, -, hD, -, ha⟩ hr
        have d : ∀ i, i < 9 → ls.getD i false = true := all_doneB hr (by kernel_rfl) (by rw [hl]; rfl)
        obtain ⟨n0, n1⟩ := hD (d 8 (by decide))
        rw [d 7 (by decide), d 6 (by decide), d 5 (by decide), d 4 (by decide), d 3 (by decide), d 2 (by decide), d 1 (by decide), d 0 (by decide)] at ha
        subst ha
        simp only [cput, if_true, Act.put, List.setIfInBounds_toArray, List.set_cons_zero, List.set_cons_succ]
        clear d hD hr hl
        go_wp2
        go_roundw
        case rel =>
          refine ⟨k + 1, by omega, by go_num, ?_, hH.below, hH.res, ?_⟩
          · intro g' hg' _
            cases hg'
            exact ⟨hg2, hH.ways⟩
          · rw [HX.out, HY.out]
            exact ⟨hH.lt, n0, n1, hH.f0, hH.f1⟩
        case measure => simp [intOf]; omega
    · obtain rfl : k = l.length := by omega
      have l0 := hV.lo
      have l1 := hV.hi
      have r0 := hR.lo
      have r1 := hR.hi
      have r2 := hR.f0
      have r3 := hR.f1
      clear hB hR hV HG HS hW V0 V1 hB0 S
      generalize hx : loW (partN l s q l.length) = x at l0 HV
      generalize hy : hiW (partN l s q l.length) = y at l1 HV
      have HX := Lib.hid hx
      have HY := Lib.hid hy
      clear hx hy
      go_wp2
      rw [HX.out, HY.out]
      exact bodyPost_ret (v := .agg #[.int .u64 x, .int .u64 y]) (by simp [results, Tryd.results97, go_sem, r0, r1]) rfl
        ⟨rfl, (HB.out.setCell (Nat.le_refl _) _).setCell (Nat.le_refl _) _⟩
end Go.Proofs.YtilhicohfnaclaaDoor

/-
  The step package's Zone, and the statements' head 'steps'.
-/
namespace Go.Proofs.YtilhicohfnaclaaDoor
set_option maxRecDepth 100000
open Go.RowKit
set_option linter.unusedVariables false
set_option linter.unusedSimpArgs false

/-- The squares below k where a side's pieces are promoted. -/
def zoneL (s : Int) (k : Nat) : List Int := ((List.range k).filter (fun (q : Nat) => decide (0 ≤ farF s q ∧ farF s q ≤ 2))).map (fun (q : Nat) => (q : Int))
theorem zoneL_step (s : Int) (k : Nat) : zoneL s (k + 1) = if 0 ≤ farF s k ∧ farF s k ≤ 2 then zoneL s k ++ [(k : Int)] else zoneL s k := by
  unfold zoneL
  rw [List.range_succ, List.filter_append, List.map_append]
  by_cases h : 0 ≤ farF s k ∧ farF s k ≤ 2
  · simp [h]
  · rw [if_neg h]
    simp [h]
theorem zone_put (s : Int) (k : Nat) (h : 0 ≤ farF s k ∧ farF s k ≤ 2) : ofN (zoneL s (k + 1)) = ofN (zoneL s k) ||| oneN k := by
  rw [zoneL_step, if_pos h, ofN_snoc]
theorem zone_not (s : Int) (k : Nat) (h : ¬ (0 ≤ farF s k ∧ farF s k ≤ 2)) : ofN (zoneL s (k + 1)) = ofN (zoneL s k) := by
  rw [zoneL_step, if_neg h]

set_option maxHeartbeats 1000000 in
theorem zone_any (s : Int) (w : World) :
    Calls Tryd.prog 89 #[.int .i64 s] w fun e w' => e = .returned (.agg #[.int .u64 (loW (ofN (zoneL s 81))), .int .u64 (hiW (ofN (zoneL s 81)))]) ∧ Below w.heap.size w w' := by
  go_enter Tryd.func89, Tryd.ntmps89
  go_wp2
  have V0 : Var ((w.alloc (Obj.cells #[Value.int IntKind.u64 0, Value.int IntKind.u64 0] 32)).alloc (Obj.cells #[Value.int IntKind.u64 0, Value.int IntKind.u64 0] 32)) w.heap.size 0 0 := ⟨by simp; omega, by go_simp, by go_simp, by go_simp, by go_simp⟩
  have V1 : Var ((w.alloc (Obj.cells #[Value.int IntKind.u64 0, Value.int IntKind.u64 0] 32)).alloc (Obj.cells #[Value.int IntKind.u64 0, Value.int IntKind.u64 0] 32)) (w.heap.size + 1) 0 0 := ⟨by simp, by go_simp, by go_simp, by go_simp, by go_simp⟩
  have hB0 : Below w.heap.size w ((w.alloc (Obj.cells #[Value.int IntKind.u64 0, Value.int IntKind.u64 0] 32)).alloc (Obj.cells #[Value.int IntKind.u64 0, Value.int IntKind.u64 0] 32)) := ball (ball (bref _) _) _
  generalize (w.alloc (Obj.cells #[Value.int IntKind.u64 0, Value.int IntKind.u64 0] 32)).alloc (Obj.cells #[Value.int IntKind.u64 0, Value.int IntKind.u64 0] 32) = w2 at V0 V1 hB0 ⊢
  go_loopw [6] (fun i wr => ∃ k : Nat, k ≤ 81 ∧ i = .int .i64 k ∧ Below w.heap.size w wr ∧ Var wr w.heap.size 0 0 ∧ Var wr (w.heap.size + 1) (loW (ofN (zoneL s k))) (hiW (ofN (zoneL s k)))) (fun i _ => 81 - (intOf i).toNat)
  case atStart => exact ⟨0, Nat.zero_le _, rfl, hB0, V0, (by rw [show ofN (zoneL s 0) = 0 from rfl, lo_zero, hi_zero]; exact V1)⟩
  case round =>
    obtain ⟨k, hk, rfl, hB, hR, hV⟩ := hrel
    clear V0 V1 hB0
    have HB := Lib.hid hB
    have HR := Lib.hid hR
    have HV := Lib.hid hV
    have hz := hV.lt
    have wk : wrap64 ((k : Int) + 1) = ((k + 1 : Nat) : Int) := by unfold wrap64; omega
    by_cases hlt : k < 81
    · have Fa := Lib.hid (fun W => far_any s k W)
      by_cases hc : 0 ≤ farF s k ∧ farF s k ≤ 2
      · have C := Lib.hid (fun W => with_any (ofN (zoneL s k)) k (ofN_sq _) W)
        rw [← zone_put s k hc] at C
        have l0 := hV.lo
        have l1 := hV.hi
        have l2 := hV.f0
        have l3 := hV.f1
        obtain ⟨g0, g1⟩ := hc
        clear hB hR hV
        generalize farF s k = fa at Fa g0 g1
        generalize loW (ofN (zoneL s k)) = x at C l0 HV
        generalize hiW (ofN (zoneL s k)) = y at C l1 HV
        generalize hx : loW (ofN (zoneL s (k + 1))) = x2 at C
        generalize hy : hiW (ofN (zoneL s (k + 1))) = y2 at C
        have HX := Lib.hid hx
        have HY := Lib.hid hy
        clear hx hy
        go_wp2_with (go_at_call 117; refine (Fa.out _).mono ?_; rintro e w3 ⟨rfl, hb3⟩; obtain ⟨hc3, hf3⟩ := bcells hb3; have hz3 : wr.heap.size ≤ w3.heap.size := hb3.size)
        refine (C.out _).mono ?_
        rintro e w4 ⟨rfl, hb4⟩
        have hbb := bthen hb3 hb4
        obtain ⟨hc4, hf4⟩ := bcells hbb
        have hz4 : wr.heap.size ≤ w4.heap.size := hbb.size
        go_wp2
        go_roundw
        case rel =>
          refine ⟨k + 1, by omega, by go_num, ?_, ?_, ?_⟩
          · exact ((HB.out.trans (hbb.mono HB.out.size)).setCell (by simp) _).setCell (by simp) _
          · exact (HR.out.grow hbb).other (by omega) _ _
          · rw [HX.out, HY.out]
            exact (HV.out.grow hbb).put _ _
        case measure => simp [intOf]; omega
      · have e := zone_not s k hc
        rw [← e] at HV
        have hcc : ¬ 0 ≤ farF s k ∨ (0 ≤ farF s k ∧ ¬ farF s k ≤ 2) := by omega
        clear hB hR hV hc e
        generalize farF s k = fa at Fa hcc
        rcases hcc with g0 | ⟨g0, g1⟩
        all_goals
          go_wp2_with (go_at_call 117; refine (Fa.out _).mono ?_; rintro e w3 ⟨rfl, hb3⟩)
          go_roundw
          case rel => exact ⟨k + 1, by omega, by go_num, HB.out.trans (hb3.mono HB.out.size), HR.out.grow hb3, HV.out.grow hb3⟩
          case measure => simp [intOf]; omega
    · obtain rfl : k = 81 := by omega
      have l0 := hV.lo
      have l1 := hV.hi
      have r0 := hR.lo
      have r1 := hR.hi
      have r2 := hR.f0
      have r3 := hR.f1
      clear hB hR hV
      generalize hx : loW (ofN (zoneL s 81)) = x at l0 HV
      generalize hy : hiW (ofN (zoneL s 81)) = y at l1 HV
      have HX := Lib.hid hx
      have HY := Lib.hid hy
      clear hx hy
      go_wp2
      rw [HX.out, HY.out]
      exact bodyPost_ret (v := .agg #[.int .u64 x, .int .u64 y]) (by simp [results, Tryd.results89, go_sem, r0, r1]) rfl
        ⟨rfl, (HB.out.setCell (Nat.le_refl _) _).setCell (Nat.le_refl _) _⟩
end Go.Proofs.YtilhicohfnaclaaDoor

/-
  Plain facts for the step statements: when a square is in a set; zones; ways there and back; what kings and others step to.
-/
namespace Go.Proofs.YtilhicohfnaclaaDoor
set_option maxRecDepth 100000
open Go.RowKit
set_option linter.unusedVariables false
set_option linter.unusedSimpArgs false

theorem has_test (n : Nat) (q : Int) : (!decide (n &&& oneN q = 0)) = (decide (0 ≤ q ∧ q < 81) && n.testBit q.toNat) := by
  unfold oneN
  by_cases h : 0 ≤ q ∧ q < 81
  · rw [if_pos h, decide_eq_true h, Bool.true_and]
    cases hb : n.testBit q.toNat with
    | true =>
      have : n &&& 2 ^ q.toNat ≠ 0 := by
        intro e
        have e2 : (n &&& 2 ^ q.toNat).testBit q.toNat = true := by rw [Nat.testBit_and, hb, Nat.testBit_two_pow_self]; rfl
        rw [e, Nat.zero_testBit] at e2
        cases e2
      rw [decide_eq_false this]
      rfl
    | false =>
      have : n &&& 2 ^ q.toNat = 0 := by
        apply Nat.eq_of_testBit_eq
        intro i
        rw [Nat.testBit_and, Nat.testBit_two_pow, Nat.zero_testBit]
        by_cases e : q.toNat = i
        · rw [← e, hb]
          rfl
        · simp [e]
      rw [decide_eq_true this]
      rfl
  · rw [if_neg h]
    simp [h]
theorem has_nat (n i : Nat) (hi : i < 81) : (!decide (n &&& oneN (i : Int) = 0)) = n.testBit i := by
  rw [has_test]
  simp
  omega
theorem zone_has (s q : Int) (hs : s = 0 ∨ s = 1) : (!decide (ofN (zoneL s 81) &&& oneN q = 0)) = decide (0 ≤ farF s q ∧ farF s q ≤ 2) := by
  rw [has_test, ofN_test]
  unfold zoneL
  by_cases h : 0 ≤ q ∧ q < 81
  · obtain ⟨k, rfl⟩ : ∃ k : Nat, q = k := ⟨q.toNat, by omega⟩
    rw [Bool.eq_iff_iff]
    simp only [h, and_self, decide_true, Bool.true_and, Int.toNat_natCast, decide_eq_true_eq, List.mem_map, List.mem_filter, List.mem_range]
    constructor
    · rintro ⟨⟨a, ⟨-, ha⟩, e⟩, -⟩
      have : a = k := by omega
      rw [← this]
      exact ha
    · exact fun h2 => ⟨⟨k, ⟨by omega, h2⟩, rfl⟩, by omega⟩
  · have e : farF s q = -1 := by unfold farF; rw [if_neg h]
    rw [e]
    simp [h]
theorem zone_none (s : Int) (hs : ¬ (s = 0 ∨ s = 1)) : ofN (zoneL s 81) = 0 := by
  have : zoneL s 81 = [] := by
    unfold zoneL
    rw [List.map_eq_nil_iff, List.filter_eq_nil_iff]
    intro a ha
    have e : farF s a = -1 := by
      unfold farF
      rw [if_neg (show ¬ s = 0 by omega), if_neg (show ¬ s = 1 by omega)]
      split <;> rfl
    rw [e]
    decide
  rw [this]
  rfl
theorem zone_count (s : Int) (hs : s = 0 ∨ s = 1) : pop 81 (ofN (zoneL s 81)) = 27 := by
  rcases hs with rfl | rfl
  · decide +kernel
  · decide +kernel
end Go.Proofs.YtilhicohfnaclaaDoor

/-
  Plain facts for StepKings, StepTurns, StepEdges: how many squares a list gives at most; kings, golds and silvers; the board turned about.
-/
namespace Go.Proofs.YtilhicohfnaclaaDoor
set_option maxRecDepth 100000
open Go.RowKit
set_option linter.unusedVariables false
set_option linter.unusedSimpArgs false

theorem pop_one (k : Nat) : ∀ j, pop j (2 ^ k) = if k < j then 1 else 0
  | 0 => by simp [pop]
  | j + 1 => by
    rw [pop_succ, pop_one k j, Nat.testBit_two_pow]
    by_cases h : k = j
    · subst h
      simp
    · by_cases h2 : k < j
      · have : k < j + 1 := by omega
        simp [h, h2, this]
      · have : ¬ k < j + 1 := by omega
        simp [h, h2, this]
theorem pop_oneN (q : Int) : pop 81 (oneN q) ≤ 1 := by
  unfold oneN
  split
  · rw [pop_one]
    split <;> omega
  · rw [pop_zero]
    omega
theorem pop_ofN (l : List Int) : pop 81 (ofN l) ≤ l.length := by
  have key : ∀ (l : List Int) (n : Nat), pop 81 (l.foldl (fun n q => n ||| oneN q) n) ≤ pop 81 n + l.length := by
    intro l
    induction l with
    | nil => intro n; simp
    | cons q l ih =>
      intro n
      have h1 := ih (n ||| oneN q)
      have h2 := pop_two n (oneN q) 81
      have h3 := pop_oneN q
      simp only [List.foldl_cons, List.length_cons]
      omega
  have := key l 0
  rw [pop_zero] at this
  unfold ofN
  omega
theorem pop_step (p q : Int) : pop 81 (stepN p q) ≤ 8 := by
  have h := pop_ofN ((dirsL (kindF p)).map fun d => fromF (turnF (sideF p) d) q)
  have h2 := dirs_len (kindF p)
  rw [List.length_map] at h
  unfold stepN
  omega

theorem kind_at (s k : Int) (hs : s = 0 ∨ s = 1) (hk : 1 ≤ k ∧ k ≤ 15) (h13 : k ≠ 13) : kindF (16 * s + k) = k ∧ sideF (16 * s + k) = s := by
  have h := kindF_ref (16 * s + k) (by omega) (by omega) (by omega) (by omega) (by omega)
  rw [h.1, h.2]
  omega
theorem kind_13 (s : Int) (hs : s = 0 ∨ s = 1) : kindF (16 * s + 13) = 0 := (kindF_not (16 * s + 13) (by omega)).1

theorem king_both (s q : Int) (hs : s = 0 ∨ s = 1) : stepN (16 * s + 5) q ||| stepN (16 * s + 4) q = stepN (16 * s + 8) q := by
  unfold stepN
  rw [(kind_at s 5 hs (by omega) (by omega)).1, (kind_at s 5 hs (by omega) (by omega)).2, (kind_at s 4 hs (by omega) (by omega)).1, (kind_at s 4 hs (by omega) (by omega)).2, (kind_at s 8 hs (by omega) (by omega)).1, (kind_at s 8 hs (by omega) (by omega)).2]
  apply Nat.eq_of_testBit_eq
  intro i
  rw [Nat.testBit_or, ofN_test, ofN_test, ofN_test, Bool.eq_iff_iff]
  have e5 : dirsL 5 = [(0, -1), (-1, 0), (1, 0), (0, 1), (-1, -1), (1, -1)] := by decide
  have e4 : dirsL 4 = [(-1, -1), (1, -1), (-1, 1), (1, 1), (0, -1)] := by decide
  have e8 : dirsL 8 = [(0, -1), (-1, 0), (1, 0), (0, 1), (-1, -1), (1, -1), (-1, 1), (1, 1)] := by decide
  rw [e5, e4, e8]
  simp only [List.map_cons, List.map_nil, List.mem_cons, List.not_mem_nil, or_false, Bool.or_eq_true, decide_eq_true_eq]
  constructor
  · rintro (⟨h, hi⟩ | ⟨h, hi⟩)
    · refine ⟨?_, hi⟩
      rcases h with h | h | h | h | h | h <;> simp only [h, true_or, or_true]
    · refine ⟨?_, hi⟩
      rcases h with h | h | h | h | h <;> simp only [h, true_or, or_true]
  · rintro ⟨h, hi⟩
    rcases h with h | h | h | h | h | h | h | h <;> simp only [h, hi, true_or, or_true, and_self]
theorem king_sub (s k q : Int) (hs : s = 0 ∨ s = 1) (hk : 1 ≤ k ∧ k ≤ 15) (h3 : k ≠ 3) : minusN (stepN (16 * s + k) q) (stepN (16 * s + 8) q) = 0 := by
  apply Nat.eq_of_testBit_eq
  intro i
  rw [test_minus, Nat.zero_testBit]
  unfold stepN
  by_cases h13 : k = 13
  · subst h13
    rw [kind_13 s hs, show dirsL 0 = [] from rfl, List.map_nil, show ofN [] = 0 from rfl, Nat.zero_testBit]
    rfl
  · rw [(kind_at s k hs hk h13).1, (kind_at s k hs hk h13).2, (kind_at s 8 hs (by omega) (by omega)).1, (kind_at s 8 hs (by omega) (by omega)).2, ofN_test, ofN_test]
    have sub : ∀ d ∈ dirsL k, d ∈ dirsL 8 := by
      obtain rfl | rfl | rfl | rfl | rfl | rfl | rfl | rfl | rfl | rfl | rfl | rfl | rfl : k = 1 ∨ k = 2 ∨ k = 4 ∨ k = 5 ∨ k = 6 ∨ k = 7 ∨ k = 8 ∨ k = 9 ∨ k = 10 ∨ k = 11 ∨ k = 12 ∨ k = 14 ∨ k = 15 := by omega
      all_goals decide
    by_cases h : (i : Int) ∈ List.map (fun d => fromF (turnF s d) q) (dirsL k)
    · obtain ⟨d, hd, e⟩ := List.mem_map.1 h
      have h8 : (i : Int) ∈ List.map (fun d => fromF (turnF s d) q) (dirsL 8) := List.mem_map.2 ⟨d, sub d hd, e⟩
      simp [h, h8]
    · simp [h]
theorem knight_apart (s q : Int) (hs : s = 0 ∨ s = 1) : stepN (16 * s + 3) q &&& stepN (16 * s + 8) q = 0 := by
  apply Nat.eq_of_testBit_eq
  intro i
  rw [Nat.testBit_and, Nat.zero_testBit]
  by_cases hi : i < 81
  · rw [stepN_test _ _ _ hi, stepN_test _ _ _ hi]
    unfold refStepF
    rw [(kind_at s 3 hs (by omega) (by omega)).1, (kind_at s 3 hs (by omega) (by omega)).2, (kind_at s 8 hs (by omega) (by omega)).1, (kind_at s 8 hs (by omega) (by omega)).2]
    split
    · rfl
    · generalize sizeF ((i : Int) / 9 - q / 9) = f
      generalize aheadF s q i = u
      have e3 : kindStep 3 f u = decide (f = 1 ∧ u = 2) := rfl
      have e8 : kindStep 8 f u = decide (f ≤ 1 ∧ sizeF u ≤ 1) := rfl
      rw [e3, e8]
      by_cases hu : u = 2
      · subst hu
        have : ¬ (f ≤ 1 ∧ sizeF 2 ≤ 1) := by
          rw [show sizeF 2 = 2 from rfl]
          omega
        simp [this]
      · simp [hu]
  · have : (stepN (16 * s + 3) q).testBit i = false := test_sq (stepN_sq _ _) i (by omega)
    rw [this]
    rfl
theorem knight_two (s q : Int) (hs : s = 0 ∨ s = 1) : pop 81 (stepN (16 * s + 3) q) ≤ 2 := by
  have h := pop_ofN ((dirsL (kindF (16 * s + 3))).map fun d => fromF (turnF (sideF (16 * s + 3)) d) q)
  rw [List.length_map, (kind_at s 3 hs (by omega) (by omega)).1] at h
  have e : (dirsL 3).length = 2 := rfl
  unfold stepN
  rw [(kind_at s 3 hs (by omega) (by omega)).1]
  omega

theorem pop_turn (n m : Nat) (h : ∀ i, i < 81 → m.testBit (80 - i) = n.testBit i) : pop 81 m = pop 81 n := by
  rw [pop_list, pop_list]
  have e : List.range 81 = ((List.range 81).map (fun i => 80 - i)).reverse := by decide
  have e2 : (List.range 81).filter (fun i => m.testBit i) = (((List.range 81).map (fun i => 80 - i)).reverse).filter (fun i => m.testBit i) := by rw [← e]
  rw [e2, List.filter_reverse, List.length_reverse, List.filter_map, List.length_map]
  congr 1
  apply List.filter_congr
  intro i hi
  exact h i (List.mem_range.1 hi)
theorem turn_test (k q : Int) (hk : 1 ≤ k ∧ k ≤ 15) (hq : 0 ≤ q ∧ q ≤ 80) (i : Nat) (hi : i < 81) : (stepN (k + 16) (80 - q)).testBit (80 - i) = (stepN k q).testBit i := by
  rw [stepN_test _ _ _ (by omega), stepN_test _ _ _ hi]
  have ek : k + 16 = 16 * 1 + k := by omega
  have ek0 : stepN k q = stepN (16 * 0 + k) q := by rw [show 16 * 0 + k = k by omega]
  have hkk : kindF (k + 16) = kindF k ∧ (k ≠ 13 → sideF (k + 16) = 1 ∧ sideF k = 0) ∧ (k = 13 → kindF k = 0) := by
    by_cases h13 : k = 13
    · subst h13
      exact ⟨by decide, fun h => absurd rfl h, fun _ => by decide⟩
    · have h1 := kind_at 1 k (by omega) hk h13
      have h0 := kind_at 0 k (by omega) hk h13
      rw [show 16 * 0 + k = k by omega] at h0
      rw [← ek] at h1
      exact ⟨by rw [h1.1, h0.1], fun _ => ⟨h1.2, h0.2⟩, fun h => absurd h h13⟩
  have d1 : ∀ x : Int, 0 ≤ x ∧ x ≤ 80 → (80 - x) / 9 = 8 - x / 9 ∧ (80 - x) % 9 = 8 - x % 9 := by intro x hx; omega
  have ci : ((80 - i : Nat) : Int) = 80 - (i : Int) := by omega
  rw [ci]
  obtain ⟨q1, q2⟩ := d1 q hq
  obtain ⟨i1, i2⟩ := d1 i (by omega)
  unfold refStepF
  rw [hkk.1]
  by_cases c : q = i
  · rw [if_pos (by omega), if_pos (by omega)]
  · rw [if_neg (by omega), if_neg (by omega), i1, q1]
    have es : sizeF (8 - (i : Int) / 9 - (8 - q / 9)) = sizeF ((i : Int) / 9 - q / 9) := by
      unfold sizeF
      split <;> split <;> omega
    rw [es]
    by_cases h13 : k = 13
    · rw [hkk.2.2 h13]
      rfl
    · obtain ⟨s1, s0⟩ := hkk.2.1 h13
      have ea : aheadF (sideF (k + 16)) (80 - q) (80 - (i : Int)) = aheadF (sideF k) q i := by
        rw [s1, s0]
        unfold aheadF
        rw [if_pos rfl, if_neg (by decide), q2, i2]
        omega
      rw [ea]
theorem turn_pop (k q : Int) (hk : 1 ≤ k ∧ k ≤ 15) (hq : 0 ≤ q ∧ q ≤ 80) : pop 81 (stepN (k + 16) (80 - q)) = pop 81 (stepN k q) :=
  pop_turn _ _ (fun i hi => turn_test k q hk hq i hi)
theorem dirs_kind (k : Int) (hk : 1 ≤ k ∧ k ≤ 15) : dirsL (kindF k) = dirsL k := by
  by_cases h13 : k = 13
  · subst h13
    decide
  · have h0 := kind_at 0 k (by omega) hk h13
    rw [show 16 * 0 + k = k by omega] at h0
    rw [h0.1]
theorem part_turn (k q : Int) (hk : 1 ≤ k ∧ k ≤ 15) : partN (dirsL k) 0 q (dirsL k).length = stepN k q := by
  unfold partN stepN
  rw [List.take_length, dirs_kind k hk]
  by_cases h13 : k = 13
  · subst h13
    rfl
  · have h0 := kind_at 0 k (by omega) hk h13
    rw [show 16 * 0 + k = k by omega] at h0
    rw [h0.2]
end Go.Proofs.YtilhicohfnaclaaDoor
