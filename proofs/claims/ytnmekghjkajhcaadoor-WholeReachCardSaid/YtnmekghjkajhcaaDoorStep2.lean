/-
  The step package's lists of ways: aslant, straight, Dirs.
-/
import Derived.Test.YtnmekghjkajhcaaDoorStep1
import Derived.OwnWalk
import Derived.WalkSmall
import Derived.ArgAppend
namespace Go.Proofs.YtnmekghjkajhcaaDoor
open Go.RowKit
set_option linter.unusedVariables false

/-- A list of ways, laid from block g on. -/
def cellsD (l : List (Int × Int)) : List Value := l.flatMap fun d => [.int .i64 d.1, .int .i64 d.2]
structure DirsAt (w : World) (g : Nat) (l : List (Int × Int)) : Prop where
  lt : g < w.heap.size
  at0 : ∀ (j : Nat) (u : Value), (cellsD l)[j]? = some u → w.cell? ⟨g, j, none⟩ = some u

theorem DirsAt.grow {w w' : World} {g : Nat} {l : List (Int × Int)} (h : DirsAt w g l) (hb : Below w.heap.size w w') : DirsAt w' g l :=
  ⟨Nat.lt_of_lt_of_le h.lt hb.size, fun j u hj => (hb.cell (p := ⟨g, j, none⟩) h.lt).trans (h.at0 j u hj)⟩
theorem DirsAt.new (w : World) (l : List (Int × Int)) (cs : Array Value) (t : TypeId) (h : cs.toList = cellsD l) : DirsAt (w.alloc (.cells cs t)) w.heap.size l := by
  refine ⟨by simp, fun j u hj => ?_⟩
  rw [← h] at hj
  have e := heap_alloc_new w (.cells cs t)
  simp only [World.cell?, e]
  simpa using hj
theorem DirsAt.row {w : World} {B n : Nat} {t : TypeId} {v : Value} {l : List (Int × Int)} (h : w.ownsRow B t 2 v n (cellsD l)) (hn : n ≠ 0) : ∃ g cap, v = .slice (some ⟨g, 0, none⟩) n cap ∧ B ≤ g ∧ DirsAt w g l := by
  rcases h.2 with ⟨-, h2⟩ | ⟨g, cap, cur, hv, hb, hg, -⟩
  · exact absurd h2 hn
  · have ho : v.ownBlock = some g := by rw [hv]; rfl
    refine ⟨g, cap, hv, hb, (Array.getElem?_eq_some_iff.1 hg).1, fun j u hj => ?_⟩
    have := h.cells ho j u hj
    have e : (⟨g, 0, none⟩ : Addr).add j = ⟨g, j, none⟩ := by unfold Addr.add; split <;> simp_all
    rw [e] at this
    exact this
/-- A value that is a list of ways, in memory that lies behind B. -/
def DirsV (w : World) (B : Nat) (v : Value) (l : List (Int × Int)) : Prop := (v = .slice none 0 0 ∧ l = []) ∨ ∃ g cap, v = .slice (some ⟨g, 0, none⟩) l.length cap ∧ B ≤ g ∧ DirsAt w g l

theorem DirsV.parts {w : World} {B : Nat} {v : Value} {l : List (Int × Int)} (h : DirsV w B v l) : ∃ ao cap, v = .slice ao l.length cap ∧ (l.length ≠ 0 → ∃ g, ao = some ⟨g, 0, none⟩ ∧ B ≤ g ∧ DirsAt w g l) := by
  rcases h with ⟨rfl, rfl⟩ | ⟨g, cap, rfl, hb, hd⟩
  · exact ⟨none, 0, rfl, fun h => absurd rfl h⟩
  · exact ⟨_, cap, rfl, fun _ => ⟨g, rfl, hb, hd⟩⟩

theorem infoDir : (Tryd.prog.info? 23).map (fun i => (i.zero, i.size, i.bytes)) = some (some (.agg #[.int .i64 0, .int .i64 0]), 2, 16) := by kernel_rfl

theorem straight_any (w : World) :
    Calls Tryd.prog 45 #[] w fun e w' => e = .returned (.slice (some ⟨w.heap.size, 0, none⟩) 4 4) ∧ DirsAt w' w.heap.size straightL ∧ Below w.heap.size w w' := by
  go_enter Tryd.func45, Tryd.ntmps45
  go_wp2
  go_ret
  exact ⟨rfl, DirsAt.new w straightL _ _ rfl, ball (bref _) _⟩
theorem aslant_any (w : World) :
    Calls Tryd.prog 44 #[] w fun e w' => e = .returned (.slice (some ⟨w.heap.size, 0, none⟩) 4 4) ∧ DirsAt w' w.heap.size aslantL ∧ Below w.heap.size w w' := by
  go_enter Tryd.func44, Tryd.ntmps44
  go_wp2
  go_ret
  exact ⟨rfl, DirsAt.new w aslantL _ _ rfl, ball (bref _) _⟩

theorem DirsV.lit (w : World) (B : Nat) (hB : B ≤ w.heap.size) (l : List (Int × Int)) (cs : Array Value) (t : TypeId) (n : Nat) (hn : n = l.length) (h : cs.toList = cellsD l) : DirsV (w.alloc (.cells cs t)) B (.slice (some ⟨w.heap.size, 0, none⟩) n n) l := by
  subst hn
  exact .inr ⟨_, _, rfl, hB, DirsAt.new w l cs t h⟩

theorem DirsAt.add {w : World} {g : Nat} {l : List (Int × Int)} (h : DirsAt w g l) : ∀ j u, (cellsD l)[j]? = some u → w.cell? ((⟨g, 0, none⟩ : Addr).add j) = some u := by
  intro j u hj
  have e : (⟨g, 0, none⟩ : Addr).add j = ⟨g, j, none⟩ := by unfold Addr.add; split <;> simp_all
  rw [e]
  exact h.at0 j u hj
theorem DirsAt.add' {w : World} {g : Nat} {l : List (Int × Int)} (h : DirsAt w g l) : ∀ b, some (⟨g, 0, none⟩ : Addr) = some b → ∀ j u, (cellsD l)[j]? = some u → w.cell? (b.add j) = some u := by
  intro b hb
  cases hb
  exact h.add
theorem oneCells (l : List (Int × Int)) : ∀ u ∈ cellsD l, u.oneCell' = true := by
  intro u hu
  unfold cellsD at hu
  rw [List.mem_flatMap] at hu
  obtain ⟨d, -, hd⟩ := hu
  simp at hd
  rcases hd with rfl | rfl <;> rfl

theorem dirs_4 (w : World) :
    Calls Tryd.prog 37 #[.int .i64 4] w fun e w' => ∃ v, e = .returned v ∧ DirsV w' w.heap.size v (dirsL 4) ∧ Below w.heap.size w w' := by
  obtain ⟨i0, hi, hz0, hz1, hz2⟩ := info_parts infoDir
  go_enter Tryd.func37, Tryd.ntmps37
  go_wp2_with (first
    | (go_at_call 44; refine (aslant_any _).mono ?_; rintro e w1 ⟨rfl, h1, hb1⟩)
    | (at_builtin; refine wpList_append_grows _ rfl _ _ 55 rfl 23 i0 (.agg #[.int .i64 0, .int .i64 0]) 2 16 Tryd.underlying55 hi hz0 hz1 hz2 rfl (by decide) (some ⟨w.heap.size, 0, none⟩) 4 4 (cellsD aslantL) rfl (fun h => nomatch h) rfl (h1.grow (ball (bref w1) _)).add' ⟨w1.heap.size, 0, none⟩ 1 1 (cellsD [(0, -1)]) rfl rfl (DirsAt.new w1 [(0, -1)] _ _ rfl).add (oneCells _) (by decide) (by decide) (by decide) ?_))
  intro v' w2 hown hgrow
  have hB := (ball hb1 _).grown hgrow (by have := hb1.size; simp; omega) (fun k h => nomatch h)
  obtain ⟨g, cap, rfl, hg, hd⟩ := DirsAt.row (l := dirsL 4) hown (by decide)
  have hs := hb1.size
  go_wp2
  go_ret
  exact ⟨_, rfl, .inr ⟨g, cap, rfl, by omega, hd⟩, hB⟩

theorem dirs_gold (k : Int) (h : k = 5 ∨ k = 9 ∨ k = 10 ∨ k = 11 ∨ k = 12) (w : World) :
    Calls Tryd.prog 37 #[.int .i64 k] w fun e w' => ∃ v, e = .returned v ∧ DirsV w' w.heap.size v (straightL ++ [(-1, -1), (1, -1)]) ∧ Below w.heap.size w w' := by
  obtain ⟨i0, hi, hz0, hz1, hz2⟩ := info_parts infoDir
  rcases h with rfl | rfl | rfl | rfl | rfl
  all_goals
    go_enter Tryd.func37, Tryd.ntmps37
    go_wp2_with (first
      | (go_at_call 45; refine (straight_any _).mono ?_; rintro e w1 ⟨rfl, h1, hb1⟩)
      | (at_builtin; refine wpList_append_grows _ rfl _ _ 55 rfl 23 i0 (.agg #[.int .i64 0, .int .i64 0]) 2 16 Tryd.underlying55 hi hz0 hz1 hz2 rfl (by decide) (some ⟨w.heap.size, 0, none⟩) 4 4 (cellsD straightL) rfl (fun h => nomatch h) rfl (h1.grow (ball (bref w1) _)).add' ⟨w1.heap.size, 0, none⟩ 2 2 (cellsD [(-1, -1), (1, -1)]) rfl rfl (DirsAt.new w1 [(-1, -1), (1, -1)] _ _ rfl).add (oneCells _) (by decide) (by decide) (by decide) ?_))
    intro v' w2 hown hgrow
    have hB := (ball hb1 _).grown hgrow (by have := hb1.size; simp; omega) (fun k h => nomatch h)
    obtain ⟨g, cap, rfl, hg, hd⟩ := DirsAt.row (l := straightL ++ [(-1, -1), (1, -1)]) hown (by decide)
    have hs := hb1.size
    go_wp2
    go_ret
    exact ⟨_, rfl, .inr ⟨g, cap, rfl, by omega, hd⟩, hB⟩

theorem dirs_king (w : World) :
    Calls Tryd.prog 37 #[.int .i64 8] w fun e w' => ∃ v, e = .returned v ∧ DirsV w' w.heap.size v (straightL ++ aslantL) ∧ Below w.heap.size w w' := by
  obtain ⟨i0, hi, hz0, hz1, hz2⟩ := info_parts infoDir
  go_enter Tryd.func37, Tryd.ntmps37
  go_wp2_with (first
    | (go_at_call 45; refine (straight_any _).mono ?_; rintro e w1 ⟨rfl, h1, hb1⟩)
    | (go_at_call 44; refine (aslant_any _).mono ?_; rintro e w2 ⟨rfl, h2, hb2⟩)
    | (at_builtin; refine wpList_append_grows _ rfl _ _ 55 rfl 23 i0 (.agg #[.int .i64 0, .int .i64 0]) 2 16 Tryd.underlying55 hi hz0 hz1 hz2 rfl (by decide) (some ⟨w.heap.size, 0, none⟩) 4 4 (cellsD straightL) rfl (fun h => nomatch h) rfl (h1.grow hb2).add' ⟨w1.heap.size, 0, none⟩ 4 4 (cellsD aslantL) rfl rfl h2.add (oneCells _) (by decide) (by decide) (by decide) ?_))
  intro v' w3 hown hgrow
  have hB := (bthen hb1 hb2).grown hgrow (by have := hb1.size; have := hb2.size; omega) (fun k h => nomatch h)
  obtain ⟨g, cap, rfl, hg, hd⟩ := DirsAt.row (l := straightL ++ aslantL) hown (by decide)
  have hs := (bthen hb1 hb2).size
  go_wp2
  go_ret
  exact ⟨_, rfl, .inr ⟨g, cap, rfl, by omega, hd⟩, hB⟩

theorem dirs_any (k : Int) (w : World) :
    Calls Tryd.prog 37 #[.int .i64 k] w fun e w' => ∃ v, e = .returned v ∧ DirsV w' w.heap.size v (dirsL k) ∧ Below w.heap.size w w' := by
  by_cases h4 : k = 4
  · subst h4
    exact dirs_4 w
  by_cases hg : k = 5 ∨ k = 9 ∨ k = 10 ∨ k = 11 ∨ k = 12
  · have e : dirsL k = straightL ++ [(-1, -1), (1, -1)] := by unfold dirsL; rw [if_neg (by omega), if_neg (by omega), if_neg (by omega), if_pos hg]
    rw [e]
    exact dirs_gold k hg w
  by_cases h8 : k = 8
  · subst h8
    exact dirs_king w
  by_cases h1 : k = 1
  · subst h1
    go_enter Tryd.func37, Tryd.ntmps37
    go_wp2
    go_ret
    exact ⟨_, rfl, DirsV.lit w _ (Nat.le_refl _) (dirsL 1) _ _ 1 rfl rfl, ball (bref _) _⟩
  by_cases h3 : k = 3
  · subst h3
    go_enter Tryd.func37, Tryd.ntmps37
    go_wp2
    go_ret
    exact ⟨_, rfl, DirsV.lit w _ (Nat.le_refl _) (dirsL 3) _ _ 2 rfl rfl, ball (bref _) _⟩
  by_cases h14 : k = 14
  · subst h14
    go_enter Tryd.func37, Tryd.ntmps37
    go_wp2_with (go_at_call 45; refine (straight_any _).mono ?_; rintro e w1 ⟨rfl, h1, hb1⟩)
    go_ret
    exact ⟨_, rfl, .inr ⟨_, _, rfl, Nat.le_refl _, h1⟩, hb1⟩
  by_cases h15 : k = 15
  · subst h15
    go_enter Tryd.func37, Tryd.ntmps37
    go_wp2_with (go_at_call 44; refine (aslant_any _).mono ?_; rintro e w1 ⟨rfl, h1, hb1⟩)
    go_ret
    exact ⟨_, rfl, .inr ⟨_, _, rfl, Nat.le_refl _, h1⟩, hb1⟩
  have e : dirsL k = [] := by unfold dirsL; rw [if_neg h1, if_neg h3, if_neg h4, if_neg hg, if_neg h8, if_neg h14, if_neg h15]
  rw [e]
  have b1 : (k == 1) = false := by simpa using h1
  have b3 : (k == 3) = false := by simpa using h3
  have b4 : (k == 4) = false := by simpa using h4
  have b5 : (k == 5) = false := by simp; omega
  have b9 : (k == 9) = false := by simp; omega
  have b10 : (k == 10) = false := by simp; omega
  have b11 : (k == 11) = false := by simp; omega
  have b12 : (k == 12) = false := by simp; omega
  have b8 : (k == 8) = false := by simpa using h8
  have b14 : (k == 14) = false := by simpa using h14
  have b15 : (k == 15) = false := by simpa using h15
  clear e h1 h3 h4 hg h8 h14 h15
  go_enter Tryd.func37, Tryd.ntmps37
  go_wp2
  go_ret
  exact ⟨_, rfl, .inl ⟨rfl, rfl⟩, bref _⟩
end Go.Proofs.YtnmekghjkajhcaaDoor
