/-
  What the walk of the law WholeReach needs.
-/
import Derived.Test.YtnmekghjkajhcaaDoorReachFn
import Derived.LoopTactic
namespace Go.Proofs.YtnmekghjkajhcaaDoor.wholeReach
open Go.RowKit
set_option linter.unusedVariables false
set_option linter.unusedSimpArgs false

theorem own_slice {w : World} {B : Nat} {v : Value} {l : List Int} (h : Own w B v l) : ∃ o cap, v = .slice o l.length cap ∧ (∀ (j : Nat) (hj : j < l.length), ∃ g, o = some ⟨g, 0, none⟩ ∧ g < w.heap.size ∧ w.cell? ⟨g, 0 + j, none⟩ = some (.int .i64 l[j])) := by
  rcases h.parts with ⟨rfl, hnil⟩ | ⟨g, cap, rfl, hg, hgl, hcells⟩
  · subst hnil
    exact ⟨none, 0, rfl, fun j hj => absurd hj (Nat.not_lt_zero _)⟩
  · exact ⟨_, cap, rfl, fun j hj => ⟨g, rfl, hgl, hcells j hj⟩⟩
theorem zero_set (w : World) : (zeroValue 26).run Tryd.prog w = .ok (.agg #[.int .u64 0, .int .u64 0]) w := by kernel_rfl
theorem head_step : pop 81 (stepN 8 40) = 8 := by decide +kernel
theorem head_ray : pop 81 (rayN 2 8 0) = 8 := by decide +kernel
theorem head_full : pop 81 full = 81 := by decide +kernel
theorem head_name : nameF 14 = ⟨#[43, 66]⟩ := by decide +kernel
theorem new_var (w : World) (x y : Int) : Var (w.alloc (.cells #[.int .u64 x, .int .u64 y] 26)) w.heap.size x y := ⟨by simp, by go_simp, by go_simp, by go_simp, by go_simp⟩
theorem off (s k : Int) (hs : s = 0 ∨ s = 1) (hk : 1 ≤ k ∧ k ≤ 15 ∧ k ≠ 13) : ofF s k = 16 * s + k := by
  have h := rawF_cases k
  unfold ofF
  rw [if_neg (by omega)]
  rcases hs with rfl | rfl
  · rw [if_pos rfl]; omega
  · rw [if_neg (by decide), if_pos rfl]; omega
/-- What the closure has captured: the side, the square, the squares taken. -/
structure RV (s q l h : Int) (b0 b1 b2 : Nat) (W : World) : Prop where
  c0 : W.cell? ⟨b0, 0, none⟩ = some (.int .i64 s)
  c1 : W.cell? ⟨b1, 0, none⟩ = some (.int .i64 q)
  c2 : W.cell? ⟨b2, 0, none⟩ = some (.int .u64 l)
  c3 : W.cell? ⟨b2, 1, none⟩ = some (.int .u64 h)
  z0 : b0 < W.heap.size
  z1 : b1 < W.heap.size
  z2 : b2 < W.heap.size
theorem RV.grow {s q l h : Int} {b0 b1 b2 : Nat} {W W' : World} (v : RV s q l h b0 b1 b2 W) (hb : Below W.heap.size W W') : RV s q l h b0 b1 b2 W' :=
  ⟨(hb.cell (p := ⟨b0, 0, none⟩) v.z0).trans v.c0, (hb.cell (p := ⟨b1, 0, none⟩) v.z1).trans v.c1, (hb.cell (p := ⟨b2, 0, none⟩) v.z2).trans v.c2, (hb.cell (p := ⟨b2, 1, none⟩) v.z2).trans v.c3,
    Nat.lt_of_lt_of_le v.z0 hb.size, Nat.lt_of_lt_of_le v.z1 hb.size, Nat.lt_of_lt_of_le v.z2 hb.size⟩
theorem RV.drew {s q l h : Int} {b0 b1 b2 : Nat} {W : World} (v : RV s q l h b0 b1 b2 W) : RV s q l h b0 b1 b2 W.drew := v.grow (bref W).drew
theorem heldK_fst {wc W : World} {a b c : Nat} {x0 y0 x1 y1 x2 y2 : Value} (h : Below wc.heap.size wc W ∧ a < W.heap.size ∧ b < W.heap.size ∧ c < W.heap.size ∧ W.cell? ⟨a, 0, none⟩ = some x0 ∧ W.cell? ⟨a, 1, none⟩ = some y0 ∧ W.cell? ⟨b, 0, none⟩ = some x1 ∧ W.cell? ⟨b, 1, none⟩ = some y1 ∧ W.cell? ⟨c, 0, none⟩ = some x2 ∧ W.cell? ⟨c, 1, none⟩ = some y2) : Below wc.heap.size wc W := h.1
theorem heldK_step {wc W w' : World} {a b c : Nat} {x0 y0 x1 y1 x2 y2 : Value} (h : Below wc.heap.size wc W ∧ a < W.heap.size ∧ b < W.heap.size ∧ c < W.heap.size ∧ W.cell? ⟨a, 0, none⟩ = some x0 ∧ W.cell? ⟨a, 1, none⟩ = some y0 ∧ W.cell? ⟨b, 0, none⟩ = some x1 ∧ W.cell? ⟨b, 1, none⟩ = some y1 ∧ W.cell? ⟨c, 0, none⟩ = some x2 ∧ W.cell? ⟨c, 1, none⟩ = some y2) (hb : Below W.heap.size W w') :
    Below wc.heap.size wc w' ∧ a < w'.heap.size ∧ b < w'.heap.size ∧ c < w'.heap.size ∧ w'.cell? ⟨a, 0, none⟩ = some x0 ∧ w'.cell? ⟨a, 1, none⟩ = some y0 ∧ w'.cell? ⟨b, 0, none⟩ = some x1 ∧ w'.cell? ⟨b, 1, none⟩ = some y1 ∧ w'.cell? ⟨c, 0, none⟩ = some x2 ∧ w'.cell? ⟨c, 1, none⟩ = some y2 := by
  obtain ⟨h0, ha, hb1, hc, c0, c1, c2, c3, c4, c5⟩ := h
  have hs := hb.size
  exact ⟨bthen h0 hb, by omega, by omega, by omega, (hb.cell (p := ⟨a, 0, none⟩) ha).trans c0, (hb.cell (p := ⟨a, 1, none⟩) ha).trans c1, (hb.cell (p := ⟨b, 0, none⟩) hb1).trans c2, (hb.cell (p := ⟨b, 1, none⟩) hb1).trans c3, (hb.cell (p := ⟨c, 0, none⟩) hc).trans c4, (hb.cell (p := ⟨c, 1, none⟩) hc).trans c5⟩
theorem heldW_step {wc W w' : World} {s : Nat} {x y : Value} (h : Below wc.heap.size wc W ∧ s < W.heap.size ∧ W.cell? ⟨s, 0, none⟩ = some x ∧ W.cell? ⟨s, 1, none⟩ = some y) (hb : Below W.heap.size W w') :
    Below wc.heap.size wc w' ∧ s < w'.heap.size ∧ w'.cell? ⟨s, 0, none⟩ = some x ∧ w'.cell? ⟨s, 1, none⟩ = some y := by
  obtain ⟨h0, h1, h3, h4⟩ := h
  have hs := hb.size
  exact ⟨bthen h0 hb, by omega, (hb.cell (p := ⟨s, 0, none⟩) h1).trans h3, (hb.cell (p := ⟨s, 1, none⟩) h1).trans h4⟩
theorem heldW_fst {wc W : World} {s : Nat} {x y : Value} (h : Below wc.heap.size wc W ∧ s < W.heap.size ∧ W.cell? ⟨s, 0, none⟩ = some x ∧ W.cell? ⟨s, 1, none⟩ = some y) : Below wc.heap.size wc W := h.1

theorem heldS_step {wc W w' : World} {p b : Nat} {z x y : Value} (h : Below wc.heap.size wc W ∧ p < W.heap.size ∧ b < W.heap.size ∧ W.cell? ⟨p, 0, none⟩ = some z ∧ W.cell? ⟨b, 0, none⟩ = some x ∧ W.cell? ⟨b, 1, none⟩ = some y) (hb : Below W.heap.size W w') :
    Below wc.heap.size wc w' ∧ p < w'.heap.size ∧ b < w'.heap.size ∧ w'.cell? ⟨p, 0, none⟩ = some z ∧ w'.cell? ⟨b, 0, none⟩ = some x ∧ w'.cell? ⟨b, 1, none⟩ = some y := by
  obtain ⟨h0, h1, h2, h3, h4, h5⟩ := h
  have hs := hb.size
  exact ⟨bthen h0 hb, by omega, by omega, (hb.cell (p := ⟨p, 0, none⟩) h1).trans h3, (hb.cell (p := ⟨b, 0, none⟩) h2).trans h4, (hb.cell (p := ⟨b, 1, none⟩) h2).trans h5⟩
theorem up_k (k : Nat) (h : 1 ≤ k) (h2 : k < 5) : upF (k : Int) = (k : Int) + 8 := by
  unfold upF; exact if_pos (by omega)
theorem raw_k (k : Nat) (h : 1 ≤ k) (h2 : k < 5) : rawF ((k : Int) + 8) = (k : Int) := by
  unfold rawF
  rw [if_neg (by omega), Int.add_sub_cancel, up_k k h h2, if_neg (by omega)]

end Go.Proofs.YtnmekghjkajhcaaDoor.wholeReach
