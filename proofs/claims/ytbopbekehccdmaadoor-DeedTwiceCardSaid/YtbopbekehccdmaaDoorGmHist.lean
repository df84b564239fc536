/-
  A game with its history: moves made one behind the other, and taken back one by one.
-/
import Derived.Test.YtbopbekehccdmaaDoorGmLoop
import Derived.Test.YtbopbekehccdmaaDoorMakes
import Derived.Great.BuildSlice
namespace Go.Proofs.YtbopbekehccdmaaDoor
open Go.RowKit
set_option linter.unusedVariables false
set_option linter.unusedSimpArgs false
set_option maxRecDepth 100000

/-- From z0 on these moves were made, each at the position that stands with it: behind them is z. -/
inductive Hist (z0 : List Int) : List (List Int × Mv) → List Int → Prop
  | nil : Hist z0 [] z0
  | snoc {H : List (List Int × Mv)} {z : List Int} {m : Mv} : Hist z0 H z → canF z m.f m.t m.d m.p = true → Hist z0 (H ++ [(z, m)]) (afterZ z m.f m.t m.d m.p)
def mdH (h : List Int × Mv) : Md := mdOf h.1 h.2.f h.2.t h.2.d h.2.p
theorem hist_ok {z0 : List Int} {n : Int} (hz : PosOk z0 n) {H : List (List Int × Mv)} {z : List Int} (h : Hist z0 H z) : n + H.length ≤ 127 → PosOk z (n + H.length) := by
  induction h with
  | nil => exact fun _ => hz.mono (by simp)
  | snoc h hc ih =>
    rename_i H z m
    intro hn
    rw [List.length_append] at hn ⊢
    simp only [List.length_cons, List.length_nil] at hn ⊢
    have o := ih (by omega)
    obtain ⟨o', s'⟩ := afterZ_ok o (by omega) hc
    exact o'.mono (by omega)
theorem hist_snoc {z0 z z' : List Int} {m : Mv} {H : List (List Int × Mv)} (h : Hist z0 (H ++ [(z', m)]) z) : Hist z0 H z' ∧ canF z' m.f m.t m.d m.p = true ∧ z = afterZ z' m.f m.t m.d m.p := by
  generalize e : H ++ [(z', m)] = K at h
  cases h with
  | nil => simp at e
  | snoc h hc =>
    obtain ⟨rfl, e2⟩ := List.append_inj' e rfl
    simp only [List.cons.injEq, Prod.mk.injEq, and_true] at e2
    obtain ⟨rfl, rfl⟩ := e2
    exact ⟨h, hc, rfl⟩
theorem hist_nil {z0 z : List Int} (h : Hist z0 [] z) : z = z0 := by
  generalize e : ([] : List (List Int × Mv)) = K at h
  cases h with
  | nil => rfl
  | snoc h hc => simp at e

structure HInv (W : World) (B g b : Nat) (z0 : List Int) (H : List (List Int × Mv)) (z : List Int) (v : Value) : Prop where
  gk : Gk W g b z v
  past : Past W B g b v (H.map mdH)
  hist : Hist z0 H z
theorem HInv.grow {W W' : World} {B g b : Nat} {z0 z : List Int} {H : List (List Int × Mv)} {v : Value} (h : HInv W B g b z0 H z v) (hb : Below W.heap.size W W') : HInv W' B g b z0 H z v := ⟨h.gk.grow hb, h.past.grow hb, h.hist⟩
theorem HInv.lt {W : World} {B g b : Nat} {z0 z : List Int} {H : List (List Int × Mv)} {v : Value} (h : HInv W B g b z0 H z v) : g < W.heap.size ∧ b < W.heap.size ∧ ∀ k, v.ownBlock = some k → B ≤ k ∧ k < W.heap.size := ⟨h.gk.1.lt, h.gk.2.1.lt, fun k e => own_lt h.past.1 k e⟩
theorem HInv.below {W w w' : World} {B g b n0 : Nat} {z0 z : List Int} {H : List (List Int × Mv)} {v : Value} (h : HInv W B g b z0 H z v) (hw : Below n0 w W) (hb : But3 g b v.ownBlock W w') (h0 : n0 ≤ g) (h1 : n0 ≤ b) (h2 : n0 ≤ B) (h3 : n0 ≤ W.heap.size) : Below n0 w w' :=
  hw.trans (hb.below h0 h1 (fun k e => Nat.le_trans h2 (h.lt.2.2 k e).1) h3)
theorem hmade_yes (B g b : Nat) (n : Int) (z0 : List Int) (H : List (List Int × Mv)) (z : List Int) (v : Value) (m : Mv) (hz : PosOk z0 n) (hn : n + H.length ≤ 126) (hL : H.length ≤ 1000) (W : World) (hB : B ≤ W.heap.size) (h : HInv W B g b z0 H z v) (hcan : canF z m.f m.t m.d m.p = true) :
    Calls Tryd.prog 33 #[.pointer (some ⟨g, 0, none⟩), .agg #[.int .i64 m.f, .int .i64 m.t, .int .i64 m.d, .bool m.p]] W fun e w' => e = .returned (.bool true) ∧ ∃ v', HInv w' B g b z0 (H ++ [(z, m)]) (afterZ z m.f m.t m.d m.p) v' ∧ But3 g b v.ownBlock W w' := by
  have o := hist_ok hz h.hist (by omega)
  refine (make_yes B g b z v (H.map mdH) m.f m.t m.d m.p o.len o.i8 o.clean (fun j a b => ⟨(o.hand j a b).1, Int.le_trans (o.hand j a b).2 hn⟩) (by rw [List.length_map]; exact hL) W hB h.gk h.past hcan).mono ?_
  rintro e w' ⟨rfl, v', hG, hP, hBu⟩
  exact ⟨rfl, v', ⟨hG, by rw [List.map_append]; exact hP, .snoc h.hist hcan⟩, hBu⟩
theorem hmade_no (B g b : Nat) (n : Int) (z0 : List Int) (H : List (List Int × Mv)) (z : List Int) (v : Value) (m : Mv) (hz : PosOk z0 n) (hn : n + H.length ≤ 127) (W : World) (h : HInv W B g b z0 H z v) (hcan : canF z m.f m.t m.d m.p = false) :
    Calls Tryd.prog 33 #[.pointer (some ⟨g, 0, none⟩), .agg #[.int .i64 m.f, .int .i64 m.t, .int .i64 m.d, .bool m.p]] W fun e w' => e = .returned (.bool false) ∧ Below W.heap.size W w' := by
  have o := hist_ok hz h.hist hn
  exact make_no g b z v m.f m.t m.d m.p o.len o.i8 W h.gk hcan
theorem hback_yes (B g b : Nat) (n : Int) (z0 : List Int) (H : List (List Int × Mv)) (z z' : List Int) (m : Mv) (v : Value) (hz : PosOk z0 n) (hn : n + H.length ≤ 126) (hL : H.length ≤ 1000) (W : World) (h : HInv W B g b z0 (H ++ [(z', m)]) z v) :
    Calls Tryd.prog 37 #[.pointer (some ⟨g, 0, none⟩)] W fun e w' => e = .returned (.bool true) ∧ ∃ v', HInv w' B g b z0 H z' v' ∧ But2 g b W w' := by
  obtain ⟨h1, hc, rfl⟩ := hist_snoc h.hist
  have o := hist_ok hz h1 (by omega)
  have hp := h.past
  rw [List.map_append] at hp
  refine (back_made B g b z' v (H.map mdH) m.f m.t m.d m.p (o.mono (by omega)) hc (by rw [List.length_map]; exact hL) W h.gk hp).mono ?_
  rintro e w' ⟨rfl, v', hG, hP, hb⟩
  exact ⟨rfl, v', ⟨hG, hP, h1⟩, hb⟩
theorem hback_no (B g b : Nat) (z0 z : List Int) (v : Value) (W : World) (h : HInv W B g b z0 [] z v) :
    Calls Tryd.prog 37 #[.pointer (some ⟨g, 0, none⟩)] W fun e w' => e = .returned (.bool false) ∧ W = w' := by
  obtain ⟨a, cap, hv⟩ := past_size h.past
  exact back_none g b z v a cap hv W h.gk
theorem hlen (B g b : Nat) (z0 z : List Int) (H : List (List Int × Mv)) (v : Value) (W : World) (h : HInv W B g b z0 H z v) :
    Calls Tryd.prog 34 #[.pointer (some ⟨g, 0, none⟩)] W fun e w' => e = .returned (.int .i64 (H.length : Int)) ∧ W = w' := by
  obtain ⟨a, cap, hv⟩ := past_size h.past
  rw [List.length_map] at hv
  exact lenG_any g b z v H.length a cap hv W h.gk

/-! Positions in a row. -/
def posCs (L : List (List Int)) : List Value := L.flatMap posC
theorem posCs_len (L : List (List Int)) (h : ∀ z ∈ L, z.length = 98) : (posCs L).length = L.length * 98 := by
  induction L with
  | nil => rfl
  | cons z L ih =>
    show (posC z ++ posCs L).length = _
    rw [List.length_append, posC_len, ih (fun y hy => h y (by simp [hy])), h z (by simp), List.length_cons]
    omega
theorem posCs_snoc (L : List (List Int)) (z : List Int) : posCs (L ++ [z]) = posCs L ++ posC z := by
  unfold posCs
  rw [List.flatMap_append]
  simp
theorem addr_zero (j i : Nat) : (⟨j, 0, none⟩ : Addr).add i = ⟨j, i, none⟩ := by
  unfold Addr.add
  split
  · rename_i h0
    rw [h0]
  · rw [Nat.zero_add]
/-- One of the positions of a row. -/
theorem posCs_at (A R : List (List Int)) (z : List Int) (h : ∀ y ∈ A, y.length = 98) (hz : z.length = 98) (j : Nat) (v : Value) (hj : (posC z)[j]? = some v) : (posCs (A ++ z :: R))[A.length * 98 + j]? = some v := by
  have hl : j < 98 := by
    have := (List.getElem?_eq_some_iff.1 hj).1
    rwa [posC_len, hz] at this
  unfold posCs
  rw [List.flatMap_append]
  show (posCs A ++ (posC z ++ posCs R))[_]? = _
  rw [List.getElem?_append_right (by rw [posCs_len A h]; omega), posCs_len A h, show A.length * 98 + j - A.length * 98 = j by omega, List.getElem?_append_left (by rw [posC_len, hz]; exact hl)]
  exact hj
/-- Two rows of unlike types lie apart. -/
theorem own_apart {w : World} {B B' : Nat} {T T' : TypeId} {c c' n n' : Nat} {v v' : Value} {xs xs' : List Value} (h : w.ownsRow B T c v n xs) (h' : w.ownsRow B' T' c' v' n' xs') (hT : T' ≠ T) : v.ownBlock = none ∨ v.ownBlock ≠ v'.ownBlock := by
  rcases h'.2 with ⟨rfl, _⟩ | ⟨j, cap, cur, rfl, _, h2, _⟩
  · cases e : v.ownBlock with
    | none => exact .inl rfl
    | some k => exact .inr (by simp [Value.ownBlock])
  · right
    exact own_ne h h2 hT
theorem pos_ne_made : (28 : TypeId) ≠ 103 := by decide
theorem game_ne_pos : (61 : TypeId) ≠ 28 := by decide
theorem board_ne_pos : (45 : TypeId) ≠ 28 := by decide
/-- A row of positions beside a game. -/
def WasAt (W : World) (B : Nat) (s : Value) (Zs : List (List Int)) : Prop := W.ownsRow B 28 98 s Zs.length (posCs Zs)
theorem WasAt.ne {W : World} {B g b : Nat} {s v : Value} {Zs : List (List Int)} {z0 z : List Int} {H : List (List Int × Mv)} (h : WasAt W B s Zs) (k : HInv W B g b z0 H z v) : s.ownBlock ≠ some g ∧ s.ownBlock ≠ some b ∧ (v.ownBlock = none ∨ v.ownBlock ≠ s.ownBlock) :=
  ⟨own_ne h k.gk.1 game_ne_pos, own_ne h k.gk.2.1 board_ne_pos, own_apart k.past.1 h pos_ne_made⟩
theorem own_keep {W W' : World} {B : Nat} {T : TypeId} {c n : Nat} {v : Value} {xs : List Value} (h : W.ownsRow B T c v n xs) (hk : ∀ j o, v.ownBlock = some j → W.heap[j]? = some o → W'.heap[j]? = some o) : W'.ownsRow B T c v n xs := by
  obtain ⟨hl, ho⟩ := h
  rcases ho with ho | ⟨j, cap, cur, rfl, h1, h2, h3⟩
  · exact ⟨hl, .inl ho⟩
  · exact ⟨hl, .inr ⟨j, cap, cur, rfl, h1, hk j _ rfl h2, h3⟩⟩
theorem WasAt.but3 {W W' : World} {B g b : Nat} {s v : Value} {Zs : List (List Int)} {z0 z : List Int} {H : List (List Int × Mv)} (h : WasAt W B s Zs) (k : HInv W B g b z0 H z v) (hb : But3 g b v.ownBlock W W') : WasAt W' B s Zs := by
  obtain ⟨n1, n2, n3⟩ := h.ne k
  exact own_keep h fun j o e hj => hb.row hj (fun q => n1 (by rw [e, q])) (fun q => n2 (by rw [e, q])) (fun q => by
    rcases n3 with n3 | n3
    · rw [n3] at q; exact absurd q (by simp)
    · exact n3 (by rw [e, ← q]))
theorem WasAt.but2 {W W' : World} {B g b : Nat} {s v : Value} {Zs : List (List Int)} {z0 z : List Int} {H : List (List Int × Mv)} (h : WasAt W B s Zs) (k : HInv W B g b z0 H z v) (hb : But2 g b W W') : WasAt W' B s Zs := h.but3 k (.of2 hb)
theorem WasAt.grow {W W' : World} {B : Nat} {s : Value} {Zs : List (List Int)} (h : WasAt W B s Zs) (hb : Below W.heap.size W W') : WasAt W' B s Zs := own_keep h fun j o _ hj => (hb.block j (Array.getElem?_eq_some_iff.1 hj).1).trans hj
theorem HInv.grown {W W' : World} {B g b : Nat} {s v : Value} {Zs : List (List Int)} {z0 z : List Int} {H : List (List Int × Mv)} (k : HInv W B g b z0 H z v) (h : WasAt W B s Zs) (hg : W.grownBy W' s.ownBlock) : HInv W' B g b z0 H z v := by
  obtain ⟨n1, n2, n3⟩ := h.ne k
  exact ⟨gk_grown k.gk hg n1 n2, ⟨k.past.1.kept hg n3, k.past.2⟩, k.hist⟩
theorem WasAt.below {W W' w : World} {B n0 : Nat} {s : Value} {Zs : List (List Int)} (h : WasAt W B s Zs) (hw : Below n0 w W) (hg : W.grownBy W' s.ownBlock) (h2 : n0 ≤ B) (h3 : n0 ≤ W.heap.size) : Below n0 w W' :=
  hw.trans ⟨hg.os, hg.tape, hg.output, hg.size, fun k hk => hg.block k (by omega) (fun e => by have := (own_lt h k e.symm).1; omega)⟩
theorem WasAt.range {W : World} {B N cap js : Nat} {A R : List (List Int)} {z : List Int} (h : WasAt W B (.slice (some ⟨js, 0, none⟩) N cap) (A ++ z :: R)) (hA : ∀ y ∈ A, y.length = 98) (hz : z.length = 98) : W.rangeAt js (A.length * 98) (posC z) := fun j v hj => by
  have := World.ownsRow.cells h (g := js) rfl (A.length * 98 + j) v (posCs_at A R z hA hz j v hj)
  rw [addr_zero] at this
  exact this
theorem hist_lens {z0 : List Int} (hz : z0.length = 98) {H : List (List Int × Mv)} {z : List Int} (h : Hist z0 H z) : (∀ y ∈ H.map Prod.fst, y.length = 98) ∧ z.length = 98 := by
  induction h with
  | nil => exact ⟨fun y hy => by simp at hy, hz⟩
  | snoc h hc ih =>
    refine ⟨fun y hy => ?_, afterZ_len _ _ _ _ _ ih.2⟩
    rw [List.map_append, List.mem_append] at hy
    rcases hy with hy | hy
    · exact ih.1 y hy
    · simp at hy; rw [hy]; exact ih.2
theorem infoPosB : (Tryd.prog.info? 28).map (fun i => (i.size, i.bytes, i.zero.map (·.cells.size))) = some (98, 98, some 98) := by kernel_rfl
theorem info_pos : ∃ i zp, Tryd.prog.info? 28 = some i ∧ i.zero = some zp ∧ i.size = 98 ∧ i.bytes = 98 ∧ zp.cells.size = 98 := by
  have h := infoPosB
  cases hq : Tryd.prog.info? 28 with
  | none => simp [hq] at h
  | some i =>
    simp only [hq, Option.map_some, Option.some.injEq, Prod.mk.injEq] at h
    obtain ⟨h1, h2, h3⟩ := h
    cases hz : i.zero with
    | none => simp [hz] at h3
    | some zp =>
      simp only [hz, Option.map_some, Option.some.injEq] at h3
      exact ⟨i, zp, rfl, hz, h1, h2, h3⟩
/-- A row of one position, laid anew. -/
theorem was_new (W : World) (B : Nat) (z : List Int) (hz : z.length = 98) (hB : B ≤ W.heap.size) : WasAt (W.alloc (.cells (posC z).toArray 28)) B (.slice (some ⟨W.heap.size, 0, none⟩) 1 1) [z] := by
  have e : posCs [z] = posC z := by simp [posCs]
  refine ⟨by rw [e, posC_len, hz]; rfl, .inr ⟨W.heap.size, 1, (posC z).toArray, rfl, hB, heap_alloc_new W _, Nat.le_refl _, by decide, ?_, ?_⟩⟩
  · rw [List.size_toArray, posC_len, hz]
  · rw [e]
    exact List.take_of_length_le (by rw [posC_len, hz]; exact Nat.le_refl _)
theorem fill_pos (z : List Int) (hz : z.length = 98) (cs : Array Value) (hc : cs.size = 98) : Instr.fill (fun i => some (i * 98, 98)) cs [(0, .agg (posC z).toArray)] = some (posC z).toArray := by
  have h := Great.fill_whole (s := 98) (by omega) [.agg (posC z).toArray] cs (fun v hv => by
    obtain rfl : v = .agg (posC z).toArray := by simpa using hv
    show (posC z).toArray.size = 98
    rw [List.size_toArray, posC_len, hz]) (by rw [hc]; rfl)
  simpa [Value.cells] using h
end Go.Proofs.YtbopbekehccdmaaDoor
