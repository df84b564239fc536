/-
  Games in memory: drop.
-/
import Derived.Test.YtbopbekehccdmaaDoorGm5
import Derived.OwnWalk
namespace Go.Proofs.YtbopbekehccdmaaDoor
open Go.RowKit
set_option linter.unusedVariables false
set_option linter.unusedSimpArgs false

theorem own_drew {w : World} {B : Nat} {T : TypeId} {c n : Nat} {v : Value} {xs : List Value} (h : w.ownsRow B T c v n xs) : w.drew.ownsRow B T c v n xs := h
theorem own_ne {w : World} {B : Nat} {T T' : TypeId} {c n g : Nat} {v : Value} {xs : List Value} {C : Array Value} (h : w.ownsRow B T c v n xs) (hg : w.heap[g]? = some (.cells C T' (0, 0))) (hT : T' ≠ T) : v.ownBlock ≠ some g := by
  intro e
  rcases h.2 with ⟨rfl, _⟩ | ⟨j, cap, cur, rfl, _, h2, _⟩
  · exact absurd e (by simp [Value.ownBlock])
  · have : j = g := by simpa [Value.ownBlock] using e
    subst this
    rw [h2] at hg
    simp only [Option.some.injEq, Obj.cells.injEq] at hg
    exact hT hg.2.1.symm
theorem grown_but3 {w w' : World} {r : Option Nat} {g b : Nat} (h : w.grownBy w' r) : But3 g b r w w' := ⟨h.os, h.tape, h.output, h.size, fun k hk _ _ hr => h.block k hk hr⟩

theorem Gk.drew {w : World} {g b : Nat} {z : List Int} {v : Value} (h : Gk w g b z v) : Gk w.drew g b z v := h
theorem gk_grown {W w' : World} {g b : Nat} {z : List Int} {v : Value} {r : Option Nat} (h : Gk W g b z v) (k : W.grownBy w' r) (hg : r ≠ some g) (hb : r ≠ some b) : Gk w' g b z v :=
  ⟨(k.block g h.1.lt (Ne.symm hg)).trans h.1, (k.block b h.2.1.lt (Ne.symm hb)).trans h.2.1, h.2.2⟩
theorem gk_setV {w : World} {g b : Nat} {z : List Int} {v : Value} (h : Gk w g b z v) (v' : Value) : Gk (w.setCell ⟨g, 2, none⟩ v') g b z v' :=
  ⟨h.1.setV v', brd_other h.2.1 (Ne.symm h.2.2) 2 v', h.2.2⟩
theorem pastC_snoc (L : List Md) (m : Md) : pastC (L ++ [m]) = pastC L ++ m.cells := by
  unfold pastC
  rw [List.flatMap_append]
  simp
theorem own_slice {w : World} {B : Nat} {T : TypeId} {c n : Nat} {v : Value} {xs : List Value} (h : w.ownsRow B T c v (n + 1) xs) : ∃ j cap, v = .slice (some ⟨j, 0, none⟩) (n + 1) cap := by
  rcases h.2 with ⟨_, h⟩ | ⟨j, cap, _, e, _⟩
  · omega
  · exact ⟨j, cap, e⟩
theorem Md.one (m : Md) : ∀ u ∈ m.cells, u.oneCell' = true := by
  intro u hu
  simp only [Md.cells, List.mem_cons, List.not_mem_nil, or_false] at hu
  rcases hu with rfl | rfl | rfl | rfl | rfl | rfl <;> rfl
theorem game_ne : (61 : TypeId) ≠ 103 := by decide
theorem board_ne : (45 : TypeId) ≠ 103 := by decide
theorem past_of {w : World} {B g b : Nat} {z : List Int} {v v' : Value} {L : List Md} {m : Md} (h : Gk w g b z v) (o : w.ownsRow B 103 6 v' (L.length + 1) (pastC L ++ m.cells)) : Past w B g b v' (L ++ [m]) := by
  refine ⟨?_, own_ne o h.1 game_ne, own_ne o h.2.1 board_ne⟩
  rw [List.length_append, pastC_snoc]
  exact o
theorem own_lt {w : World} {B : Nat} {T : TypeId} {c n : Nat} {v : Value} {xs : List Value} (h : w.ownsRow B T c v n xs) : ∀ k, v.ownBlock = some k → B ≤ k ∧ k < w.heap.size := h.lt
/-- The step that lays a move to what was made. -/
theorem past_step {w W w' : World} {B g b : Nat} {z : List Int} {v v' : Value} {L : List Md} {m : Md} (hW : Below w.heap.size w W) (h : Gk w g b z v) (hp : Past w B g b v L) (o : w'.ownsRow B 103 6 v' (L.length + 1) (pastC L ++ m.cells)) (k : W.grownBy w' v.ownBlock) (hf : Fresh W v v') :
    Gk w' g b z v ∧ Past w' B g b v' (L ++ [m]) ∧ But4 g b v v' w w' := by
  have h' := gk_grown (h.grow hW) k hp.2.1 hp.2.2
  exact ⟨h', past_of h' o, But4.pre hW ⟨grown_but3 k, hf⟩⟩
theorem row_grown {W w' : World} {r : Option Nat} (k : W.grownBy w' r) {j : Nat} {o : Obj} (h : W.heap[j]? = some o) (hr : r ≠ some j) : w'.heap[j]? = some o :=
  (k.block j (Array.getElem?_eq_some_iff.1 h).1 (Ne.symm hr)).trans h

set_option maxHeartbeats 4000000 in
theorem drop_any (B g b : Nat) (z : List Int) (v : Value) (L : List Md) (t d : Int) (s : Nat) (hs : s < 2) (hsz : at8 z 97 = s) (hd : 1 ≤ d ∧ d ≤ 7) (ht : 0 ≤ t ∧ t < 81) (hm : -127 ≤ at8 z (81 + s * 8 + d.toNat))
    (hL : L.length ≤ 1000) (hz : z.length = 98) (h8 : I8s z) (hc : Clean z) (w : World) (hB : B ≤ w.heap.size) (h : Gk w g b z v) (hp : Past w B g b v L) :
    Calls Tryd.prog 73 #[.pointer (some ⟨g, 0, none⟩), .agg #[.int .i64 0, .int .i64 t, .int .i64 d, .bool false]] w fun e w' => e = .returned (.tuple #[]) ∧ ∃ v',
      Gk w' g b (putZ (z.set (81 + s * 8 + d.toNat) (at8 z (81 + s * 8 + d.toNat) + -1)) t (ofF s d)) v' ∧ Past w' B g b v' (L ++ [⟨0, t, d, false, 0, 0⟩]) ∧ But4 g b v v' w w' := by
  obtain ⟨i0, hi, hz0, hz1, hz2⟩ := info_parts infoMade
  obtain ⟨k, rfl⟩ : ∃ k : Nat, d = k := ⟨d.toNat, by omega⟩
  obtain ⟨q, rfl⟩ : ∃ q : Nat, t = q := ⟨t.toNat, by omega⟩
  rw [Int.toNat_natCast] at *
  have hn := h8.at (81 + s * 8 + k)
  have hz' : (z.set (81 + s * 8 + k) (at8 z (81 + s * 8 + k) + -1)).length = 98 := by rw [List.length_set, hz]
  have h8' : I8s (z.set (81 + s * 8 + k) (at8 z (81 + s * 8 + k) + -1)) := set_8 h8 _ (by omega)
  have hc' : Clean (z.set (81 + s * 8 + k) (at8 z (81 + s * 8 + k) + -1)) := fun j hj hk => by
    rw [at8_set _ _ _ _ (by omega), if_neg (by omega)] at hk ⊢
    exact hc j hj hk
  have hs' : at8 (z.set (81 + s * 8 + k) (at8 z (81 + s * 8 + k) + -1)) 97 = s := by rw [at8_set _ _ _ _ (by omega), if_neg (by omega), hsz]
  have HO := Lib.hid (fun W (h : Gk W g b z v) => h)
  have H1 := Lib.hid (fun W v (h : Gk W g b z v) => hold_k g b z v s k (-1) hs (by omega) hsz (by omega) hz h8 W h)
  have MO := Lib.hid (fun W v (h : Gk W g b (z.set (81 + s * 8 + k) (at8 z (81 + s * 8 + k) + -1)) v) => mover_any g b _ _ v hz' h8' W h)
  rw [hs'] at MO
  have PO := Lib.hid (fun W => pof_any s k W (by omega) (by omega))
  have hx : -128 ≤ ofF s k ∧ ofF s k ≤ 127 := by
    have h := rawF_cases k
    unfold ofF
    split
    · omega
    · split
      · omega
      · split <;> omega
  have H2 := Lib.hid (fun W v (h : Gk W g b (z.set (81 + s * 8 + k) (at8 z (81 + s * 8 + k) + -1)) v) => gput_k g b _ v q (ofF s k) (by omega) hx hz' h8' hc' W h)
  generalize z.set (81 + s * 8 + k) (at8 z (81 + s * 8 + k) + -1) = z1 at *
  generalize putZ z1 q (ofF s k) = z2 at *
  generalize ofF s k = x at *
  obtain ⟨g0, g1, g2⟩ := h.1.cells
  have fg := h.1.frozen 2
  have zg := h.1.lt
  have O := Lib.hid hp.1
  have HP := Lib.hid hp
  have HH := Lib.hid h
  have HL := Lib.hid hL
  have HB := Lib.hid hB
  have HM := Lib.hid (rowA (bref (w.alloc (.cells #[.int .i64 0, .int .i64 q, .int .i64 k, .bool false] 64))))
  have NW := Lib.hid (fun j (e : v.ownBlock = some j) => (own_lt hp.1 j e).2)
  clear hz h8 hc hsz hs hd ht hm hL hz' h8' hc' hs' hn hp h hB hx
  go_enter Tryd.func73, Tryd.ntmps73
  go_wp2_with fail
  go_region_law (refine step_append_own (by rfl) _ _ 59 (by rfl) B 103 i0 _ 6 40 Tryd.underlying59 hi hz0 hz1 hz2 (by rfl) (by decide) v L.length (pastC L) (by rfl) (own_drew ((O.out.alloc _).alloc _)) ⟨w.heap.size + 1, 0, none⟩ 1 1 (by decide) (Md.cells ⟨0, q, k, false, 0, 0⟩) (by rfl) (by rfl) (fun j u hu => by (rcases j with _ | _ | _ | _ | _ | _ | j <;> (first | (obtain rfl := Option.some.inj hu; go_simp) | exact absurd hu (by simp [Md.cells])))) (Md.one _) (by (have := HL.out; unfold maxLen; omega)) (by (have := HL.out; omega)) (by (have := HB.out; simp; omega)) ?_; intro v' w' hown hgr hfr; obtain ⟨j', cap', rfl⟩ := own_slice hown; obtain ⟨hG, hP, hBu⟩ := past_step (ball (ball (bref w) _) _).drew HH.out HP.out hown hgr hfr; have HG := Lib.hid hG; have HP2 := Lib.hid hP; have HBu := Lib.hid hBu; have HM2 := Lib.hid hgr; obtain ⟨c0, c1, c2⟩ := HG.out.1.cells; have f2 := HG.out.1.frozen 2; clear hown hgr hfr hG hP hBu)
  all_goals
    have HG2 := Lib.hid (gk_setV HG.out (.slice (some ⟨j', 0, none⟩) (L.length + 1) cap'))
    have HP3 := Lib.hid (HP2.out.but2 ((But2.refl g b w').setG 2 (.slice (some ⟨j', 0, none⟩) (L.length + 1) cap')))
    have HBu2 := Lib.hid (HBu.out.then2 ((But2.refl g b w').setG 2 (.slice (some ⟨j', 0, none⟩) (L.length + 1) cap')))
    have hne : w.heap.size ≠ g := by omega
    have R0 : (w'.setCell ⟨g, 2, none⟩ (.slice (some ⟨j', 0, none⟩) (L.length + 1) cap')).heap[w.heap.size]? = some (.cells #[.int .i64 0, .int .i64 q, .int .i64 k, .bool false] 64) :=
      (heap_setCell_other _ _ _ _ hne).trans (row_grown HM2.out (rowA ((ball (bref _) _).drew)) (fun e => by have := NW.out _ e; omega))
    obtain ⟨m0, m1, m2, m3⟩ := mv_cells' R0
    have HR := Lib.hid R0
    clear c0 c1 c2 f2 g0 g1 g2 fg HG HP2 HBu R0 HM2
    generalize w'.setCell ⟨g, 2, none⟩ (.slice (some ⟨j', 0, none⟩) (L.length + 1) cap') = w2 at *
    go_wp2_with (go_at_call 80; refine (H1.out _ _ HG2.out).mono ?_; rintro e w3 ⟨rfl, hG, hb⟩; have HG3 := Lib.hid (Gk.drew hG); have HP4 := Lib.hid (HP3.out.but2 hb.drew); have HB3 := Lib.hid (HBu2.out.then2 hb.drew); obtain ⟨m0, m1, m2, m3⟩ := mv_cells' (hb.row HR.out hne (fun e => by have := HH.out.2.1.lt; omega)); clear hG hb)
    go_region_with (first
      | (go_at_call 89; refine (MO.out _ _ HG3.out).mono ?_; rintro e w4 ⟨rfl, rfl⟩)
      | (go_at_call 71; refine (PO.out _).mono ?_; rintro e w5 ⟨rfl, rfl⟩)
      | (go_at_call 79; refine (H2.out _ _ HG3.out).mono ?_; rintro e w6 ⟨rfl, hG, hb⟩))
    all_goals
      go_end0
      exact ⟨rfl, _, hG, HP4.out.but2 hb, HB3.out.then2 hb⟩
end Go.Proofs.YtbopbekehccdmaaDoor
