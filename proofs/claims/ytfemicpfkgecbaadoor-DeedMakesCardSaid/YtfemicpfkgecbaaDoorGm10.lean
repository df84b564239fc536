/-
  Games in memory: Back.
-/
import Derived.Test.YtfemicpfkgecbaaDoorGm9
namespace Go.Proofs.YtfemicpfkgecbaaDoor
open Go.RowKit
set_option linter.unusedVariables false
set_option linter.unusedSimpArgs false

theorem back_none (g b : Nat) (z : List Int) (v : Value) (a : Option Addr) (cap : Nat) (hv : v = .slice a 0 cap) (w : World) (h : Gk w g b z v) :
    Calls Tryd.prog 36 #[.pointer (some ⟨g, 0, none⟩)] w fun e w' => e = .returned (.bool false) ∧ w = w' := by
  subst hv
  obtain ⟨g0, g1, g2⟩ := h.1.cells
  clear h
  go_enter Tryd.func36, Tryd.ntmps36
  go_wp2
  go_ret
  exact ⟨rfl, rfl⟩
/-- The last of what was made, in memory. -/
theorem past_last {w : World} {B g b : Nat} {v : Value} {L : List Md} {m : Md} (h : Past w B g b v (L ++ [m])) :
    ∃ j cap, v = .slice (some ⟨j, 0, none⟩) (L.length + 1) cap ∧ L.length + 1 ≤ cap ∧ cap ≤ 9223372036854775807 ∧ j ≠ g ∧ j ≠ b ∧ j < w.heap.size ∧ Past w B g b (.slice (some ⟨j, 0, none⟩) L.length cap) L ∧
      (∀ (i : Nat) (u : Value), m.cells[i]? = some u → w.cell? ⟨j, L.length * 6 + i, none⟩ = some u) := by
  obtain ⟨o, hg, hb⟩ := h
  rw [List.length_append, pastC_snoc] at o
  obtain ⟨j, cap, rfl⟩ := own_slice o
  have hj : j ≠ g := fun e => hg (by rw [e]; rfl)
  have hj2 : j ≠ b := fun e => hb (by rw [e]; rfl)
  have oc := fun i u => o.cells (g := j) rfl i u
  obtain ⟨hl, ho⟩ := o
  rcases ho with ⟨e, _⟩ | ⟨j', cap', cur, e, h1, h2, h3, h4, h5, h6⟩
  · exact absurd e (by simp)
  · obtain ⟨rfl, rfl⟩ : j = j' ∧ cap = cap' := by simpa using e
    refine ⟨j, cap, rfl, h3, h4, hj, hj2, (Array.getElem?_eq_some_iff.1 h2).1, ⟨⟨pastC_len L, .inr ⟨j, cap, cur, rfl, h1, h2, by omega, h4, h5, ?_⟩⟩, fun e => hj (by simpa [Value.ownBlock] using e), fun e => hj2 (by simpa [Value.ownBlock] using e)⟩, fun i u hu => ?_⟩
    · have := congrArg (List.take (L.length * 6)) h6
      rw [List.take_take, Nat.min_eq_left (by omega)] at this
      rw [this, List.take_append_of_le_length (by rw [pastC_len]; exact Nat.le_refl _), List.take_of_length_le (by rw [pastC_len]; exact Nat.le_refl _)]
    · have := oc (L.length * 6 + i) u (by rw [List.getElem?_append_right (by rw [pastC_len]; omega), pastC_len, show L.length * 6 + i - L.length * 6 = i by omega]; exact hu)
      rw [show (⟨j, 0, none⟩ : Addr).add (L.length * 6 + i) = ⟨j, L.length * 6 + i, none⟩ by
        unfold Addr.add
        split
        · rename_i h0
          simp at h0
          rw [h0.1, h0.2]
        · simp] at this
      exact this
def Lain3 (w : World) (m : Md) (s3 : Value) (wx : World) : Prop :=
  ∃ l : Nat, s3 = .pointer (some ⟨l, 0, none⟩) ∧ wx.heap[l]? = some (.cells m.cells.toArray 89) ∧ Below w.heap.size w wx ∧ w.heap.size ≤ l

set_option maxHeartbeats 4000000 in
theorem back_drop (B g b : Nat) (z zF : List Int) (v : Value) (L : List Md) (m : Md) (hm : (0 ≤ m.t ∧ m.t < 81) ∧ 0 ≤ m.f ∧ m.f < 81) (hmx : -128 ≤ m.x ∧ m.x ≤ 127) (hmy : -128 ≤ m.y ∧ m.y ≤ 127) (hd : m.d ≠ 0) (hL : L.length ≤ 1000) (hz : z.length = 98) (h8 : I8s z) (hc : Clean z) (hs : at8 z 97 = 0 ∨ at8 z 97 = 1)
    (hh : ∀ W v, Gk W g b (putZ (z.set 97 (1 - at8 z 97)) m.t m.y) v → Calls Tryd.prog 66 #[.pointer (some ⟨g, 0, none⟩), .int .i64 (m.d), .int .i8 (1)] W fun e w' => e = .returned (.tuple #[]) ∧ Gk w' g b zF v ∧ But2 g b W w') (w : World) (h : Gk w g b z v) (hp : Past w B g b v (L ++ [m])) :
    Calls Tryd.prog 36 #[.pointer (some ⟨g, 0, none⟩)] w fun e w' => e = .returned (.bool true) ∧ ∃ v', Gk w' g b zF v' ∧ Past w' B g b v' L ∧ But2 g b w w'  := by
  obtain ⟨j, cap, rfl, hc1, hc2, hjg, hjb, hjl, hp', hcs⟩ := past_last hp
  obtain ⟨g0, g1, g2⟩ := h.1.cells
  have k0 := hcs 0 _ rfl
  rw [Nat.add_zero] at k0
  have w2 : IntKind.i64.wrap (L.length : Int) = L.length := by rw [IntKind.wrap_i64]; omega
  have k1 := hcs 1 _ rfl
  have k2 := hcs 2 _ rfl
  have k3 := hcs 3 _ rfl
  have k4 := hcs 4 _ rfl
  have k5 := hcs 5 _ rfl
  have zg := h.1.lt
  have ZG := Lib.hid (And.intro h.1.lt h.2.1.lt)
  have HH := Lib.hid h
  have HP := Lib.hid hp'
  clear hp hp' hcs h
  have hn : 0 ≤ (L.length : Int) := by omega
  have w1 : IntKind.i64.wrap (((L.length + 1 : Nat) : Int) - 1) = L.length := by rw [IntKind.wrap_i64]; omega
  have bz : ((L.length : Int) + 1 == 0) = false := by simp; omega
  have TU := Lib.hid (fun W v (h : Gk W g b z v) => turn_k g b z v hz hs W h)
  have hz1 : (z.set 97 (1 - at8 z 97)).length = 98 := by rw [List.length_set, hz]
  have h81 : I8s (z.set 97 (1 - at8 z 97)) := set_8 h8 _ (by omega)
  have hc1' : Clean (z.set 97 (1 - at8 z 97)) := fun q hq hk => by
    rw [at8_set _ _ _ _ (by omega), if_neg (by omega)] at hk ⊢
    exact hc q hq hk
  obtain ⟨mf, mt, md, mp, mx, my⟩ := m
  obtain ⟨⟨ht0, ht1⟩, hf0, hf1⟩ := hm
  dsimp only at *
  obtain ⟨tq, rfl⟩ : ∃ tq : Nat, mt = tq := ⟨mt.toNat, by omega⟩
  obtain ⟨fq, rfl⟩ : ∃ fq : Nat, mf = fq := ⟨mf.toNat, by omega⟩
  have P1 := Lib.hid (fun W v (h : Gk W g b (z.set 97 (1 - at8 z 97)) v) => gput_k g b _ v tq my (by omega) hmy hz1 h81 hc1' W h)
  have HO := Lib.hid hh
  have bd : (md != 0) = true := by simpa using hd
  clear hd
  have HLC := Lib.hid (And.intro hc1 hc2)
  clear hz h8 hc hs hz1 h81 hc1' hh hmx hmy hL
  generalize z.set 97 (1 - at8 z 97) = z1 at *
  generalize ez2 : putZ z1 tq my = z2 at *
  clear ez2
  go_enter Tryd.func36, Tryd.ntmps36
  go_upto_region 3 with fail
  go_cut [3] (fun s3 wx => Lain3 w ⟨fq, tq, md, mp, mx, my⟩ s3 wx)
  case first =>
    go_region
    all_goals
      go_wp2_with fail
      go_meet
      exact ⟨w.heap.size, rfl, heap_alloc_new w _, (ball (bref w) _).drew, Nat.le_refl _⟩
  case rest =>
    obtain ⟨l, rfl, hl, hB, hlw⟩ := hcut
    have HW := Lib.hid hB
    have HG := Lib.hid (HH.out.grow hB)
    have HPa := Lib.hid (HP.out.grow hB)
    have RL := Lib.hid hl
    obtain ⟨c0, c1, c2⟩ := HG.out.1.cells
    have fg := HG.out.1.frozen 2
    have zl := (Array.getElem?_eq_some_iff.1 hl).1
    have hlg : l ≠ g ∧ l ≠ b := by (have := ZG.out; omega)
    have HLG := Lib.hid hlg
    obtain ⟨hc1, hc2⟩ := HLC.out
    clear g0 g1 g2 k0 k1 k2 k3 k4 k5 zg hl hB hlg
    go_wp2_with fail
    go_region
    have SV := Lib.hid (((But2.refl g b wc).setG 2 (.slice (some ⟨j, 0, none⟩) L.length cap)).drew)
    have HG2 := Lib.hid (Gk.drew (gk_setV HG.out (.slice (some ⟨j, 0, none⟩) L.length cap)))
    have HP2 := Lib.hid (HPa.out.but2 SV.out)
    have RL2 := Lib.hid (SV.out.row RL.out HLG.out.1 HLG.out.2)
    have BB := Lib.hid ((But2.of HW.out).trans SV.out)
    clear c0 c1 c2 fg zl
    generalize (wc.setCell ⟨g, 2, none⟩ (.slice (some ⟨j, 0, none⟩) L.length cap)).drew = wd at *
    obtain ⟨l0, l1, l2, l3, l4, l5⟩ := made_cells RL2.out
    go_wp2_with (first
    | (go_at_call 60; refine (TU.out _ _ HG2.out).mono ?_; rintro e wa ⟨rfl, hG, hb⟩; have HG3 := Lib.hid hG; have HP3 := Lib.hid (HP2.out.but2 hb); have BB3 := Lib.hid (BB.out.trans hb); have RL3 := Lib.hid (hb.row RL2.out HLG.out.1 HLG.out.2); obtain ⟨l0, l1, l2, l3, l4, l5⟩ := made_cells RL3.out; clear hG hb)
    | (go_at_call 65; refine (P1.out _ _ HG3.out).mono ?_; rintro e wb ⟨rfl, hG, hb⟩; have HG4 := Lib.hid hG; have HP4 := Lib.hid (HP3.out.but2 hb); have BB4 := Lib.hid (BB3.out.trans hb); have RL4 := Lib.hid (hb.row RL3.out HLG.out.1 HLG.out.2); obtain ⟨l0, l1, l2, l3, l4, l5⟩ := made_cells RL4.out; clear hG hb)
    | (go_at_call 66; refine (HO.out _ _ HG4.out).mono ?_; rintro e we ⟨rfl, hG, hb⟩; have HG5 := Lib.hid hG; have HP5 := Lib.hid (HP4.out.but2 hb); have BB5 := Lib.hid (BB4.out.trans hb); have RL5 := Lib.hid (hb.row RL4.out HLG.out.1 HLG.out.2); obtain ⟨l0, l1, l2, l3, l4, l5⟩ := made_cells RL5.out; clear hG hb))
    go_ret
    exact ⟨rfl, _, HG5.out, HP5.out, BB5.out⟩
set_option maxHeartbeats 4000000 in
theorem back_walk (B g b : Nat) (z zF : List Int) (v : Value) (L : List Md) (m : Md) (hm : (0 ≤ m.t ∧ m.t < 81) ∧ 0 ≤ m.f ∧ m.f < 81) (hmx : -128 ≤ m.x ∧ m.x ≤ 127) (hmy : -128 ≤ m.y ∧ m.y ≤ 127) (hd : m.d = 0) (hL : L.length ≤ 1000) (hz : z.length = 98) (h8 : I8s z) (hc : Clean z) (hs : at8 z 97 = 0 ∨ at8 z 97 = 1)
    (hh : ∀ W v, Gk W g b (putZ (putZ (z.set 97 (1 - at8 z 97)) m.t m.y) m.f m.x) v → Calls Tryd.prog 66 #[.pointer (some ⟨g, 0, none⟩), .int .i64 (rawF (kindF m.y)), .int .i8 (-1)] W fun e w' => e = .returned (.tuple #[]) ∧ Gk w' g b zF v ∧ But2 g b W w') (w : World) (h : Gk w g b z v) (hp : Past w B g b v (L ++ [m])) :
    Calls Tryd.prog 36 #[.pointer (some ⟨g, 0, none⟩)] w fun e w' => e = .returned (.bool true) ∧ ∃ v', Gk w' g b zF v' ∧ Past w' B g b v' L ∧ But2 g b w w'  := by
  obtain ⟨j, cap, rfl, hc1, hc2, hjg, hjb, hjl, hp', hcs⟩ := past_last hp
  obtain ⟨g0, g1, g2⟩ := h.1.cells
  have k0 := hcs 0 _ rfl
  rw [Nat.add_zero] at k0
  have w2 : IntKind.i64.wrap (L.length : Int) = L.length := by rw [IntKind.wrap_i64]; omega
  have k1 := hcs 1 _ rfl
  have k2 := hcs 2 _ rfl
  have k3 := hcs 3 _ rfl
  have k4 := hcs 4 _ rfl
  have k5 := hcs 5 _ rfl
  have zg := h.1.lt
  have ZG := Lib.hid (And.intro h.1.lt h.2.1.lt)
  have HH := Lib.hid h
  have HP := Lib.hid hp'
  clear hp hp' hcs h
  have hn : 0 ≤ (L.length : Int) := by omega
  have w1 : IntKind.i64.wrap (((L.length + 1 : Nat) : Int) - 1) = L.length := by rw [IntKind.wrap_i64]; omega
  have bz : ((L.length : Int) + 1 == 0) = false := by simp; omega
  have TU := Lib.hid (fun W v (h : Gk W g b z v) => turn_k g b z v hz hs W h)
  have hz1 : (z.set 97 (1 - at8 z 97)).length = 98 := by rw [List.length_set, hz]
  have h81 : I8s (z.set 97 (1 - at8 z 97)) := set_8 h8 _ (by omega)
  have hc1' : Clean (z.set 97 (1 - at8 z 97)) := fun q hq hk => by
    rw [at8_set _ _ _ _ (by omega), if_neg (by omega)] at hk ⊢
    exact hc q hq hk
  obtain ⟨mf, mt, md, mp, mx, my⟩ := m
  obtain ⟨⟨ht0, ht1⟩, hf0, hf1⟩ := hm
  dsimp only at *
  obtain ⟨tq, rfl⟩ : ∃ tq : Nat, mt = tq := ⟨mt.toNat, by omega⟩
  obtain ⟨fq, rfl⟩ : ∃ fq : Nat, mf = fq := ⟨mf.toNat, by omega⟩
  have P1 := Lib.hid (fun W v (h : Gk W g b (z.set 97 (1 - at8 z 97)) v) => gput_k g b _ v tq my (by omega) hmy hz1 h81 hc1' W h)
  have HO := Lib.hid hh
  have IH := Lib.hid (fun W => inHand_any my hmy W)
  have P2 := Lib.hid (fun W v (h : Gk W g b (putZ (z.set 97 (1 - at8 z 97)) tq my) v) => gput_k g b _ v fq mx (by omega) hmx (by rw [putZ_len, hz1]) (putZ_8 h81 _ _ hmy) (putZ_clean hc1' hz1 _ _) W h)
  subst hd
  have HLC := Lib.hid (And.intro hc1 hc2)
  clear hz h8 hc hs hz1 h81 hc1' hh hmx hmy hL
  generalize z.set 97 (1 - at8 z 97) = z1 at *
  generalize ez2 : putZ z1 tq my = z2 at *
  clear ez2
  generalize ez3 : putZ z2 fq mx = z3 at *
  clear ez3
  generalize rawF (kindF my) = kk at *
  go_enter Tryd.func36, Tryd.ntmps36
  go_upto_region 3 with fail
  go_cut [3] (fun s3 wx => Lain3 w ⟨fq, tq, 0, mp, mx, my⟩ s3 wx)
  case first =>
    go_region
    all_goals
      go_wp2_with fail
      go_meet
      exact ⟨w.heap.size, rfl, heap_alloc_new w _, (ball (bref w) _).drew, Nat.le_refl _⟩
  case rest =>
    obtain ⟨l, rfl, hl, hB, hlw⟩ := hcut
    have HW := Lib.hid hB
    have HG := Lib.hid (HH.out.grow hB)
    have HPa := Lib.hid (HP.out.grow hB)
    have RL := Lib.hid hl
    obtain ⟨c0, c1, c2⟩ := HG.out.1.cells
    have fg := HG.out.1.frozen 2
    have zl := (Array.getElem?_eq_some_iff.1 hl).1
    have hlg : l ≠ g ∧ l ≠ b := by (have := ZG.out; omega)
    have HLG := Lib.hid hlg
    obtain ⟨hc1, hc2⟩ := HLC.out
    clear g0 g1 g2 k0 k1 k2 k3 k4 k5 zg hl hB hlg
    go_wp2_with fail
    go_region
    have SV := Lib.hid (((But2.refl g b wc).setG 2 (.slice (some ⟨j, 0, none⟩) L.length cap)).drew)
    have HG2 := Lib.hid (Gk.drew (gk_setV HG.out (.slice (some ⟨j, 0, none⟩) L.length cap)))
    have HP2 := Lib.hid (HPa.out.but2 SV.out)
    have RL2 := Lib.hid (SV.out.row RL.out HLG.out.1 HLG.out.2)
    have BB := Lib.hid ((But2.of HW.out).trans SV.out)
    clear c0 c1 c2 fg zl
    generalize (wc.setCell ⟨g, 2, none⟩ (.slice (some ⟨j, 0, none⟩) L.length cap)).drew = wd at *
    obtain ⟨l0, l1, l2, l3, l4, l5⟩ := made_cells RL2.out
    go_wp2_with (first
    | (go_at_call 60; refine (TU.out _ _ HG2.out).mono ?_; rintro e wa ⟨rfl, hG, hb⟩; have HG3 := Lib.hid hG; have HP3 := Lib.hid (HP2.out.but2 hb); have BB3 := Lib.hid (BB.out.trans hb); have RL3 := Lib.hid (hb.row RL2.out HLG.out.1 HLG.out.2); obtain ⟨l0, l1, l2, l3, l4, l5⟩ := made_cells RL3.out; clear hG hb)
    | (go_at_call_of 65 (Value.int .i64 (tq : Int)); refine (P1.out _ _ HG3.out).mono ?_; rintro e wb ⟨rfl, hG, hb⟩; have HG4 := Lib.hid hG; have HP4 := Lib.hid (HP3.out.but2 hb); have BB4 := Lib.hid (BB3.out.trans hb); have RL4 := Lib.hid (hb.row RL3.out HLG.out.1 HLG.out.2); obtain ⟨l0, l1, l2, l3, l4, l5⟩ := made_cells RL4.out; clear hG hb)
    | (go_at_call 65; refine (P2.out _ _ HG4.out).mono ?_; rintro e we ⟨rfl, hG, hb⟩; have HG5 := Lib.hid hG; have HP5 := Lib.hid (HP4.out.but2 hb); have BB5 := Lib.hid (BB4.out.trans hb); have RL5 := Lib.hid (hb.row RL4.out HLG.out.1 HLG.out.2); obtain ⟨l0, l1, l2, l3, l4, l5⟩ := made_cells RL5.out; clear hG hb)
    | (go_at_call 67; refine (IH.out _).mono ?_; rintro e wi ⟨rfl, rfl⟩)
    | (go_at_call 66; refine (HO.out _ _ HG5.out).mono ?_; rintro e wf ⟨rfl, hG, hb⟩; have HG6 := Lib.hid hG; have HP6 := Lib.hid (HP5.out.but2 hb); have BB6 := Lib.hid (BB5.out.trans hb); have RL6 := Lib.hid (hb.row RL5.out HLG.out.1 HLG.out.2); obtain ⟨l0, l1, l2, l3, l4, l5⟩ := made_cells RL6.out; clear hG hb))
    go_ret
    exact ⟨rfl, _, HG6.out, HP6.out, BB6.out⟩
end Go.Proofs.YtfemicpfkgecbaaDoor
