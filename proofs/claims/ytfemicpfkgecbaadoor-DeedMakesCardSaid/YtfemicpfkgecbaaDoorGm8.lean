/-
  Games in memory: Make.
-/
import Derived.Test.YtfemicpfkgecbaaDoorGm7
namespace Go.Proofs.YtfemicpfkgecbaaDoor
open Go.RowKit
set_option linter.unusedVariables false
set_option linter.unusedSimpArgs false

/-- The hands behind a taking: what is taken, as it is raw, is one more. -/
def takeZ (z : List Int) (s : Nat) (y : Int) : List Int := if rawF (kindF y) = 0 then z else z.set (81 + s * 8 + (rawF (kindF y)).toNat) (at8 z (81 + s * 8 + (rawF (kindF y)).toNat) + 1)
/-- The position behind a move, but for whose turn it is. -/
def midZ (z : List Int) (s : Nat) (f t d : Int) (p : Bool) : List Int :=
  if d = 0 then putZ (putZ (takeZ z s (at8 z t.toNat)) f 0) t (behF (at8 z f.toNat) p) else putZ (z.set (81 + s * 8 + d.toNat) (at8 z (81 + s * 8 + d.toNat) + -1)) t (ofF s d)
/-- The position behind a move. -/
def afterZ (z : List Int) (f t d : Int) (p : Bool) : List Int := (midZ z (at8 z 97).toNat f t d p).set 97 (1 - at8 z 97)
/-- What is told of a move that was made. -/
def mdOf (z : List Int) (f t d : Int) (p : Bool) : Md := if d = 0 then ⟨f, t, d, p, at8 z f.toNat, at8 z t.toNat⟩ else ⟨f, t, d, p, 0, 0⟩

theorem putZ_97 (z : List Int) (q x : Int) (hz : z.length = 98) : at8 (putZ z q x) 97 = at8 z 97 := by
  unfold putZ
  split
  · rw [at8_set _ _ _ _ (by omega), if_neg (by omega)]
  · rfl
theorem takeZ_len (z : List Int) (s : Nat) (y : Int) : (takeZ z s y).length = z.length := by
  unfold takeZ
  split
  · rfl
  · rw [List.length_set]
theorem takeZ_at (z : List Int) (s : Nat) (y : Int) (h7 : rawF (kindF y) ≤ 7) (hz : z.length = 98) (hs : s < 2) (i : Nat) (hi : i < 81 ∨ i = 97) : at8 (takeZ z s y) i = at8 z i := by
  have hk := kindF_le y
  have hr := rawF_cases (kindF y)
  unfold takeZ
  split
  · rfl
  · rw [at8_set _ _ _ _ (by omega), if_neg (by omega)]
theorem midZ_97 (z : List Int) (s : Nat) (f t d : Int) (p : Bool) (hz : z.length = 98) (hs : s < 2) (hd : 0 ≤ d ∧ d ≤ 7) (h7 : d = 0 → rawF (kindF (at8 z t.toNat)) ≤ 7) : at8 (midZ z s f t d p) 97 = at8 z 97 := by
  unfold midZ
  split
  · rw [putZ_97 _ _ _ (by rw [putZ_len, takeZ_len, hz]), putZ_97 _ _ _ (by rw [takeZ_len, hz]), takeZ_at z s _ (h7 (by assumption)) hz hs 97 (.inr rfl)]
  · rw [putZ_97 _ _ _ (by rw [List.length_set, hz]), at8_set _ _ _ _ (by omega), if_neg (by omega)]
theorem midZ_len (z : List Int) (s : Nat) (f t d : Int) (p : Bool) : (midZ z s f t d p).length = z.length := by
  unfold midZ
  split
  · rw [putZ_len, putZ_len, takeZ_len]
  · rw [putZ_len, List.length_set]
theorem takeZ_8 (z : List Int) (s : Nat) (y : Int) (h7 : rawF (kindF y) ≤ 7) (h8 : I8s z) (h : ∀ j, 81 ≤ j → j < 97 → at8 z j ≤ 126) (hs : s < 2) : I8s (takeZ z s y) := by
  have hk := kindF_le y
  have hr := rawF_cases (kindF y)
  unfold takeZ
  split
  · exact h8
  · have a := h8.at (81 + s * 8 + (rawF (kindF y)).toNat)
    have b := h (81 + s * 8 + (rawF (kindF y)).toNat) (by omega) (by omega)
    exact set_8 h8 _ (by omega)
theorem takeZ_clean (z : List Int) (s : Nat) (y : Int) (h7 : rawF (kindF y) ≤ 7) (hz : z.length = 98) (hs : s < 2) (hc : Clean z) : Clean (takeZ z s y) := fun q hq h => by
  rw [takeZ_at z s y h7 hz hs q (.inl hq)] at h ⊢
  exact hc q hq h

theorem make_no (g b : Nat) (z : List Int) (v : Value) (f t d : Int) (p : Bool) (hz : z.length = 98) (h8 : I8s z) (w : World) (h : Gk w g b z v) (hcan : canF z f t d p = false) :
    Calls Tryd.prog 30 #[.pointer (some ⟨g, 0, none⟩), .agg #[.int .i64 f, .int .i64 t, .int .i64 d, .bool p]] w fun e w' => e = .returned (.bool false) ∧ Below w.heap.size w w' := by
  have C := Lib.hid (fun W (h : Gk W g b z v) => can_any g b z (ofK z) v f t d p hz h8 W h)
  rw [hcan] at C
  have H := Lib.hid h
  clear h hz h8 hcan
  go_enter Tryd.func30, Tryd.ntmps30
  go_wp2_with (go_at_call 29; refine (C.out _ (H.out.grow (ball (bref w) _))).mono ?_; rintro e w1 ⟨rfl, hb1⟩)
  go_ret
  exact ⟨rfl, bthen (ball (bref w) _) hb1⟩

set_option maxHeartbeats 2000000 in
theorem make_drop (B g b : Nat) (z z2 : List Int) (v : Value) (L : List Md) (m : Md) (f t d : Int) (p : Bool) (hd : d ≠ 0) (hz : z.length = 98) (h8 : I8s z) (hs : at8 z2 97 = 0 ∨ at8 z2 97 = 1) (hz2 : z2.length = 98)
    (hstep : ∀ W, B ≤ W.heap.size → Gk W g b z v → Past W B g b v L → Calls Tryd.prog 58 #[.pointer (some ⟨g, 0, none⟩), .agg #[.int .i64 f, .int .i64 t, .int .i64 d, .bool p]] W fun e w' => e = .returned (.tuple #[]) ∧ ∃ v', Gk w' g b z2 v' ∧ Past w' B g b v' (L ++ [m]) ∧ But3 g b v.ownBlock W w')
    (w : World) (hB : B ≤ w.heap.size) (h : Gk w g b z v) (hp : Past w B g b v L) (hcan : canF z f t d p = true) :
    Calls Tryd.prog 30 #[.pointer (some ⟨g, 0, none⟩), .agg #[.int .i64 f, .int .i64 t, .int .i64 d, .bool p]] w fun e w' => e = .returned (.bool true) ∧ ∃ v', Gk w' g b (z2.set 97 (1 - at8 z2 97)) v' ∧ Past w' B g b v' (L ++ [m]) ∧ But3 g b v.ownBlock w w' := by
  have C := Lib.hid (fun W (h : Gk W g b z v) => can_any g b z (ofK z) v f t d p hz h8 W h)
  rw [hcan] at C
  have ST := Lib.hid hstep
  have TU := Lib.hid (fun W v (h : Gk W g b z2 v) => turn_k g b z2 v hz2 hs W h)
  have H := Lib.hid h
  have P := Lib.hid hp
  have HB := Lib.hid hB
  have bd : (d != 0) = true := by simpa using hd
  clear hd
  clear h hp hB hstep hz h8 hs hz2 hcan
  generalize hZ : z2.set 97 (1 - at8 z2 97) = z3 at *
  have HZ := Lib.hid hZ
  clear hZ
  go_enter Tryd.func30, Tryd.ntmps30
  go_wp2_with (first
    | (go_at_call 29; refine (C.out _ (H.out.grow (ball (bref w) _))).mono ?_; rintro e w1 ⟨rfl, hb1⟩; have HB1 := Lib.hid (bthen (ball (bref w) _) hb1); obtain ⟨m0, m1, m2, m3⟩ := mv_cells' (rowA hb1); have z1 := szA hb1)
    | (go_at_call 58; refine (ST.out _ (Nat.le_trans HB.out HB1.out.size) (H.out.grow HB1.out) (P.out.grow HB1.out)).mono ?_; rintro e w2 ⟨rfl, v', hG, hP, hBu⟩; have HG := Lib.hid hG; have HP := Lib.hid hP; have HBu := Lib.hid ((But3.of HB1.out).trans hBu); clear hG hP hBu)
    | (go_at_call 60; refine (TU.out _ _ HG.out).mono ?_; rintro e w3 ⟨rfl, hG, hb⟩))
  go_ret
  exact ⟨rfl, v', by first | exact hG | (rw [HZ.out]; exact hG), HP.out.but2 hb, HBu.out.then2 hb⟩
set_option maxHeartbeats 2000000 in
theorem make_walk (B g b : Nat) (z z2 : List Int) (v : Value) (L : List Md) (m : Md) (f t d : Int) (p : Bool) (hd : d = 0) (hz : z.length = 98) (h8 : I8s z) (hs : at8 z2 97 = 0 ∨ at8 z2 97 = 1) (hz2 : z2.length = 98)
    (hstep : ∀ W, B ≤ W.heap.size → Gk W g b z v → Past W B g b v L → Calls Tryd.prog 59 #[.pointer (some ⟨g, 0, none⟩), .agg #[.int .i64 f, .int .i64 t, .int .i64 d, .bool p]] W fun e w' => e = .returned (.tuple #[]) ∧ ∃ v', Gk w' g b z2 v' ∧ Past w' B g b v' (L ++ [m]) ∧ But3 g b v.ownBlock W w')
    (w : World) (hB : B ≤ w.heap.size) (h : Gk w g b z v) (hp : Past w B g b v L) (hcan : canF z f t d p = true) :
    Calls Tryd.prog 30 #[.pointer (some ⟨g, 0, none⟩), .agg #[.int .i64 f, .int .i64 t, .int .i64 d, .bool p]] w fun e w' => e = .returned (.bool true) ∧ ∃ v', Gk w' g b (z2.set 97 (1 - at8 z2 97)) v' ∧ Past w' B g b v' (L ++ [m]) ∧ But3 g b v.ownBlock w w' := by
  have C := Lib.hid (fun W (h : Gk W g b z v) => can_any g b z (ofK z) v f t d p hz h8 W h)
  rw [hcan] at C
  have ST := Lib.hid hstep
  have TU := Lib.hid (fun W v (h : Gk W g b z2 v) => turn_k g b z2 v hz2 hs W h)
  have H := Lib.hid h
  have P := Lib.hid hp
  have HB := Lib.hid hB
  subst hd
  clear h hp hB hstep hz h8 hs hz2 hcan
  generalize hZ : z2.set 97 (1 - at8 z2 97) = z3 at *
  have HZ := Lib.hid hZ
  clear hZ
  go_enter Tryd.func30, Tryd.ntmps30
  go_wp2_with (first
    | (go_at_call 29; refine (C.out _ (H.out.grow (ball (bref w) _))).mono ?_; rintro e w1 ⟨rfl, hb1⟩; have HB1 := Lib.hid (bthen (ball (bref w) _) hb1); obtain ⟨m0, m1, m2, m3⟩ := mv_cells' (rowA hb1); have z1 := szA hb1)
    | (go_at_call 59; refine (ST.out _ (Nat.le_trans HB.out HB1.out.size) (H.out.grow HB1.out) (P.out.grow HB1.out)).mono ?_; rintro e w2 ⟨rfl, v', hG, hP, hBu⟩; have HG := Lib.hid hG; have HP := Lib.hid hP; have HBu := Lib.hid ((But3.of HB1.out).trans hBu); clear hG hP hBu)
    | (go_at_call 60; refine (TU.out _ _ HG.out).mono ?_; rintro e w3 ⟨rfl, hG, hb⟩))
  go_ret
  exact ⟨rfl, v', by first | exact hG | (rw [HZ.out]; exact hG), HP.out.but2 hb, HBu.out.then2 hb⟩

theorem goB_true {s x y : Int} {p : Bool} (h : goB s x y p = true) : sideF x = s ∧ sideF y ≠ s ∧ kindF y ≠ 8 ∧ (p = true → upF (kindF x) ≠ 0) := by
  unfold goB at h
  split at h
  · exact absurd h (by decide)
  · rename_i hn
    refine ⟨by omega, by omega, by omega, fun hp => ?_⟩
    subst hp
    simpa using h
theorem canF_true {z : List Int} {f t d : Int} {p : Bool} (h : canF z f t d p = true) : checkM f t d p = 0 ∧ (at8 z 97 = 0 ∨ at8 z 97 = 1) ∧
    ((d = 0 ∧ goB (at8 z 97) (at8 z f.toNat) (at8 z t.toNat) p = true) ∨ (d ≠ 0 ∧ 0 < handF z (at8 z 97) d ∧ at8 z t.toNat = 0)) := by
  unfold canF at h
  split at h
  · split at h
    · split at h
      · exact ⟨by assumption, by assumption, .inl ⟨by assumption, h⟩⟩
      · exact ⟨by assumption, by assumption, .inr ⟨by assumption, of_decide_eq_true h⟩⟩
    · exact absurd h (by decide)
  · exact absurd h (by decide)
theorem make_yes (B g b : Nat) (z : List Int) (v : Value) (L : List Md) (f t d : Int) (p : Bool) (hz : z.length = 98) (h8 : I8s z) (hc : Clean z) (hh : ∀ j, 81 ≤ j → j < 97 → 0 ≤ at8 z j ∧ at8 z j ≤ 126) (hL : L.length ≤ 1000)
    (w : World) (hB : B ≤ w.heap.size) (h : Gk w g b z v) (hp : Past w B g b v L) (hcan : canF z f t d p = true) :
    Calls Tryd.prog 30 #[.pointer (some ⟨g, 0, none⟩), .agg #[.int .i64 f, .int .i64 t, .int .i64 d, .bool p]] w fun e w' => e = .returned (.bool true) ∧ ∃ v', Gk w' g b (afterZ z f t d p) v' ∧ Past w' B g b v' (L ++ [mdOf z f t d p]) ∧ But3 g b v.ownBlock w w' := by
  obtain ⟨hck, hs, hm⟩ := canF_true hcan
  have hcc := (checkM_zero f t d p).1 hck
  obtain ⟨s, hsz, hs2⟩ : ∃ s : Nat, at8 z 97 = s ∧ s < 2 := ⟨(at8 z 97).toNat, by omega, by omega⟩
  have hmid : at8 (midZ z s f t d p) 97 = at8 z 97 := midZ_97 z s f t d p hz hs2 (by omega) (fun hd0 => by
    rcases hm with ⟨_, hg⟩ | ⟨hd, _⟩
    · have h3 := (goB_true hg).2.2.1
      have hk := kindF_le (at8 z t.toNat)
      have hr := rawF_cases (kindF (at8 z t.toNat))
      omega
    · exact absurd hd0 hd)
  have e1 : afterZ z f t d p = (midZ z s f t d p).set 97 (1 - at8 (midZ z s f t d p) 97) := by
    unfold afterZ
    rw [hmid, hsz, Int.toNat_natCast]
  rw [e1]
  have hml : (midZ z s f t d p).length = 98 := by rw [midZ_len, hz]
  rcases hm with ⟨rfl, hg⟩ | ⟨hd, hn, h0⟩
  · obtain ⟨hf, ht, hft⟩ : (0 ≤ f ∧ f < 81) ∧ (0 ≤ t ∧ t < 81) ∧ f ≠ t := by omega
    obtain ⟨i, rfl⟩ : ∃ i : Nat, f = i := ⟨f.toNat, by omega⟩
    obtain ⟨j, rfl⟩ : ∃ j : Nat, t = j := ⟨t.toNat, by omega⟩
    obtain ⟨g1, g2, g3, g4⟩ := goB_true hg
    rw [Int.toNat_natCast] at g1 g2 g3 g4
    have hy := h8.at j
    have h7 : rawF (kindF (at8 z j)) ≤ 7 := by
      have hk := kindF_le (at8 z j)
      have hr := rawF_cases (kindF (at8 z j))
      omega
    refine make_walk B g b z _ v L _ i j 0 p rfl hz h8 (by rw [hmid]; exact hs) hml (fun W hBW hG hP => ?_) w hB h hp hcan
    unfold midZ mdOf
    rw [if_pos rfl, if_pos rfl, Int.toNat_natCast, Int.toNat_natCast]
    refine walk_mv B g b z (takeZ z s (at8 z j)) v L i j p (by omega) (by omega) (by omega) (fun W v hG => ?_) (by rw [takeZ_len, hz]) (takeZ_8 z s _ h7 h8 (fun j a b => (hh j a b).2) hs2) (takeZ_clean z s _ h7 hz hs2 hc) hL hz h8 hc W hBW hG hP
    have hk := kindF_le (at8 z j)
    have hr := rawF_cases (kindF (at8 z j))
    by_cases hk0 : rawF (kindF (at8 z j)) = 0
    · rw [hk0, show takeZ z s (at8 z j) = z from if_pos hk0]
      exact (hold_none g 1 W).mono fun e w' ⟨he, hw⟩ => ⟨he, by rw [← hw]; exact hG, by rw [← hw]; exact But2.refl g b W⟩
    · obtain ⟨k, hk1, hk2⟩ : ∃ k : Nat, rawF (kindF (at8 z j)) = k ∧ 1 ≤ k ∧ k ≤ 7 := ⟨(rawF (kindF (at8 z j))).toNat, by omega, by omega, by
        have : rawF (kindF (at8 z j)) ≠ 8 := fun e8 => g3 (by omega)
        omega⟩
      have e2 : takeZ z s (at8 z j) = z.set (81 + s * 8 + k) (at8 z (81 + s * 8 + k) + 1) := by
        unfold takeZ
        rw [if_neg hk0, hk1, Int.toNat_natCast]
      rw [hk1, e2]
      have hb := hh (81 + s * 8 + k) (by omega) (by omega)
      exact hold_k g b z v s k 1 hs2 hk2 hsz (by omega) hz h8 W hG
  · obtain ⟨ht, hd7, rfl, rfl⟩ : (0 ≤ t ∧ t < 81) ∧ (1 ≤ d ∧ d ≤ 7) ∧ f = 0 ∧ p = false := by
      obtain ⟨a, h | ⟨h1, h2, h3, h4⟩⟩ := hcc
      · exact absurd h.1 hd
      · exact ⟨a, ⟨h1, h2⟩, h3, h4⟩
    have hb := hh (81 + s * 8 + d.toNat) (by omega) (by omega)
    refine make_drop B g b z _ v L _ 0 t d false hd hz h8 (by rw [hmid]; exact hs) hml (fun W hBW hG hP => ?_) w hB h hp hcan
    unfold midZ mdOf
    rw [if_neg hd, if_neg hd]
    exact drop_any B g b z v L t d s hs2 hsz hd7 ht (by omega) hL hz h8 hc W hBW hG hP
end Go.Proofs.YtfemicpfkgecbaaDoor
