/-
  Games in memory: Make.
-/
import Derived.Test.YtbopbekehccdmaaDoorGm7
import Derived.Deep.MidRow
namespace Go.Proofs.YtbopbekehccdmaaDoor
open Go.RowKit
set_option linter.unusedVariables false
set_option linter.unusedSimpArgs false

/-- The hands behind a taking: what is taken, as it is raw, is one more. -/
def takeZ (z : List Int) (s : Nat) (y : Int) : List Int := if rawF (kindF y) = 0 then z else z.set (81 + s * 8 + (rawF (kindF y)).toNat) (at8 z (81 + s * 8 + (rawF (kindF y)).toNat) + 1)
/-- The position behind a move, but for whose turn it is. -/
def midZ (z : List Int) (s : Nat) (f t d : Int) (p : Bool) : List Int :=
  if d = 0 then putZ (putZ (takeZ z s (at8 z t.toNat)) f 0) t (behF (at8 z f.toNat) p) else putZ (z.set (81 + s * 8 + d.toNat) (at8 z (81 + s * 8 + d.toNat) + -1)) t (ofF s d)
/-- The position behind a move. -/
def afterZ (z : List Int) (f t d : Int) (p : Bool) : List Int := (midZ z (at8 z 97).toNat f t d p).set 97 (1 - at8 z 97)
/-- What is told of a move that was made. -/
def mdOf (z : List Int) (f t d : Int) (p : Bool) : Md := if d = 0 then ⟨f, t, d, p, at8 z f.toNat, at8 z t.toNat⟩ else ⟨f, t, d, p, 0, 0⟩

theorem putZ_97 (z : List Int) (q x : Int) (hz : z.length = 98) : at8 (putZ z q x) 97 = at8 z 97 := by
  unfold putZ
  split
  · rw [at8_set _ _ _ _ (by omega), if_neg (by omega)]
  · rfl
theorem takeZ_len (z : List Int) (s : Nat) (y : Int) : (takeZ z s y).length = z.length := by
  unfold takeZ
  split
  · rfl
  · rw [List.length_set]
theorem takeZ_at (z : List Int) (s : Nat) (y : Int) (h7 : rawF (kindF y) ≤ 7) (hz : z.length = 98) (hs : s < 2) (i : Nat) (hi : i < 81 ∨ i = 97) : at8 (takeZ z s y) i = at8 z i := by
  have hk := kindF_le y
  have hr := rawF_cases (kindF y)
  unfold takeZ
  split
  · rfl
  · rw [at8_set _ _ _ _ (by omega), if_neg (by omega)]
theorem midZ_97 (z : List Int) (s : Nat) (f t d : Int) (p : Bool) (hz : z.length = 98) (hs : s < 2) (hd : 0 ≤ d ∧ d ≤ 7) (h7 : d = 0 → rawF (kindF (at8 z t.toNat)) ≤ 7) : at8 (midZ z s f t d p) 97 = at8 z 97 := by
  unfold midZ
  split
  · rw [putZ_97 _ _ _ (by rw [putZ_len, takeZ_len, hz]), putZ_97 _ _ _ (by rw [takeZ_len, hz]), takeZ_at z s _ (h7 (by assumption)) hz hs 97 (.inr rfl)]
  · rw [putZ_97 _ _ _ (by rw [List.length_set, hz]), at8_set _ _ _ _ (by omega), if_neg (by omega)]
theorem midZ_len (z : List Int) (s : Nat) (f t d : Int) (p : Bool) : (midZ z s f t d p).length = z.length := by
  unfold midZ
  split
  · rw [putZ_len, putZ_len, takeZ_len]
  · rw [putZ_len, List.length_set]
theorem takeZ_8 (z : List Int) (s : Nat) (y : Int) (h7 : rawF (kindF y) ≤ 7) (h8 : I8s z) (h : ∀ j, 81 ≤ j → j < 97 → at8 z j ≤ 126) (hs : s < 2) : I8s (takeZ z s y) := by
  have hk := kindF_le y
  have hr := rawF_cases (kindF y)
  unfold takeZ
  split
  · exact h8
  · have a := h8.at (81 + s * 8 + (rawF (kindF y)).toNat)
    have b := h (81 + s * 8 + (rawF (kindF y)).toNat) (by omega) (by omega)
    exact set_8 h8 _ (by omega)
theorem takeZ_clean (z : List Int) (s : Nat) (y : Int) (h7 : rawF (kindF y) ≤ 7) (hz : z.length = 98) (hs : s < 2) (hc : Clean z) : Clean (takeZ z s y) := fun q hq h => by
  rw [takeZ_at z s y h7 hz hs q (.inl hq)] at h ⊢
  exact hc q hq h

theorem make_no (g b : Nat) (z : List Int) (v : Value) (f t d : Int) (p : Bool) (hz : z.length = 98) (h8 : I8s z) (w : World) (h : Gk w g b z v) (hcan : canF z f t d p = false) :
    Calls Tryd.prog 33 #[.pointer (some ⟨g, 0, none⟩), .agg #[.int .i64 f, .int .i64 t, .int .i64 d, .bool p]] w fun e w' => e = .returned (.bool false) ∧ Below w.heap.size w w' := by
  have C := Lib.hid (fun W (h : Gk W g b z v) => can_any g b z (ofK z) v f t d p hz h8 W h)
  rw [hcan] at C
  have H := Lib.hid h
  clear h hz h8 hcan
  go_enter Tryd.func33, Tryd.ntmps33
  go_wp2_with (go_at_call 41; refine (C.out _ (H.out.grow (ball (bref w) _))).mono ?_; rintro e w1 ⟨rfl, hb1⟩)
  go_ret
  exact ⟨rfl, bthen (ball (bref w) _) hb1⟩

set_option maxHeartbeats 2000000 in
theorem make_drop (B g b : Nat) (z z2 : List Int) (v : Value) (L : List Md) (m : Md) (f t d : Int) (p : Bool) (hd : d ≠ 0) (hz : z.length = 98) (h8 : I8s z) (hs : at8 z2 97 = 0 ∨ at8 z2 97 = 1) (hz2 : z2.length = 98)
    (hstep : ∀ W, B ≤ W.heap.size → Gk W g b z v → Past W B g b v L → Calls Tryd.prog 73 #[.pointer (some ⟨g, 0, none⟩), .agg #[.int .i64 f, .int .i64 t, .int .i64 d, .bool p]] W fun e w' => e = .returned (.tuple #[]) ∧ ∃ v', Gk w' g b z2 v' ∧ Past w' B g b v' (L ++ [m]) ∧ But4 g b v v' W w')
    (w : World) (hB : B ≤ w.heap.size) (h : Gk w g b z v) (hp : Past w B g b v L) (hcan : canF z f t d p = true) :
    Calls Tryd.prog 33 #[.pointer (some ⟨g, 0, none⟩), .agg #[.int .i64 f, .int .i64 t, .int .i64 d, .bool p]] w fun e w' => e = .returned (.bool true) ∧ ∃ v', Gk w' g b (z2.set 97 (1 - at8 z2 97)) v' ∧ Past w' B g b v' (L ++ [m]) ∧ But4 g b v v' w w' := by
  have C := Lib.hid (fun W (h : Gk W g b z v) => can_any g b z (ofK z) v f t d p hz h8 W h)
  rw [hcan] at C
  have ST := Lib.hid hstep
  have TU := Lib.hid (fun W v (h : Gk W g b z2 v) => turn_k g b z2 v hz2 hs W h)
  have H := Lib.hid h
  have P := Lib.hid hp
  have HB := Lib.hid hB
  have bd : (d != 0) = true := by simpa using hd
  clear hd
  clear h hp hB hstep hz h8 hs hz2 hcan
  generalize hZ : z2.set 97 (1 - at8 z2 97) = z3 at *
  have HZ := Lib.hid hZ
  clear hZ
  go_enter Tryd.func33, Tryd.ntmps33
  go_wp2_with (first
    | (go_at_call 41; refine (C.out _ (H.out.grow (ball (bref w) _))).mono ?_; rintro e w1 ⟨rfl, hb1⟩; have HB1 := Lib.hid (bthen (ball (bref w) _) hb1); obtain ⟨m0, m1, m2, m3⟩ := mv_cells' (rowA hb1); have z1 := szA hb1)
    | (go_at_call 73; refine (ST.out _ (Nat.le_trans HB.out HB1.out.size) (H.out.grow HB1.out) (P.out.grow HB1.out)).mono ?_; rintro e w2 ⟨rfl, v', hG, hP, hBu⟩; have HG := Lib.hid hG; have HP := Lib.hid hP; have HBu := Lib.hid (But4.pre HB1.out hBu); clear hG hP hBu)
    | (go_at_call 75; refine (TU.out _ _ HG.out).mono ?_; rintro e w3 ⟨rfl, hG, hb⟩))
  go_ret
  exact ⟨rfl, v', by first | exact hG | (rw [HZ.out]; exact hG), HP.out.but2 hb, HBu.out.then2 hb⟩
set_option maxHeartbeats 2000000 in
theorem make_walk (B g b : Nat) (z z2 : List Int) (v : Value) (L : List Md) (m : Md) (f t d : Int) (p : Bool) (hd : d = 0) (hz : z.length = 98) (h8 : I8s z) (hs : at8 z2 97 = 0 ∨ at8 z2 97 = 1) (hz2 : z2.length = 98)
    (hstep : ∀ W, B ≤ W.heap.size → Gk W g b z v → Past W B g b v L → Calls Tryd.prog 74 #[.pointer (some ⟨g, 0, none⟩), .agg #[.int .i64 f, .int .i64 t, .int .i64 d, .bool p]] W fun e w' => e = .returned (.tuple #[]) ∧ ∃ v', Gk w' g b z2 v' ∧ Past w' B g b v' (L ++ [m]) ∧ But4 g b v v' W w')
    (w : World) (hB : B ≤ w.heap.size) (h : Gk w g b z v) (hp : Past w B g b v L) (hcan : canF z f t d p = true) :
    Calls Tryd.prog 33 #[.pointer (some ⟨g, 0, none⟩), .agg #[.int .i64 f, .int .i64 t, .int .i64 d, .bool p]] w fun e w' => e = .returned (.bool true) ∧ ∃ v', Gk w' g b (z2.set 97 (1 - at8 z2 97)) v' ∧ Past w' B g b v' (L ++ [m]) ∧ But4 g b v v' w w' := by
  have C := Lib.hid (fun W (h : Gk W g b z v) => can_any g b z (ofK z) v f t d p hz h8 W h)
  rw [hcan] at C
  have ST := Lib.hid hstep
  have TU := Lib.hid (fun W v (h : Gk W g b z2 v) => turn_k g b z2 v hz2 hs W h)
  have H := Lib.hid h
  have P := Lib.hid hp
  have HB := Lib.hid hB
  subst hd
  clear h hp hB hstep hz h8 hs hz2 hcan
  generalize hZ : z2.set 97 (1 - at8 z2 97) = z3 at *
  have HZ := Lib.hid hZ
  clear hZ
  go_enter Tryd.func33, Tryd.ntmps33
  go_wp2_with (first
    | (go_at_call 41; refine (C.out _ (H.out.grow (ball (bref w) _))).mono ?_; rintro e w1 ⟨rfl, hb1⟩; have HB1 := Lib.hid (bthen (ball (bref w) _) hb1); obtain ⟨m0, m1, m2, m3⟩ := mv_cells' (rowA hb1); have z1 := szA hb1)
    | (go_at_call 74; refine (ST.out _ (Nat.le_trans HB.out HB1.out.size) (H.out.grow HB1.out) (P.out.grow HB1.out)).mono ?_; rintro e w2 ⟨rfl, v', hG, hP, hBu⟩; have HG := Lib.hid hG; have HP := Lib.hid hP; have HBu := Lib.hid (But4.pre HB1.out hBu); clear hG hP hBu)
    | (go_at_call 75; refine (TU.out _ _ HG.out).mono ?_; rintro e w3 ⟨rfl, hG, hb⟩))
  go_ret
  exact ⟨rfl, v', by first | exact hG | (rw [HZ.out]; exact hG), HP.out.but2 hb, HBu.out.then2 hb⟩

theorem goB_true {s x y : Int} {p : Bool} (h : goB s x y p = true) : sideF x = s ∧ sideF y ≠ s ∧ kindF y ≠ 8 ∧ (p = true → upF (kindF x) ≠ 0) := by
  unfold goB at h
  split at h
  · exact absurd h (by decide)
  · rename_i hn
    refine ⟨by omega, by omega, by omega, fun hp => ?_⟩
    subst hp
    simpa using h
theorem canF_true {z : List Int} {f t d : Int} {p : Bool} (h : canF z f t d p = true) : checkM f t d p = 0 ∧ (at8 z 97 = 0 ∨ at8 z 97 = 1) ∧
    ((d = 0 ∧ goB (at8 z 97) (at8 z f.toNat) (at8 z t.toNat) p = true) ∨ (d ≠ 0 ∧ 0 < handF z (at8 z 97) d ∧ at8 z t.toNat = 0)) := by
  unfold canF at h
  split at h
  · split at h
    · split at h
      · exact ⟨by assumption, by assumption, .inl ⟨by assumption, h⟩⟩
      · exact ⟨by assumption, by assumption, .inr ⟨by assumption, of_decide_eq_true h⟩⟩
    · exact absurd h (by decide)
  · exact absurd h (by decide)
theorem make_yes4 (B g b : Nat) (z : List Int) (v : Value) (L : List Md) (f t d : Int) (p : Bool) (hz : z.length = 98) (h8 : I8s z) (hc : Clean z) (hh : ∀ j, 81 ≤ j → j < 97 → 0 ≤ at8 z j ∧ at8 z j ≤ 126) (hL : L.length ≤ 1000)
    (w : World) (hB : B ≤ w.heap.size) (h : Gk w g b z v) (hp : Past w B g b v L) (hcan : canF z f t d p = true) :
    Calls Tryd.prog 33 #[.pointer (some ⟨g, 0, none⟩), .agg #[.int .i64 f, .int .i64 t, .int .i64 d, .bool p]] w fun e w' => e = .returned (.bool true) ∧ ∃ v', Gk w' g b (afterZ z f t d p) v' ∧ Past w' B g b v' (L ++ [mdOf z f t d p]) ∧ But4 g b v v' w w' := by
  obtain ⟨hck, hs, hm⟩ := canF_true hcan
  have hcc := (checkM_zero f t d p).1 hck
  obtain ⟨s, hsz, hs2⟩ : ∃ s : Nat, at8 z 97 = s ∧ s < 2 := ⟨(at8 z 97).toNat, by omega, by omega⟩
  have hmid : at8 (midZ z s f t d p) 97 = at8 z 97 := midZ_97 z s f t d p hz hs2 (by omega) (fun hd0 => by
    rcases hm with ⟨_, hg⟩ | ⟨hd, _⟩
    · have h3 := (goB_true hg).2.2.1
      have hk := kindF_le (at8 z t.toNat)
      have hr := rawF_cases (kindF (at8 z t.toNat))
      omega
    · exact absurd hd0 hd)
  have e1 : afterZ z f t d p = (midZ z s f t d p).set 97 (1 - at8 (midZ z s f t d p) 97) := by
    unfold afterZ
    rw [hmid, hsz, Int.toNat_natCast]
  rw [e1]
  have hml : (midZ z s f t d p).length = 98 := by rw [midZ_len, hz]
  rcases hm with ⟨rfl, hg⟩ | ⟨hd, hn, h0⟩
  · obtain ⟨hf, ht, hft⟩ : (0 ≤ f ∧ f < 81) ∧ (0 ≤ t ∧ t < 81) ∧ f ≠ t := by omega
    obtain ⟨i, rfl⟩ : ∃ i : Nat, f = i := ⟨f.toNat, by omega⟩
    obtain ⟨j, rfl⟩ : ∃ j : Nat, t = j := ⟨t.toNat, by omega⟩
    obtain ⟨g1, g2, g3, g4⟩ := goB_true hg
    rw [Int.toNat_natCast] at g1 g2 g3 g4
    have hy := h8.at j
    have h7 : rawF (kindF (at8 z j)) ≤ 7 := by
      have hk := kindF_le (at8 z j)
      have hr := rawF_cases (kindF (at8 z j))
      omega
    refine make_walk B g b z _ v L _ i j 0 p rfl hz h8 (by rw [hmid]; exact hs) hml (fun W hBW hG hP => ?_) w hB h hp hcan
    unfold midZ mdOf
    rw [if_pos rfl, if_pos rfl, Int.toNat_natCast, Int.toNat_natCast]
    refine walk_mv B g b z (takeZ z s (at8 z j)) v L i j p (by omega) (by omega) (by omega) (fun W v hG => ?_) (by rw [takeZ_len, hz]) (takeZ_8 z s _ h7 h8 (fun j a b => (hh j a b).2) hs2) (takeZ_clean z s _ h7 hz hs2 hc) hL hz h8 hc W hBW hG hP
    have hk := kindF_le (at8 z j)
    have hr := rawF_cases (kindF (at8 z j))
    by_cases hk0 : rawF (kindF (at8 z j)) = 0
    · rw [hk0, show takeZ z s (at8 z j) = z from if_pos hk0]
      exact (hold_none g 1 W).mono fun e w' ⟨he, hw⟩ => ⟨he, by rw [← hw]; exact hG, by rw [← hw]; exact But2.refl g b W⟩
    · obtain ⟨k, hk1, hk2⟩ : ∃ k : Nat, rawF (kindF (at8 z j)) = k ∧ 1 ≤ k ∧ k ≤ 7 := ⟨(rawF (kindF (at8 z j))).toNat, by omega, by omega, by
        have : rawF (kindF (at8 z j)) ≠ 8 := fun e8 => g3 (by omega)
        omega⟩
      have e2 : takeZ z s (at8 z j) = z.set (81 + s * 8 + k) (at8 z (81 + s * 8 + k) + 1) := by
        unfold takeZ
        rw [if_neg hk0, hk1, Int.toNat_natCast]
      rw [hk1, e2]
      have hb := hh (81 + s * 8 + k) (by omega) (by omega)
      exact hold_k g b z v s k 1 hs2 hk2 hsz (by omega) hz h8 W hG
  · obtain ⟨ht, hd7, rfl, rfl⟩ : (0 ≤ t ∧ t < 81) ∧ (1 ≤ d ∧ d ≤ 7) ∧ f = 0 ∧ p = false := by
      obtain ⟨a, h | ⟨h1, h2, h3, h4⟩⟩ := hcc
      · exact absurd h.1 hd
      · exact ⟨a, ⟨h1, h2⟩, h3, h4⟩
    have hb := hh (81 + s * 8 + d.toNat) (by omega) (by omega)
    refine make_drop B g b z _ v L _ 0 t d false hd hz h8 (by rw [hmid]; exact hs) hml (fun W hBW hG hP => ?_) w hB h hp hcan
    unfold midZ mdOf
    rw [if_neg hd, if_neg hd]
    exact drop_any B g b z v L t d s hs2 hsz hd7 ht (by omega) hL hz h8 hc W hBW hG hP
theorem make_yes (B g b : Nat) (z : List Int) (v : Value) (L : List Md) (f t d : Int) (p : Bool) (hz : z.length = 98) (h8 : I8s z) (hc : Clean z) (hh : ∀ j, 81 ≤ j → j < 97 → 0 ≤ at8 z j ∧ at8 z j ≤ 126) (hL : L.length ≤ 1000)
    (w : World) (hB : B ≤ w.heap.size) (h : Gk w g b z v) (hp : Past w B g b v L) (hcan : canF z f t d p = true) :
    Calls Tryd.prog 33 #[.pointer (some ⟨g, 0, none⟩), .agg #[.int .i64 f, .int .i64 t, .int .i64 d, .bool p]] w fun e w' => e = .returned (.bool true) ∧ ∃ v', Gk w' g b (afterZ z f t d p) v' ∧ Past w' B g b v' (L ++ [mdOf z f t d p]) ∧ But3 g b v.ownBlock w w' := by
  refine (make_yes4 B g b z v L f t d p hz h8 hc hh hL w hB h hp hcan).mono ?_
  rintro e w' ⟨rfl, v', hG, hP, hBu⟩
  exact ⟨rfl, v', hG, hP, hBu.b3⟩
end Go.Proofs.YtbopbekehccdmaaDoor

/-
  Games in memory: New, Len, Key, After.
-/
namespace Go.Proofs.YtbopbekehccdmaaDoor
open Go.RowKit
set_option linter.unusedVariables false
set_option linter.unusedSimpArgs false

theorem posRangeB {w : World} {b : Nat} {z : List Int} {S : Nat → Nat} (h : BrdAt w b z S) (hz : z.length = 98) : w.rangeAt b 0 (posC z) := fun j v hj => by
  have hl : j < 98 := by
    have := (List.getElem?_eq_some_iff.1 hj).1
    rwa [posC_len, hz] at this
  rw [Nat.zero_add, h.cell hz j hl, ← posC_get z j (by omega), hj]
set_option maxHeartbeats 2000000 in
theorem newGame_any (z : List Int) (hz : z.length = 98) (h8 : I8s z) (w : World) :
    Calls Tryd.prog 31 #[.agg (posC z).toArray] w fun e w' => ∃ g b : Nat, e = .returned (.pointer (some ⟨g, 0, none⟩)) ∧ w.heap.size ≤ g ∧ w.heap.size ≤ b ∧ Gk w' g b (newZ z) (.slice none 0 0) ∧ Below w.heap.size w w' := by
  have HINF0 := Lib.hid (show (Tryd.prog.info? 28).map (·.size) = some (posC z).length by rw [posC_len, hz]; exact infoPos)
  have HP := Lib.hid (PosAt.new w z)
  have HB := Lib.hid (ball (bref w) (.cells (posC z).toArray 28))
  have NE := Lib.hid (fun W => new_brd z hz h8 W)
  have hZ := newZ_len z hz
  have hZ8 := newZ_8 z h8
  have KO := Lib.hid (fun W => keyOf_any (newZ z) hZ hZ8 W)
  have HINF := Lib.hid (show (Tryd.prog.info? 28).map (·.size) = some (posC (newZ z)).length by rw [posC_len, hZ]; exact infoPos)
  have HZ := Lib.hid hZ
  have OL := Lib.hid (ofK_lt (newZ z))
  clear hz h8 hZ hZ8
  generalize newZ z = Z at *
  go_enter Tryd.func31, Tryd.ntmps31
  go_wp2_with (first
    | (go_at_call 16; refine (NE.out _).mono ?_; rintro e w1 ⟨bd, rfl, hg, hbd, hb⟩; have HG := Lib.hid (Nat.le_trans HB.out.size hg); have HBD := Lib.hid hbd; have HB := Lib.hid (bthen HB.out hb))
    | (go_at_call 36; refine (KO.out _).mono ?_; rintro e w2 ⟨rfl, hb2⟩; have HBD2 := Lib.hid (HBD.out.grow hb2); have HB2 := Lib.hid (bthen HB.out hb2))
    | (refine wpList_load_mid rfl 28 _ rfl w.heap.size 0 rfl (posC z) _ HP.out.range Tryd.underlying28 rfl HINF0.out ?_)
    | (refine wpList_load_mid rfl 28 _ rfl bd 0 rfl (posC Z) _ (posRangeB HBD.out HZ.out) Tryd.underlying28 rfl HINF.out ?_))
  go_ret
  refine ⟨w2.heap.size, bd, rfl, HB2.out.size, HG.out, ⟨heap_alloc_new w2 _, HBD2.out.grow (ball (bref w2) _), ?_⟩, ball HB2.out _⟩
  have := HBD2.out.lt
  omega
theorem lenG_any (g b : Nat) (z : List Int) (v : Value) (n : Nat) (a : Option Addr) (cap : Nat) (hv : v = .slice a n cap) (w : World) (h : Gk w g b z v) :
    Calls Tryd.prog 34 #[.pointer (some ⟨g, 0, none⟩)] w fun e w' => e = .returned (.int .i64 n) ∧ w = w' := by
  subst hv
  obtain ⟨g0, g1, g2⟩ := h.1.cells
  clear h
  go_enter Tryd.func34, Tryd.ntmps34
  go_wp2
  go_ret
  exact ⟨rfl, rfl⟩
theorem keyG_any (g b : Nat) (z : List Int) (v : Value) (w : World) (h : Gk w g b z v) :
    Calls Tryd.prog 35 #[.pointer (some ⟨g, 0, none⟩)] w fun e w' => e = .returned (.int .u64 (ofK z : Int)) ∧ w = w' := by
  obtain ⟨g0, g1, g2⟩ := h.1.cells
  clear h
  generalize ofK z = K at *
  go_enter Tryd.func35, Tryd.ntmps35
  go_wp2
  go_ret
  exact ⟨rfl, rfl⟩
end Go.Proofs.YtbopbekehccdmaaDoor

/-
  Games in memory: Back.
-/
namespace Go.Proofs.YtbopbekehccdmaaDoor
open Go.RowKit
set_option linter.unusedVariables false
set_option linter.unusedSimpArgs false

theorem back_none (g b : Nat) (z : List Int) (v : Value) (a : Option Addr) (cap : Nat) (hv : v = .slice a 0 cap) (w : World) (h : Gk w g b z v) :
    Calls Tryd.prog 37 #[.pointer (some ⟨g, 0, none⟩)] w fun e w' => e = .returned (.bool false) ∧ w = w' := by
  subst hv
  obtain ⟨g0, g1, g2⟩ := h.1.cells
  clear h
  go_enter Tryd.func37, Tryd.ntmps37
  go_wp2
  go_ret
  exact ⟨rfl, rfl⟩
/-- The last of what was made, in memory. -/
theorem past_last {w : World} {B g b : Nat} {v : Value} {L : List Md} {m : Md} (h : Past w B g b v (L ++ [m])) :
    ∃ j cap, v = .slice (some ⟨j, 0, none⟩) (L.length + 1) cap ∧ L.length + 1 ≤ cap ∧ cap ≤ 9223372036854775807 ∧ j ≠ g ∧ j ≠ b ∧ j < w.heap.size ∧ Past w B g b (.slice (some ⟨j, 0, none⟩) L.length cap) L ∧
      (∀ (i : Nat) (u : Value), m.cells[i]? = some u → w.cell? ⟨j, L.length * 6 + i, none⟩ = some u) := by
  obtain ⟨o, hg, hb⟩ := h
  rw [List.length_append, pastC_snoc] at o
  obtain ⟨j, cap, rfl⟩ := own_slice o
  have hj : j ≠ g := fun e => hg (by rw [e]; rfl)
  have hj2 : j ≠ b := fun e => hb (by rw [e]; rfl)
  have oc := fun i u => o.cells (g := j) rfl i u
  obtain ⟨hl, ho⟩ := o
  rcases ho with ⟨e, _⟩ | ⟨j', cap', cur, e, h1, h2, h3, h4, h5, h6⟩
  · exact absurd e (by simp)
  · obtain ⟨rfl, rfl⟩ : j = j' ∧ cap = cap' := by simpa using e
    refine ⟨j, cap, rfl, h3, h4, hj, hj2, (Array.getElem?_eq_some_iff.1 h2).1, ⟨⟨pastC_len L, .inr ⟨j, cap, cur, rfl, h1, h2, by omega, h4, h5, ?_⟩⟩, fun e => hj (by simpa [Value.ownBlock] using e), fun e => hj2 (by simpa [Value.ownBlock] using e)⟩, fun i u hu => ?_⟩
    · have := congrArg (List.take (L.length * 6)) h6
      rw [List.take_take, Nat.min_eq_left (by omega)] at this
      rw [this, List.take_append_of_le_length (by rw [pastC_len]; exact Nat.le_refl _), List.take_of_length_le (by rw [pastC_len]; exact Nat.le_refl _)]
    · have := oc (L.length * 6 + i) u (by rw [List.getElem?_append_right (by rw [pastC_len]; omega), pastC_len, show L.length * 6 + i - L.length * 6 = i by omega]; exact hu)
      rw [show (⟨j, 0, none⟩ : Addr).add (L.length * 6 + i) = ⟨j, L.length * 6 + i, none⟩ by
        unfold Addr.add
        split
        · rename_i h0
          simp at h0
          rw [h0.1, h0.2]
        · simp] at this
      exact this
def Lain3 (w : World) (m : Md) (s3 : Value) (wx : World) : Prop :=
  ∃ l : Nat, s3 = .pointer (some ⟨l, 0, none⟩) ∧ wx.heap[l]? = some (.cells m.cells.toArray 103) ∧ Below w.heap.size w wx ∧ w.heap.size ≤ l

set_option maxHeartbeats 4000000 in
theorem back_drop (B g b : Nat) (z zF : List Int) (v : Value) (L : List Md) (m : Md) (hm : (0 ≤ m.t ∧ m.t < 81) ∧ 0 ≤ m.f ∧ m.f < 81) (hmx : -128 ≤ m.x ∧ m.x ≤ 127) (hmy : -128 ≤ m.y ∧ m.y ≤ 127) (hd : m.d ≠ 0) (hL : L.length ≤ 1000) (hz : z.length = 98) (h8 : I8s z) (hc : Clean z) (hs : at8 z 97 = 0 ∨ at8 z 97 = 1)
    (hh : ∀ W v, Gk W g b (putZ (z.set 97 (1 - at8 z 97)) m.t m.y) v → Calls Tryd.prog 80 #[.pointer (some ⟨g, 0, none⟩), .int .i64 (m.d), .int .i8 (1)] W fun e w' => e = .returned (.tuple #[]) ∧ Gk w' g b zF v ∧ But2 g b W w') (w : World) (h : Gk w g b z v) (hp : Past w B g b v (L ++ [m])) :
    Calls Tryd.prog 37 #[.pointer (some ⟨g, 0, none⟩)] w fun e w' => e = .returned (.bool true) ∧ ∃ v', Gk w' g b zF v' ∧ Past w' B g b v' L ∧ But2 g b w w'  := by
  obtain ⟨j, cap, rfl, hc1, hc2, hjg, hjb, hjl, hp', hcs⟩ := past_last hp
  obtain ⟨g0, g1, g2⟩ := h.1.cells
  have k0 := hcs 0 _ rfl
  rw [Nat.add_zero] at k0
  have w2 : IntKind.i64.wrap (L.length : Int) = L.length := by rw [IntKind.wrap_i64]; omega
  have k1 := hcs 1 _ rfl
  have k2 := hcs 2 _ rfl
  have k3 := hcs 3 _ rfl
  have k4 := hcs 4 _ rfl
  have k5 := hcs 5 _ rfl
  have zg := h.1.lt
  have ZG := Lib.hid (And.intro h.1.lt h.2.1.lt)
  have HH := Lib.hid h
  have HP := Lib.hid hp'
  clear hp hp' hcs h
  have hn : 0 ≤ (L.length : Int) := by omega
  have w1 : IntKind.i64.wrap (((L.length + 1 : Nat) : Int) - 1) = L.length := by rw [IntKind.wrap_i64]; omega
  have bz : ((L.length : Int) + 1 == 0) = false := by simp; omega
  have TU := Lib.hid (fun W v (h : Gk W g b z v) => turn_k g b z v hz hs W h)
  have hz1 : (z.set 97 (1 - at8 z 97)).length = 98 := by rw [List.length_set, hz]
  have h81 : I8s (z.set 97 (1 - at8 z 97)) := set_8 h8 _ (by omega)
  have hc1' : Clean (z.set 97 (1 - at8 z 97)) := fun q hq hk => by
    rw [at8_set _ _ _ _ (by omega), if_neg (by omega)] at hk ⊢
    exact hc q hq hk
  obtain ⟨mf, mt, md, mp, mx, my⟩ := m
  obtain ⟨⟨ht0, ht1⟩, hf0, hf1⟩ := hm
  dsimp only at *
  obtain ⟨tq, rfl⟩ : ∃ tq : Nat, mt = tq := ⟨mt.toNat, by omega⟩
  obtain ⟨fq, rfl⟩ : ∃ fq : Nat, mf = fq := ⟨mf.toNat, by omega⟩
  have P1 := Lib.hid (fun W v (h : Gk W g b (z.set 97 (1 - at8 z 97)) v) => gput_k g b _ v tq my (by omega) hmy hz1 h81 hc1' W h)
  have HO := Lib.hid hh
  have bd : (md != 0) = true := by simpa using hd
  clear hd
  have HLC := Lib.hid (And.intro hc1 hc2)
  clear hz h8 hc hs hz1 h81 hc1' hh hmx hmy hL
  generalize z.set 97 (1 - at8 z 97) = z1 at *
  generalize ez2 : putZ z1 tq my = z2 at *
  clear ez2
  go_enter Tryd.func37, Tryd.ntmps37
  go_upto_region 3 with fail
  go_cut [3] (fun s3 wx => Lain3 w ⟨fq, tq, md, mp, mx, my⟩ s3 wx)
  case first =>
    go_region
    all_goals
      go_wp2_with fail
      go_meet
      exact ⟨w.heap.size, rfl, heap_alloc_new w _, (ball (bref w) _).drew, Nat.le_refl _⟩
  case rest =>
    obtain ⟨l, rfl, hl, hB, hlw⟩ := hcut
    have HW := Lib.hid hB
    have HG := Lib.hid (HH.out.grow hB)
    have HPa := Lib.hid (HP.out.grow hB)
    have RL := Lib.hid hl
    obtain ⟨c0, c1, c2⟩ := HG.out.1.cells
    have fg := HG.out.1.frozen 2
    have zl := (Array.getElem?_eq_some_iff.1 hl).1
    have hlg : l ≠ g ∧ l ≠ b := by (have := ZG.out; omega)
    have HLG := Lib.hid hlg
    obtain ⟨hc1, hc2⟩ := HLC.out
    clear g0 g1 g2 k0 k1 k2 k3 k4 k5 zg hl hB hlg
    go_wp2_with fail
    go_region
    have SV := Lib.hid (((But2.refl g b wc).setG 2 (.slice (some ⟨j, 0, none⟩) L.length cap)).drew)
    have HG2 := Lib.hid (Gk.drew (gk_setV HG.out (.slice (some ⟨j, 0, none⟩) L.length cap)))
    have HP2 := Lib.hid (HPa.out.but2 SV.out)
    have RL2 := Lib.hid (SV.out.row RL.out HLG.out.1 HLG.out.2)
    have BB := Lib.hid ((But2.of HW.out).trans SV.out)
    clear c0 c1 c2 fg zl
    generalize (wc.setCell ⟨g, 2, none⟩ (.slice (some ⟨j, 0, none⟩) L.length cap)).drew = wd at *
    obtain ⟨l0, l1, l2, l3, l4, l5⟩ := made_cells RL2.out
    go_wp2_with (first
    | (go_at_call 75; refine (TU.out _ _ HG2.out).mono ?_; rintro e wa ⟨rfl, hG, hb⟩; have HG3 := Lib.hid hG; have HP3 := Lib.hid (HP2.out.but2 hb); have BB3 := Lib.hid (BB.out.trans hb); have RL3 := Lib.hid (hb.row RL2.out HLG.out.1 HLG.out.2); obtain ⟨l0, l1, l2, l3, l4, l5⟩ := made_cells RL3.out; clear hG hb)
    | (go_at_call 79; refine (P1.out _ _ HG3.out).mono ?_; rintro e wb ⟨rfl, hG, hb⟩; have HG4 := Lib.hid hG; have HP4 := Lib.hid (HP3.out.but2 hb); have BB4 := Lib.hid (BB3.out.trans hb); have RL4 := Lib.hid (hb.row RL3.out HLG.out.1 HLG.out.2); obtain ⟨l0, l1, l2, l3, l4, l5⟩ := made_cells RL4.out; clear hG hb)
    | (go_at_call 80; refine (HO.out _ _ HG4.out).mono ?_; rintro e we ⟨rfl, hG, hb⟩; have HG5 := Lib.hid hG; have HP5 := Lib.hid (HP4.out.but2 hb); have BB5 := Lib.hid (BB4.out.trans hb); have RL5 := Lib.hid (hb.row RL4.out HLG.out.1 HLG.out.2); obtain ⟨l0, l1, l2, l3, l4, l5⟩ := made_cells RL5.out; clear hG hb))
    go_ret
    exact ⟨rfl, _, HG5.out, HP5.out, BB5.out⟩
set_option maxHeartbeats 4000000 in
theorem back_walk (B g b : Nat) (z zF : List Int) (v : Value) (L : List Md) (m : Md) (hm : (0 ≤ m.t ∧ m.t < 81) ∧ 0 ≤ m.f ∧ m.f < 81) (hmx : -128 ≤ m.x ∧ m.x ≤ 127) (hmy : -128 ≤ m.y ∧ m.y ≤ 127) (hd : m.d = 0) (hL : L.length ≤ 1000) (hz : z.length = 98) (h8 : I8s z) (hc : Clean z) (hs : at8 z 97 = 0 ∨ at8 z 97 = 1)
    (hh : ∀ W v, Gk W g b (putZ (putZ (z.set 97 (1 - at8 z 97)) m.t m.y) m.f m.x) v → Calls Tryd.prog 80 #[.pointer (some ⟨g, 0, none⟩), .int .i64 (rawF (kindF m.y)), .int .i8 (-1)] W fun e w' => e = .returned (.tuple #[]) ∧ Gk w' g b zF v ∧ But2 g b W w') (w : World) (h : Gk w g b z v) (hp : Past w B g b v (L ++ [m])) :
    Calls Tryd.prog 37 #[.pointer (some ⟨g, 0, none⟩)] w fun e w' => e = .returned (.bool true) ∧ ∃ v', Gk w' g b zF v' ∧ Past w' B g b v' L ∧ But2 g b w w'  := by
  obtain ⟨j, cap, rfl, hc1, hc2, hjg, hjb, hjl, hp', hcs⟩ := past_last hp
  obtain ⟨g0, g1, g2⟩ := h.1.cells
  have k0 := hcs 0 _ rfl
  rw [Nat.add_zero] at k0
  have w2 : IntKind.i64.wrap (L.length : Int) = L.length := by rw [IntKind.wrap_i64]; omega
  have k1 := hcs 1 _ rfl
  have k2 := hcs 2 _ rfl
  have k3 := hcs 3 _ rfl
  have k4 := hcs 4 _ rfl
  have k5 := hcs 5 _ rfl
  have zg := h.1.lt
  have ZG := Lib.hid (And.intro h.1.lt h.2.1.lt)
  have HH := Lib.hid h
  have HP := Lib.hid hp'
  clear hp hp' hcs h
  have hn : 0 ≤ (L.length : Int) := by omega
  have w1 : IntKind.i64.wrap (((L.length + 1 : Nat) : Int) - 1) = L.length := by rw [IntKind.wrap_i64]; omega
  have bz : ((L.length : Int) + 1 == 0) = false := by simp; omega
  have TU := Lib.hid (fun W v (h : Gk W g b z v) => turn_k g b z v hz hs W h)
  have hz1 : (z.set 97 (1 - at8 z 97)).length = 98 := by rw [List.length_set, hz]
  have h81 : I8s (z.set 97 (1 - at8 z 97)) := set_8 h8 _ (by omega)
  have hc1' : Clean (z.set 97 (1 - at8 z 97)) := fun q hq hk => by
    rw [at8_set _ _ _ _ (by omega), if_neg (by omega)] at hk ⊢
    exact hc q hq hk
  obtain ⟨mf, mt, md, mp, mx, my⟩ := m
  obtain ⟨⟨ht0, ht1⟩, hf0, hf1⟩ := hm
  dsimp only at *
  obtain ⟨tq, rfl⟩ : ∃ tq : Nat, mt = tq := ⟨mt.toNat, by omega⟩
  obtain ⟨fq, rfl⟩ : ∃ fq : Nat, mf = fq := ⟨mf.toNat, by omega⟩
  have P1 := Lib.hid (fun W v (h : Gk W g b (z.set 97 (1 - at8 z 97)) v) => gput_k g b _ v tq my (by omega) hmy hz1 h81 hc1' W h)
  have HO := Lib.hid hh
  have IH := Lib.hid (fun W => inHand_any my hmy W)
  have P2 := Lib.hid (fun W v (h : Gk W g b (putZ (z.set 97 (1 - at8 z 97)) tq my) v) => gput_k g b _ v fq mx (by omega) hmx (by rw [putZ_len, hz1]) (putZ_8 h81 _ _ hmy) (putZ_clean hc1' hz1 _ _) W h)
  subst hd
  have HLC := Lib.hid (And.intro hc1 hc2)
  clear hz h8 hc hs hz1 h81 hc1' hh hmx hmy hL
  generalize z.set 97 (1 - at8 z 97) = z1 at *
  generalize ez2 : putZ z1 tq my = z2 at *
  clear ez2
  generalize ez3 : putZ z2 fq mx = z3 at *
  clear ez3
  generalize rawF (kindF my) = kk at *
  go_enter Tryd.func37, Tryd.ntmps37
  go_upto_region 3 with fail
  go_cut [3] (fun s3 wx => Lain3 w ⟨fq, tq, 0, mp, mx, my⟩ s3 wx)
  case first =>
    go_region
    all_goals
      go_wp2_with fail
      go_meet
      exact ⟨w.heap.size, rfl, heap_alloc_new w _, (ball (bref w) _).drew, Nat.le_refl _⟩
  case rest =>
    obtain ⟨l, rfl, hl, hB, hlw⟩ := hcut
    have HW := Lib.hid hB
    have HG := Lib.hid (HH.out.grow hB)
    have HPa := Lib.hid (HP.out.grow hB)
    have RL := Lib.hid hl
    obtain ⟨c0, c1, c2⟩ := HG.out.1.cells
    have fg := HG.out.1.frozen 2
    have zl := (Array.getElem?_eq_some_iff.1 hl).1
    have hlg : l ≠ g ∧ l ≠ b := by (have := ZG.out; omega)
    have HLG := Lib.hid hlg
    obtain ⟨hc1, hc2⟩ := HLC.out
    clear g0 g1 g2 k0 k1 k2 k3 k4 k5 zg hl hB hlg
    go_wp2_with fail
    go_region
    have SV := Lib.hid (((But2.refl g b wc).setG 2 (.slice (some ⟨j, 0, none⟩) L.length cap)).drew)
    have HG2 := Lib.hid (Gk.drew (gk_setV HG.out (.slice (some ⟨j, 0, none⟩) L.length cap)))
    have HP2 := Lib.hid (HPa.out.but2 SV.out)
    have RL2 := Lib.hid (SV.out.row RL.out HLG.out.1 HLG.out.2)
    have BB := Lib.hid ((But2.of HW.out).trans SV.out)
    clear c0 c1 c2 fg zl
    generalize (wc.setCell ⟨g, 2, none⟩ (.slice (some ⟨j, 0, none⟩) L.length cap)).drew = wd at *
    obtain ⟨l0, l1, l2, l3, l4, l5⟩ := made_cells RL2.out
    go_wp2_with (first
    | (go_at_call 75; refine (TU.out _ _ HG2.out).mono ?_; rintro e wa ⟨rfl, hG, hb⟩; have HG3 := Lib.hid hG; have HP3 := Lib.hid (HP2.out.but2 hb); have BB3 := Lib.hid (BB.out.trans hb); have RL3 := Lib.hid (hb.row RL2.out HLG.out.1 HLG.out.2); obtain ⟨l0, l1, l2, l3, l4, l5⟩ := made_cells RL3.out; clear hG hb)
    | (go_at_call_of 79 (Value.int .i64 (tq : Int)); refine (P1.out _ _ HG3.out).mono ?_; rintro e wb ⟨rfl, hG, hb⟩; have HG4 := Lib.hid hG; have HP4 := Lib.hid (HP3.out.but2 hb); have BB4 := Lib.hid (BB3.out.trans hb); have RL4 := Lib.hid (hb.row RL3.out HLG.out.1 HLG.out.2); obtain ⟨l0, l1, l2, l3, l4, l5⟩ := made_cells RL4.out; clear hG hb)
    | (go_at_call 79; refine (P2.out _ _ HG4.out).mono ?_; rintro e we ⟨rfl, hG, hb⟩; have HG5 := Lib.hid hG; have HP5 := Lib.hid (HP4.out.but2 hb); have BB5 := Lib.hid (BB4.out.trans hb); have RL5 := Lib.hid (hb.row RL4.out HLG.out.1 HLG.out.2); obtain ⟨l0, l1, l2, l3, l4, l5⟩ := made_cells RL5.out; clear hG hb)
    | (go_at_call 81; refine (IH.out _).mono ?_; rintro e wi ⟨rfl, rfl⟩)
    | (go_at_call 80; refine (HO.out _ _ HG5.out).mono ?_; rintro e wf ⟨rfl, hG, hb⟩; have HG6 := Lib.hid hG; have HP6 := Lib.hid (HP5.out.but2 hb); have BB6 := Lib.hid (BB5.out.trans hb); have RL6 := Lib.hid (hb.row RL5.out HLG.out.1 HLG.out.2); obtain ⟨l0, l1, l2, l3, l4, l5⟩ := made_cells RL6.out; clear hG hb))
    go_ret
    exact ⟨rfl, _, HG6.out, HP6.out, BB6.out⟩
end Go.Proofs.YtbopbekehccdmaaDoor
