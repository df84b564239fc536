/-
  The reference's answers on lines: sign, Line, Between, Free.
-/
import Derived.Test.YtilhicohfnaclaaDoorLineAll
import Derived.Test.YtilhicohfnaclaaDoorListAll
import Derived.Test.YtilhicohfnaclaaDoorArr
import Derived.Test.YtilhicohfnaclaaDoorRegFrame
namespace Go.Proofs.YtilhicohfnaclaaDoor
set_option maxRecDepth 100000
open Go.RowKit
set_option linter.unusedVariables false
set_option linter.unusedSimpArgs false

theorem refSign_any (n : Int) (w : World) :
    Calls Tryd.prog 131 #[.int .i64 n] w fun e w' => e = .returned (.int .i64 (sgnF n)) ∧ w = w' := by
  unfold sgnF
  rcases (show n < 0 ∨ (¬ n < 0 ∧ 0 < n) ∨ (¬ n < 0 ∧ ¬ 0 < n) by omega) with h | ⟨h, h2⟩ | ⟨h, h2⟩
  · rw [if_pos h]
    go_enter Tryd.func131, Tryd.ntmps131
    go_wp2
    go_ret
    exact ⟨rfl, rfl⟩
  · rw [if_neg h, if_pos h2]
    go_enter Tryd.func131, Tryd.ntmps131
    go_wp2
    go_ret
    exact ⟨rfl, rfl⟩
  · rw [if_neg h, if_neg h2]
    go_enter Tryd.func131, Tryd.ntmps131
    go_wp2
    go_ret
    exact ⟨rfl, rfl⟩

set_option maxHeartbeats 1000000 in
theorem refLine_any (a b : Int) (w : World) :
    Calls Tryd.prog 103 #[.int .i64 a, .int .i64 b] w fun e w' => e = .returned (.int .i64 (lineF a b)) ∧ w = w' := by
  unfold lineF
  by_cases h : a < 0 ∨ 80 < a ∨ b < 0 ∨ 80 < b ∨ a = b
  · rw [if_pos h]
    rcases (show a < 0 ∨ (0 ≤ a ∧ 80 < a) ∨ (0 ≤ a ∧ a ≤ 80 ∧ b < 0) ∨ (0 ≤ a ∧ a ≤ 80 ∧ 0 ≤ b ∧ 80 < b) ∨ (0 ≤ a ∧ a ≤ 80 ∧ 0 ≤ b ∧ b ≤ 80 ∧ a = b) by omega) with c | ⟨c, d⟩ | ⟨c, d, e⟩ | ⟨c, d, e, f⟩ | ⟨c, d, e, f, rfl⟩
    all_goals
      clear h
      go_enter Tryd.func103, Tryd.ntmps103
      go_wp2
      go_ret
      exact ⟨rfl, rfl⟩
  · rw [if_neg h]
    obtain ⟨a0, a1, b0, b1, ne⟩ : 0 ≤ a ∧ a ≤ 80 ∧ 0 ≤ b ∧ b ≤ 80 ∧ a ≠ b := by omega
    have bne : (a == b) = false := by simpa using ne
    have hb : ∀ x y : Int, x = y → (x == y) = true := fun x y h => by simpa using h
    have hn : ∀ x y : Int, x ≠ y → (x == y) = false := fun x y h => by simpa using h
    have HB := Lib.hid hb
    have HN := Lib.hid hn
    clear hb hn
    rcases (show b / 9 - a / 9 = 0 ∨ (b / 9 - a / 9 ≠ 0 ∧ b % 9 - a % 9 = 0) ∨ (b / 9 - a / 9 ≠ 0 ∧ b % 9 - a % 9 ≠ 0 ∧ b / 9 - a / 9 = b % 9 - a % 9) ∨ (b / 9 - a / 9 ≠ 0 ∧ b % 9 - a % 9 ≠ 0 ∧ b / 9 - a / 9 ≠ b % 9 - a % 9 ∧ b / 9 - a / 9 = -(b % 9 - a % 9)) ∨ (b / 9 - a / 9 ≠ 0 ∧ b % 9 - a % 9 ≠ 0 ∧ b / 9 - a / 9 ≠ b % 9 - a % 9 ∧ b / 9 - a / 9 ≠ -(b % 9 - a % 9)) by omega) with c | ⟨c, d⟩ | ⟨c, d, e⟩ | ⟨c, d, e, f⟩ | ⟨c, d, e, f⟩
    · rw [if_pos (.inl c)]
      have t1 := HB.out _ _ c
      clear c h ne
      go_enter Tryd.func103, Tryd.ntmps103
      go_wp2
      go_ret
      exact ⟨rfl, rfl⟩
    · rw [if_pos (.inr d)]
      have t1 := HN.out _ _ c
      have t2 := HB.out _ _ d
      clear c d h ne
      go_enter Tryd.func103, Tryd.ntmps103
      go_wp2
      go_ret
      exact ⟨rfl, rfl⟩
    · rw [if_neg (by omega), if_pos (.inl e)]
      have t1 := HN.out _ _ c
      have t2 := HN.out _ _ d
      have t3 := HB.out _ _ e
      clear c d e h ne
      go_enter Tryd.func103, Tryd.ntmps103
      go_wp2
      go_ret
      exact ⟨rfl, rfl⟩
    · rw [if_neg (by omega), if_pos (.inr f)]
      have t1 := HN.out _ _ c
      have t2 := HN.out _ _ d
      have t3 := HN.out _ _ e
      have t4 := HB.out _ _ f
      have t5 : (b / 9 - a / 9 == a % 9 - b % 9) = true := HB.out _ _ (by omega)
      clear c d e f h ne
      go_enter Tryd.func103, Tryd.ntmps103
      go_wp2
      go_ret
      exact ⟨rfl, rfl⟩
    · rw [if_neg (by omega), if_neg (by omega)]
      have t1 := HN.out _ _ c
      have t2 := HN.out _ _ d
      have t3 := HN.out _ _ e
      have t4 := HN.out _ _ f
      have t5 : (b / 9 - a / 9 == a % 9 - b % 9) = false := HN.out _ _ (by omega)
      clear c d e f h ne
      go_enter Tryd.func103, Tryd.ntmps103
      go_wp2
      go_ret
      exact ⟨rfl, rfl⟩

theorem betweenP_step (a b : Int) (k : Nat) : betweenP a b (k + 1) = betweenP a b k ++ [a + (k + 1) * awayF a b] := by
  unfold betweenP
  rw [List.range_succ, List.map_append]
  simp
theorem betweenP_len (a b : Int) (k : Nat) : (betweenP a b k).length = k := by simp [betweenP]
/-- How far two squares on a line are, and that the way's end is the other one. -/
theorem line_dist (a b : Int) (h : lineF a b ≠ 0) : (0 ≤ a ∧ a ≤ 80 ∧ 0 ≤ b ∧ b ≤ 80) ∧ 1 ≤ distF a b ∧ distF a b ≤ 8 ∧ -10 ≤ awayF a b ∧ awayF a b ≤ 10 ∧ b = a + (distF a b : Int) * awayF a b ∧ awayF a b ≠ 0 := by
  have hr : 0 ≤ a ∧ a ≤ 80 ∧ 0 ≤ b ∧ b ≤ 80 ∧ a ≠ b := by
    unfold lineF at h
    by_cases hc : a < 0 ∨ 80 < a ∨ b < 0 ∨ 80 < b ∨ a = b
    · rw [if_pos hc] at h
      exact absurd rfl h
    · omega
  have hl : b / 9 - a / 9 = 0 ∨ b % 9 - a % 9 = 0 ∨ b / 9 - a / 9 = b % 9 - a % 9 ∨ b / 9 - a / 9 = -(b % 9 - a % 9) := by
    unfold lineF at h
    rw [if_neg (by omega)] at h
    by_cases c1 : b / 9 - a / 9 = 0 ∨ b % 9 - a % 9 = 0
    · omega
    · rw [if_neg c1] at h
      by_cases c2 : b / 9 - a / 9 = b % 9 - a % 9 ∨ b / 9 - a / 9 = -(b % 9 - a % 9)
      · omega
      · rw [if_neg c2] at h
        exact absurd rfl h
  have key : ∀ (F R : Int), -8 ≤ F → F ≤ 8 → -8 ≤ R → R ≤ 8 → ¬ (F = 0 ∧ R = 0) → (F = 0 ∨ R = 0 ∨ F = R ∨ F = -R) → 1 ≤ max F.natAbs R.natAbs ∧ max F.natAbs R.natAbs ≤ 8 ∧ -10 ≤ 9 * sgnF F + sgnF R ∧ 9 * sgnF F + sgnF R ≤ 10 ∧ 9 * F + R = ((max F.natAbs R.natAbs : Nat) : Int) * (9 * sgnF F + sgnF R) ∧ 9 * sgnF F + sgnF R ≠ 0 := by
    intro F R f0 f1 r0 r1 hne hor
    unfold sgnF
    repeat' split
    all_goals omega
  have := key (b / 9 - a / 9) (b % 9 - a % 9) (by omega) (by omega) (by omega) (by omega) (by omega) hl
  refine ⟨⟨hr.1, hr.2.1, hr.2.2.1, hr.2.2.2.1⟩, this.1, this.2.1, this.2.2.1, this.2.2.2.1, ?_, this.2.2.2.2.2⟩
  have e := this.2.2.2.2.1
  show b = a + ((max (b / 9 - a / 9).natAbs (b % 9 - a % 9).natAbs : Nat) : Int) * (9 * sgnF (b / 9 - a / 9) + sgnF (b % 9 - a % 9))
  rw [← e]
  omega
end Go.Proofs.YtilhicohfnaclaaDoor

/-
  The reference's Between and Free.
-/
namespace Go.Proofs.YtilhicohfnaclaaDoor
set_option maxRecDepth 100000
open Go.RowKit
set_option linter.unusedVariables false
set_option linter.unusedSimpArgs false

theorem sgn_bd (n : Int) : -1 ≤ sgnF n ∧ sgnF n ≤ 1 := by
  unfold sgnF
  repeat' split
  all_goals omega

theorem meas (a b d : Int) (m k : Nat) (hb : b = a + (m : Int) * d) (hd : d ≠ 0) (hk : k + 1 < m) : (b - (a + ((k : Int) + 1) * d + d)).natAbs < (b - (a + ((k : Int) + 1) * d)).natAbs := by
  obtain ⟨r, rfl⟩ : ∃ r, m = k + 2 + r := ⟨m - k - 2, by omega⟩
  have e1 : b - (a + ((k : Int) + 1) * d + d) = (r : Int) * d := by
    rw [hb, show ((k + 2 + r : Nat) : Int) = (k : Int) + 2 + r by omega, Int.add_mul, Int.add_mul, Int.add_mul]
    omega
  have e2 : b - (a + ((k : Int) + 1) * d) = ((r + 1 : Nat) : Int) * d := by
    rw [hb, show ((k + 2 + r : Nat) : Int) = (k : Int) + 2 + r by omega, show ((r + 1 : Nat) : Int) = (r : Int) + 1 by omega, Int.add_mul, Int.add_mul, Int.add_mul, Int.add_mul]
    omega
  rw [e1, e2, Int.natAbs_mul, Int.natAbs_mul]
  exact Nat.mul_lt_mul_of_pos_right (by omega) (by omega)
theorem next_eq (a b d : Int) (m k : Nat) (hb : b = a + (m : Int) * d) (hd : d ≠ 0) (hk : k < m) : a + ((k : Int) + 1) * d = b ↔ k + 1 = m := by
  constructor
  · intro h
    have h2 : ((k : Int) + 1 - m) * d = 0 := by
      rw [Int.sub_mul]
      omega
    rcases Int.mul_eq_zero.1 h2 with h3 | h3
    · omega
    · exact absurd h3 hd
  · intro h
    rw [hb, ← h]
    rfl
theorem next_bd (a d : Int) (k : Nat) (hk : k ≤ 8) (a0 : 0 ≤ a) (a1 : a ≤ 80) (d0 : -10 ≤ d) (d1 : d ≤ 10) : -100 ≤ a + ((k : Int) + 1) * d ∧ a + ((k : Int) + 1) * d ≤ 200 := by
  have h : k = 0 ∨ k = 1 ∨ k = 2 ∨ k = 3 ∨ k = 4 ∨ k = 5 ∨ k = 6 ∨ k = 7 ∨ k = 8 := by omega
  rcases h with rfl | rfl | rfl | rfl | rfl | rfl | rfl | rfl | rfl <;> omega

set_option maxHeartbeats 2000000 in
theorem refBetween_any (a b : Int) (w : World) :
    Calls Tryd.prog 123 #[.int .i64 a, .int .i64 b] w fun e w' => ∃ v, e = .returned v ∧ Own w' w.heap.size v (betweenL a b) ∧ Below w.heap.size w w' := by
  obtain ⟨i0, hi, hz0, hz1, hz2⟩ := info_parts infoInt
  have L := Lib.hid (fun W => refLine_any a b W)
  unfold betweenL
  by_cases hl : lineF a b = 0
  · rw [if_pos hl]
    rw [hl] at L
    clear hi hz0 hz1 hz2
    go_enter Tryd.func123, Tryd.ntmps123
    go_wp2_with (go_at_call 103; refine (L.out _).mono ?_; rintro e w1 ⟨rfl, rfl⟩)
    go_ret
    exact ⟨_, rfl, World.ownsRow_nil _ _ _ _, bref _⟩
  · rw [if_neg hl]
    obtain ⟨⟨a0, a1, b0, b1⟩, m1, m8, d0, d1, hm, dn⟩ := line_dist a b hl
    have SG := Lib.hid (fun n W => refSign_any n W)
    have hst := fun k => betweenP_step a b k
    have HST := Lib.hid hst
    have hln := fun k => betweenP_len a b k
    have HLN := Lib.hid hln
    have hb0 : betweenP a b 0 = [] := rfl
    have HB0 := Lib.hid hb0
    clear hst hln hb0
    have hd : 9 * sgnF (b / 9 - a / 9) + sgnF (b % 9 - a % 9) = awayF a b := rfl
    have bf := sgn_bd (b / 9 - a / 9)
    have br := sgn_bd (b % 9 - a % 9)
    have tl : (lineF a b == 0) = false := by simpa using hl
    generalize betweenP a b = BP at HST HLN HB0 ⊢
    generalize lineF a b = ln at L tl
    generalize awayF a b = d at hd hm d0 d1 dn HST
    generalize distF a b = m at hm m1 m8 ⊢
    have HM := Lib.hid hm
    have HDN := Lib.hid dn
    clear hm dn hl
    obtain ⟨f0, f1⟩ := bf
    obtain ⟨r0, r1⟩ := br
    go_enter Tryd.func123, Tryd.ntmps123
    go_wp2_with (first
      | (go_at_call 103; refine (L.out _).mono ?_; rintro e w1 ⟨rfl, rfl⟩)
      | (go_at_call 131; refine (SG.out _ _).mono ?_; rintro e w1 ⟨rfl, rfl⟩))
    clear SG L tl hd f0 f1 r0 r1
    go_loopw [5, 7] (fun v i wr => ∃ k : Nat, k < m ∧ i = .int .i64 (a + ((k : Int) + 1) * d) ∧ Own wr w.heap.size v (BP k) ∧ Below w.heap.size w wr) (fun _ i _ => (b - intOf i).natAbs)
    case atStart =>
      refine ⟨0, by omega, ?_, by rw [HB0.out]; exact World.ownsRow_nil _ _ _ _, bref _⟩
      show Value.int .i64 _ = Value.int .i64 _
      congr 1
      omega
    case round =>
      obtain ⟨k, hk, rfl, hO, hB⟩ := hrel
      have HB := Lib.hid hB
      clear hB
      have hbd := next_bd a d k (by omega) a0 a1 d0 d1
      have hme := Lib.hid (fun h => meas a b d m k HM.out HDN.out h)
      have hne := next_eq a b d m k HM.out HDN.out hk
      have hq2 : a + ((k : Int) + 1) * d + d = a + (((k + 1 : Nat) : Int) + 1) * d := by
        rw [show (((k + 1 : Nat) : Int) + 1) = ((k : Int) + 1) + 1 by omega, Int.add_mul ((k : Int) + 1) 1 d]
        omega
      have HQ2 := Lib.hid hq2
      have hs := HST.out k
      clear hq2
      generalize hQ : a + ((k : Int) + 1) * d = Q at hbd hme hne hs HQ2 ⊢
      clear hQ
      by_cases hkm : k + 1 = m
      · have tq : (Q != b) = false := by simpa using hne.2 hkm
        have hr : BP k = BP (m - 1) := by rw [← hkm]; rfl
        rw [hr] at hO
        clear hs hne hme hr
        go_wp2
        go_ret
        exact ⟨_, rfl, hO, HB.out⟩
      · have tq : (Q != b) = true := by rw [bne_iff_ne]; exact fun e => hkm (hne.1 e)
        have HS := Lib.hid hs
        have hle := HLN.out k
        clear hs hne
        generalize BP k = L1 at HS hO hle
        go_wp2_with (at_builtin; refine wpList_append_own _ rfl _ _ 40 rfl w.heap.size 3 i0 (.int .i64 0) 1 8 Tryd.underlying40 hi hz0 hz1 hz2 rfl (by decide) _ _ _ rfl (hO.alloc _) ⟨wr.heap.size, 0, none⟩ 1 1 [.int .i64 Q] rfl rfl ?c1 ?c2 ?c3 ?c4 ?c5 ?_)
        case c1 => exact (cell_one_new _ _ _)
        case c2 => simp [Value.oneCell']
        case c3 => simp [maxLen]; omega
        case c4 => have := HB.out.size; first | omega | (simp; omega)
        case c5 => have := HB.out.size; first | omega | (simp; omega)
        intro v' w2 hown hgrow _
        have hB2 := (HB.out.alloc HB.out.size _).grown hgrow (by have := HB.out.size; simp; omega) (fun b hb => (hO.lt b hb).1)
        have ho2 : Own w2 w.heap.size v' (BP (k + 1)) := by
          rw [HS.out]
          unfold Own
          rw [List.length_append, List.map_append, hle]
          exact hown
        have HB2 := Lib.hid hB2
        have HO2 := Lib.hid ho2
        clear hB2 ho2 hown hgrow hO HS HB
        go_wp2
        go_roundw
        case rel => exact ⟨k + 1, by omega, by rw [← HQ2.out], HO2.out, HB2.out⟩
        case measure => simp only [intOf]; exact hme.out (by omega)

/-- The array of a set of squares, in a box. -/
theorem boxA_cell (w : World) (A : Array Value) (t : TypeId) (j : Nat) (v : Value) (h : A[j]? = some v) : (w.alloc (.cells A t)).cell? ⟨w.heap.size, j, none⟩ = some v := by
  have e : (w.alloc (.cells A t)).heap[w.heap.size]? = some (.cells A t) := heap_alloc_new w _
  unfold World.cell?
  simp only [e]
  simpa using h
theorem between_in (a b : Int) : ∀ u ∈ betweenL a b, 0 ≤ u ∧ u < 81 := by
  intro u hu
  by_cases hl : lineF a b = 0
  · unfold betweenL at hu
    rw [if_pos hl] at hu
    cases hu
  · obtain ⟨⟨a0, a1, b0, b1⟩, -⟩ := line_dist a b hl
    have hok := path_in a.toNat (by omega) b.toNat (by omega)
    rw [show ((a.toNat : Nat) : Int) = a by omega, show ((b.toNat : Nat) : Int) = b by omega] at hok
    rcases hok with h | ⟨hm, he, -⟩
    · exact absurd h hl
    · have hp := path_ok a.toNat (by omega) (dirF a b) he
      rw [show ((a.toNat : Nat) : Int) = a by omega] at hp
      have key : ∀ (l pre : List Int), okPath a (dirF a b) pre l = true → (∀ v ∈ l, 0 ≤ v ∧ v < 81) → (∀ v ∈ pre, 0 ≤ v ∧ v < 81) → b ∈ l → ∀ v ∈ betweenL a b, 0 ≤ v ∧ v < 81 := by
        intro l
        induction l with
        | nil => intro pre _ _ _ hb; cases hb
        | cons x l ih =>
          intro pre hok hl2 hpre hb v hv
          obtain ⟨h1, h2, h3, h4⟩ := ok_head hok
          rcases List.mem_cons.1 hb with rfl | hb
          · rw [h3] at hv
            exact hpre v hv
          · exact ih (pre ++ [x]) h4 (fun v hv => hl2 v (List.mem_cons_of_mem _ hv)) (fun v hv => by
              rcases List.mem_append.1 hv with h5 | h5
              · exact hpre v h5
              · rw [List.mem_singleton.1 h5]; exact hl2 x List.mem_cons_self) hb v hv
      refine key _ [] hp ?_ (fun v hv => by cases hv) hm u hu
      intro v hv
      have : wayL 0 (dirF a b) 9 (fromF (dirF a b) a) = pathL (dirF a b) 9 (fromF (dirF a b) a) := by
        have cz : ∀ l : List Int, cutL 0 l = l := by
          intro l
          induction l with
          | nil => rfl
          | cons x l ih => unfold cutL; rw [Nat.zero_testBit, if_neg (by decide), ih]
        rw [way_cut, cz]
      rw [← this] at hv
      have hne := eight_ne _ he
      have hsm : I64 (dirF a b).1 ∧ I64 (dirF a b).2 := by
        have := sgn_bd (b / 9 - a / 9)
        have := sgn_bd (b % 9 - a % 9)
        unfold I64 dirF
        omega
      have hw := from_where (dirF a b) a hsm.1 hsm.2
      have := wayL_mem 0 (dirF a b) hsm.1 hsm.2 hne 9 _ (by omega) v hv
      exact ⟨this.1, this.2.1⟩

set_option maxHeartbeats 2000000 in
theorem refFree_any (a b : Int) (n : Nat) (w : World) :
    Calls Tryd.prog 104 #[.int .i64 a, .int .i64 b, .agg (arrP n 81)] w fun e w' => e = .returned (.bool (freeF a b n)) ∧ Below w.heap.size w w' := by
  have B := Lib.hid (fun W => refBetween_any a b W)
  have HIN := Lib.hid (between_in a b)
  have hA : ∀ q : Nat, q < 81 → (arrP n 81)[q]? = some (.bool (n.testBit q)) := fun q hq => by
    rw [arrP_get n 81 q hq]
    simp [hq]
  have hfr : freeF a b n = (betweenL a b).all fun u => !n.testBit u.toNat := rfl
  have hle : (betweenL a b).length ≤ 8 := by
    unfold betweenL
    split
    · simp
    · rename_i hl
      rw [betweenP_len]
      have := (line_dist a b hl).2.2.1
      omega
  rw [hfr]
  clear hfr
  generalize betweenL a b = l at B HIN hle ⊢
  have HA := Lib.hid (fun (q : Nat) (hq : q < 81) => boxA_cell w (arrP n 81) 42 q _ (hA q hq))
  clear hA
  generalize arrP n 81 = A at HA ⊢
  go_enter Tryd.func104, Tryd.ntmps104
  go_wp2_with (go_at_call 123; refine (B.out _).mono ?_; rintro e w1 ⟨v, rfl, hO, hb1⟩)
  have hc5 : ∀ q : Nat, q < 81 → w1.cell? ⟨w.heap.size, q, none⟩ = some (.bool (n.testBit q)) := fun q hq => (hb1.cell (p := ⟨w.heap.size, q, none⟩) (by simp)).trans (HA.out q hq)
  have HC5 := Lib.hid hc5
  have HB := Lib.hid (bthen (ball (bref w) _) hb1)
  clear hb1 hc5 HA B
  rcases hO.parts with ⟨rfl, rfl⟩ | ⟨g, cap, rfl, hg, hgl, hcells⟩
  · clear hO
    go_loop [8] (fun i => i = .int .i64 0) (fun _ => 0)
    case atStart => rfl
    case round =>
      subst hrel
      go_wp2
      go_ret
      exact ⟨rfl, HB.out⟩
  · have HG := Lib.hid hcells
    clear hO hcells hg hgl
    go_loop [8] (fun i => ∃ k : Nat, k ≤ l.length ∧ i = .int .i64 k ∧ ∀ u ∈ l.take k, n.testBit u.toNat = false) (fun i => l.length - (intOf i).toNat)
    case atStart => exact ⟨0, Nat.zero_le _, rfl, fun u hu => by cases hu⟩
    case round =>
      obtain ⟨k, hk, rfl, hfr⟩ := hrel
      have HF := Lib.hid hfr
      clear hfr
      by_cases hlt : k < l.length
      · have hc : w1.cell? ⟨g, k, none⟩ = some (.int .i64 l[k]) := by have := HG.out k hlt; rwa [Nat.zero_add] at this
        have hin := HIN.out l[k] (List.getElem_mem hlt)
        have hst : l.take (k + 1) = l.take k ++ [l[k]] := List.take_succ_eq_append_getElem hlt
        have HST := Lib.hid hst
        have hmem := Lib.hid (List.getElem_mem hlt)
        clear hst
        obtain ⟨q, hq⟩ : ∃ q : Nat, l[k] = (q : Int) := ⟨l[k].toNat, by omega⟩
        generalize l[k] = u at hc hin HST hmem hq
        subst hq
        have hq81 : q < 81 := by omega
        have c5 := HC5.out q hq81
        have q0 : (0 : Int) ≤ (q : Int) := by omega
        have q1 : (q : Int) < 81 := by omega
        clear hin
        cases hbit : n.testBit q with
        | true =>
          rw [hbit] at c5
          have hres : (l.all fun u => !n.testBit u.toNat) = false := by
            rw [List.all_eq_false]
            exact ⟨(q : Int), hmem.out, by simp [hbit]⟩
          have HRES := Lib.hid hres
          clear hres
          go_wp2
          go_ret
          rw [HRES.out]
          exact ⟨rfl, HB.out⟩
        | false =>
          rw [hbit] at c5
          have HBIT := Lib.hid hbit
          clear hbit
          go_wp2
          go_round
          case rel =>
            refine ⟨k + 1, by omega, by go_num, fun u hu => ?_⟩
            rw [HST.out] at hu
            rcases List.mem_append.1 hu with h1 | h1
            · exact HF.out u h1
            · rw [List.mem_singleton.1 h1]
              exact HBIT.out
          case measure => simp [intOf]; omega
      · obtain rfl : k = l.length := by omega
        have hres : (l.all fun u => !n.testBit u.toNat) = true := by
          rw [List.all_eq_true]
          intro u hu
          have := HF.out u (by rw [List.take_length]; exact hu)
          rw [this]
          rfl
        have HRES := Lib.hid hres
        clear hres
        go_wp2
        go_ret
        rw [HRES.out]
        exact ⟨rfl, HB.out⟩
end Go.Proofs.YtilhicohfnaclaaDoor
