/-
  The reference's Check of positions: the walk.
-/
import Derived.Test.YtmnkbckjhkegaaaDoorRefChk3
namespace Go.Proofs.YtmnkbckjhkegaaaDoor
open Go.RowKit
set_option linter.unusedVariables false
set_option linter.unusedSimpArgs false

theorem load_mid_want {P : Program} {ops : Array Oper} {rest : List Oper} {o : Oper} {a : Act} {w : World} {Q : Exit → Act → World → Prop} (hw : Region.wanted o (yielded ops a.tmps) = true) (ty : TypeId) (x : Operand) (ho : o.op = .load ty x)
    (b n : Nat) (hx : a.eval x = .pointer (some ⟨b, n, none⟩)) (cs : List Value) (d : TypeDesc) (hc : w.rangeAt b n cs) (hu : P.underlying ty = some d) (hd : d.isRow = true) (hi : (P.info? ty).map (·.size) = some cs.length)
    (h : wpList P ops Q rest (a.put o.dst (.agg cs.toArray)) w) : wpList P ops Q (o :: rest) a w :=
  wpList_step fun K hK => by
    rw [if_pos hw]
    exact wp_load_mid ty x ho b n hx cs d hc hu hd hi (hK _ _ h)
set_option maxRecDepth 100000 in
set_option maxHeartbeats 8000000 in
theorem refCheck_any (z : List Int) (hz : z.length = 98) (h8 : I8s z) (w : World) :
    Calls Tryd.prog 23 #[.agg (posC z).toArray] w fun e w' => e = .returned (.int .i64 (checkF z)) ∧ Below w.heap.size w w' := by
  have RK := Lib.hid (fun (x : Int) (h : -128 ≤ x ∧ x ≤ 127) W => refKind_any x W h.1 h.2)
  have AL := Lib.hid (fun x W => refAll_any z hz h8 x W)
  have CO := Lib.hid (fun k hk W => refCount_any z hz h8 k hk W)
  have TT := Lib.hid (fun k W => refTotal_any k W)
  have DE := Lib.hid (fun x q hx W => refDead_any x q hx W)
  have ON := Lib.hid (fun x f hf W => refOn_any z hz h8 x f hf W)
  have hkc := king_count z h8
  have HKC := Lib.hid (show True → _ from fun _ => hkc)
  have P0 := PosAt.new w z
  have c97 := P0.cell 97 (by omega)
  have HP := Lib.hid P0
  have HB := Lib.hid (ball (bref w) (.cells (posC z).toArray 28))
  have HINF := Lib.hid (show (Tryd.prog.info? 28).map (·.size) = some (posC z).length by rw [posC_len, hz]; exact infoPos)
  have H8 := Lib.hid h8
  have HZ := Lib.hid hz
  clear hz h8 P0 hkc
  by_cases hs0 : at8 z 97 = 0
  · have HS := Lib.hid (show at8 z 97 = 0 ∨ at8 z 97 = 1 from .inl hs0)
    rw [hs0] at c97
    clear hs0
    go_enter Tryd.func23, Tryd.ntmps23
    go_wp2
    generalize w.alloc (.cells (posC z).toArray 28) = w1 at *
    clear c97
    -- the squares
    go_loopw [3] (fun r wr => ∃ j : Nat, j ≤ 81 ∧ r = .int .i64 j ∧ (∀ q, q < j → knownQ z q = true) ∧ wr = w1) (fun r _ => 81 - (intOf r).toNat)
    case atStart => exact ⟨0, Nat.zero_le _, rfl, fun q hq => absurd hq (Nat.not_lt_zero _), rfl⟩
    case round =>
      obtain ⟨j, hj, rfl, hall, rfl⟩ := hrel
      have HALL := Lib.hid hall
      clear hall
      by_cases hlt : j < 81
      · have c0 := HP.out.cell j (by have := HZ.out; omega)
        have hv := H8.out.at j
        have hwv : wrap64 (at8 z j) = at8 z j := by unfold wrap64; omega
        have K := Lib.hid (fun W => RK.out (at8 z j) hv W)
        have hk : knownQ z j = (decide (at8 z j = 0) || !decide (kindF (at8 z j) = 0)) := rfl
        clear hv
        generalize at8 z j = x at c0 hwv K hk
        generalize kindF x = kx at K hk
        by_cases h0 : x = 0
        · have hk1 : knownQ z j = true := by rw [hk, decide_eq_true h0]; rfl
          have HN := Lib.hid (show ∀ q, q < j + 1 → knownQ z q = true from fun q hq => by
            by_cases e : q = j
            · rw [e]; exact hk1
            · exact HALL.out q (by omega))
          subst h0
          clear hk hk1 hwv
          go_wp2
          go_roundw
          case rel => exact ⟨j + 1, by omega, by go_num, HN.out, trivial⟩
          case measure => simp [intOf]; omega
        · have n0 : (x != 0) = true := by simpa using h0
          by_cases h1 : kx = 0
          · have HN := Lib.hid (show True → knownB z = false from fun _ => by
              unfold knownB
              rw [allB_no (f := knownQ z) (j := j) (by rw [hk, decide_eq_false h0, decide_eq_true h1]; rfl) hlt]
              rfl)
            have FIN := Lib.hid (show True → Ending.returned (Value.int .i64 55) = Ending.returned (Value.int .i64 (checkF z)) from fun _ => by rw [chk_known z HS.out (HN.out trivial)])
            subst h1
            clear hk h0
            go_wp2_with (go_at_call 11; rw [hwv]; refine (K.out _).mono ?_; rintro e w2 ⟨rfl, rfl⟩)
            go_ret
            exact ⟨FIN.out trivial, HB.out⟩
          · have hk1 : knownQ z j = true := by rw [hk, decide_eq_false h0, decide_eq_false h1]; rfl
            have n1 : (kx == 0) = false := by simpa using h1
            have HN := Lib.hid (show ∀ q, q < j + 1 → knownQ z q = true from fun q hq => by
              by_cases e : q = j
              · rw [e]; exact hk1
              · exact HALL.out q (by omega))
            clear hk hk1 h0 h1
            go_wp2_with (go_at_call 11; rw [hwv]; refine (K.out _).mono ?_; rintro e w2 ⟨rfl, rfl⟩)
            go_roundw
            case rel => exact ⟨j + 1, by omega, by go_num, HN.out, trivial⟩
            case measure => simp [intOf]; omega
      · obtain rfl : j = 81 := by omega
        clear hlt hj
        go_wp2
        -- the hands
        go_loopw [4, 5, 6] (fun r _ _ wr' => ∃ j : Nat, j ≤ 8 ∧ r = .int .i64 j ∧ (∀ i, i < j → knownH z i = true ∧ knownH z (8 + i) = true) ∧ wr' = wr) (fun r _ _ _ => 8 - (intOf r).toNat)
        case atStart => exact ⟨0, Nat.zero_le _, rfl, fun q hq => absurd hq (Nat.not_lt_zero _), rfl⟩
        case round =>
          obtain ⟨k, hk8, rfl, hallk, rfl⟩ := hrel
          have HALLK := Lib.hid hallk
          clear hallk
          by_cases hlt : k < 8
          · go_wp2
            go_loopw [5, 6] (fun r _ wr' => ∃ s : Nat, s ≤ 2 ∧ r = .int .i64 s ∧ (∀ i, i < s → knownH z (8 * i + k) = true) ∧ wr' = wr) (fun r _ _ => 2 - (intOf r).toNat)
            case atStart => exact ⟨0, Nat.zero_le _, rfl, fun q hq => absurd hq (Nat.not_lt_zero _), rfl⟩
            case round =>
              obtain ⟨s, hs2, rfl, halls, rfl⟩ := hrel
              have HALLS := Lib.hid halls
              clear halls
              by_cases hlts : s < 2
              · have c0 := HP.out.cell (81 + s * 8 + k) (by have := HZ.out; omega)
                have hk : knownH z (8 * s + k) = !(decide (at8 z (81 + (8 * s + k)) < 0) || (decide (k = 0) && !decide (at8 z (81 + (8 * s + k)) = 0))) := by
                  unfold knownH
                  rw [show (8 * s + k) % 8 = k by omega]
                rw [show 81 + s * 8 + k = 81 + (8 * s + k) by omega] at c0
                have c0' := c0
                rw [show 81 + (8 * s + k) = 81 + s * 8 + k by omega] at c0'
                rw [show at8 z (81 + s * 8 + k) = at8 z (81 + (8 * s + k)) by rw [show 81 + s * 8 + k = 81 + (8 * s + k) by omega]] at c0'
                clear c0
                generalize at8 z (81 + (8 * s + k)) = x at c0' hk
                by_cases hbad : x < 0 ∨ (k = 0 ∧ x ≠ 0)
                · have HN := Lib.hid (show True → knownB z = false from fun _ => by
                    unfold knownB
                    rw [allB_no (f := knownH z) (j := 8 * s + k) (by
                      rw [hk]
                      rcases hbad with h | ⟨h, h'⟩
                      · rw [decide_eq_true h]; rfl
                      · rw [decide_eq_true h, decide_eq_false h']; cases decide (x < 0) <;> rfl) (by omega), Bool.and_false])
                  have FIN := Lib.hid (show True → Ending.returned (Value.int .i64 55) = Ending.returned (Value.int .i64 (checkF z)) from fun _ => by rw [chk_known z HS.out (HN.out trivial)])
                  clear hk
                  by_cases h : x < 0
                  · clear hbad
                    go_wp2
                    go_ret
                    exact ⟨FIN.out trivial, HB.out⟩
                  · have hb2 := hbad.resolve_left h
                    have j0 : ((k : Int) == 0) = true := by simpa using hb2.1
                    have n0 : (x != 0) = true := by simpa using hb2.2
                    clear hbad hb2
                    go_wp2
                    go_ret
                    exact ⟨FIN.out trivial, HB.out⟩
                · have hk1 : knownH z (8 * s + k) = true := by
                    rw [hk, decide_eq_false (fun h => hbad (.inl h))]
                    by_cases h : k = 0
                    · rw [decide_eq_true h, decide_eq_true (show x = 0 by omega)]; rfl
                    · rw [decide_eq_false h]; rfl
                  have HN := Lib.hid (show ∀ i, i < s + 1 → knownH z (8 * i + k) = true from fun i hi => by
                    by_cases e : i = s
                    · rw [e]; exact hk1
                    · exact HALLS.out i (by omega))
                  clear hk hk1
                  have nb : ¬ x < 0 := fun h => hbad (.inl h)
                  by_cases h : k = 0
                  · have hx0 : x = 0 := by omega
                    have j0 : ((k : Int) == 0) = true := by simpa using h
                    have n0 : (x != 0) = false := by simpa using hx0
                    clear hbad h hx0
                    go_wp2
                    go_roundw
                    case rel => exact ⟨s + 1, by omega, by go_num, HN.out, trivial⟩
                    case measure => simp [intOf]; omega
                  · have nj : ((k : Int) == 0) = false := by simpa using h
                    clear hbad h
                    go_wp2
                    go_roundw
                    case rel => exact ⟨s + 1, by omega, by go_num, HN.out, trivial⟩
                    case measure => simp [intOf]; omega
              · obtain rfl : s = 2 := by omega
                have HN := Lib.hid (show ∀ i, i < k + 1 → knownH z i = true ∧ knownH z (8 + i) = true from fun i hi => by
                  by_cases e : i = k
                  · subst e
                    have a0 := HALLS.out 0 (by omega)
                    have a1 := HALLS.out 1 (by omega)
                    rw [show 8 * 0 + i = i by omega] at a0
                    rw [show 8 * 1 + i = 8 + i by omega] at a1
                    exact ⟨a0, a1⟩
                  · exact HALLK.out i (by omega))
                go_wp2
                go_roundw
                case rel => exact ⟨k + 1, by omega, by go_num, HN.out, trivial⟩
                case measure => simp [intOf]; omega
          · obtain rfl : k = 8 := by omega
            have HKN := Lib.hid (show True → knownB z = true from fun _ => known_of z HALL.out HALLK.out)
            have HCL := Lib.hid (known_clean z HALL.out)
            clear hlt hk8 HALL HALLK
            -- the kings
            have A8 := Lib.hid (fun W => AL.out 8 W)
            have A24 := Lib.hid (fun W => AL.out 24 W)
            have HK2 := Lib.hid (show True → ((cntN z (eqB 8) 81 : Int) = FH z 16 0) ∧ ((cntN z (eqB 24) 81 : Int) = FH z 16 1) from fun _ => ⟨(HKC.out trivial).1.symm, (HKC.out trivial).2.symm⟩)
            rw [(HK2.out trivial).1] at A8
            rw [(HK2.out trivial).2] at A24
            generalize hk0 : FH z 16 0 = k0 at A8
            generalize hk1 : FH z 16 1 = k1 at A24
            have HK3 := Lib.hid (show True → FH z 16 0 = k0 ∧ FH z 16 1 = k1 from fun _ => ⟨hk0, hk1⟩)
            clear hk0 hk1 HK2
            by_cases hk0 : k0 = 1
            · by_cases hk1 : k1 = 1
              · have HKK := Lib.hid (show True → FH z 16 0 = 1 ∧ FH z 16 1 = 1 from fun _ => ⟨(HK3.out trivial).1.trans hk0, (HK3.out trivial).2.trans hk1⟩)
                subst hk0 hk1
                go_wp2_with (first
                  | (refine wpList_load_mid rfl 28 _ rfl w.heap.size 0 rfl (posC z) _ HP.out.range Tryd.underlying28 rfl HINF.out ?_)
                  | (go_at_call_of 44 (Value.int .i64 8); refine (A8.out _).mono ?_; rintro e w2 ⟨rfl, hb⟩; have HP := Lib.hid (HP.out.grow hb); have HB := Lib.hid (bthen HB.out hb); clear hb)
                  | (refine load_mid_want (by rfl) 28 _ rfl w.heap.size 0 rfl (posC z) _ HP.out.range Tryd.underlying28 rfl HINF.out ?_)
                  | (go_at_call_of 44 (Value.int .i64 24); refine (A24.out _).mono ?_; rintro e w3 ⟨rfl, hb⟩; have HP := Lib.hid (HP.out.grow hb); have HB := Lib.hid (bthen HB.out hb); clear hb))
                clear A8 A24
                -- the counts
                go_loopw [7] (fun r wr => ∃ j : Nat, 1 ≤ j ∧ j ≤ 8 ∧ r = .int .i64 j ∧ (∀ i, 1 ≤ i → i < j → fewB (FH z 16) i = true) ∧ Below w3.heap.size w3 wr) (fun r _ => 8 - (intOf r).toNat)
                case atStart => exact ⟨1, Nat.le_refl _, by omega, rfl, fun q hq h => absurd hq (by omega), bref _⟩
                case round =>
                  obtain ⟨j, hj1, hj, rfl, hall, hW⟩ := hrel
                  have HALLC := Lib.hid hall
                  have HP := Lib.hid (HP.out.grow hW)
                  have HB := Lib.hid (bthen HB.out hW)
                  have HWC := Lib.hid hW
                  clear hall hW
                  by_cases hlt : j < 8
                  · have COj := Lib.hid (fun W => CO.out j ⟨hj1, by omega⟩ W)
                    rw [← kind_count z H8.out j ⟨hj1, by omega⟩] at COj
                    have TTj := Lib.hid (fun W => TT.out j W)
                    have hf : fewB (FH z 16) j = decide (FH z 16 (2 + j) ≤ totalF j) := rfl
                    generalize FH z 16 (2 + j) = x at COj hf
                    generalize totalF j = t at TTj hf
                    by_cases h : x ≤ t
                    · have HN := Lib.hid (show ∀ i, 1 ≤ i → i < j + 1 → fewB (FH z 16) i = true from fun i hi1 hi => by
                        by_cases e : i = j
                        · rw [e, hf]; exact decide_eq_true h
                        · exact HALLC.out i hi1 (by omega))
                      have c1 : ¬ t < x := by omega
                      clear hf h
                      go_wp2_with (first
                        | (refine wpList_load_mid rfl 28 _ rfl w.heap.size 0 rfl (posC z) _ HP.out.range Tryd.underlying28 rfl HINF.out ?_)
                        | (go_at_call 45; refine (COj.out _).mono ?_; rintro e w4 ⟨rfl, hb4⟩)
                        | (go_at_call 46; refine (TTj.out _).mono ?_; rintro e w5 ⟨rfl, hb5⟩))
                      go_roundw
                      case rel => exact ⟨j + 1, by omega, by omega, by go_num, HN.out, bthen (bthen HWC.out hb4) hb5⟩
                      case measure => simp [intOf]; omega
                    · have hbad : allB (fewB (FH z 16)) 9 = false := allB_no (by rw [hf]; exact decide_eq_false h) (by omega)
                      have FIN := Lib.hid (show True → Ending.returned (Value.int .i64 51) = Ending.returned (Value.int .i64 (checkF z)) from fun _ => by rw [chk_count z HS.out (HKN.out trivial) (HKK.out trivial) hbad])
                      have c1 : t < x := by omega
                      clear hf h hbad
                      go_wp2_with (first
                        | (refine wpList_load_mid rfl 28 _ rfl w.heap.size 0 rfl (posC z) _ HP.out.range Tryd.underlying28 rfl HINF.out ?_)
                        | (go_at_call 45; refine (COj.out _).mono ?_; rintro e w4 ⟨rfl, hb4⟩)
                        | (go_at_call 46; refine (TTj.out _).mono ?_; rintro e w5 ⟨rfl, hb5⟩))
                      go_ret
                      exact ⟨FIN.out trivial, bthen (bthen HB.out hb4) hb5⟩
                  · obtain rfl : j = 8 := by omega
                    have HFW := Lib.hid (show True → allB (fewB (FH z 16)) 9 = true from fun _ => few_of z H8.out (HKN.out trivial) (HKK.out trivial) HALLC.out)
                    clear hlt hj hj1 HALLC HWC
                    go_wp2
                    -- the dead
                    try rw [show ((8 : Nat) : Int) = 8 from rfl]
                    go_loopw [8] (fun r wr' => ∃ j : Nat, j ≤ 81 ∧ r = .int .i64 j ∧ (∀ q, q < j → aliveQ z q = true) ∧ wr' = wr) (fun r _ => 81 - (intOf r).toNat)
                    case atStart => exact ⟨0, Nat.zero_le _, rfl, fun q hq => absurd hq (Nat.not_lt_zero _), rfl⟩
                    case round =>
                      obtain ⟨j, hj, rfl, hall, rfl⟩ := hrel
                      have HALLD := Lib.hid hall
                      clear hall
                      by_cases hlt : j < 81
                      · have c0 := HP.out.cell j (by have := HZ.out; omega)
                        have hv := H8.out.at j
                        have hwv : wrap64 (at8 z j) = at8 z j := by unfold wrap64; omega
                        have DEj := Lib.hid (fun W => DE.out (at8 z j) j hv W)
                        have hk : aliveQ z j = !deadF (at8 z j) j := rfl
                        clear hv
                        generalize deadF (at8 z j) j = d at DEj hk
                        generalize at8 z j = x at c0 hwv DEj
                        cases d with
                        | true =>
                          have hbad : allB (aliveQ z) 81 = false := allB_no hk hlt
                          have FIN := Lib.hid (show True → Ending.returned (Value.int .i64 52) = Ending.returned (Value.int .i64 (checkF z)) from fun _ => by rw [chk_dead z HS.out (HKN.out trivial) (HKK.out trivial) (HFW.out trivial) hbad])
                          clear hk hbad
                          go_wp2_with (go_at_call 47; rw [hwv]; refine (DEj.out _).mono ?_; rintro e w4 ⟨rfl, rfl⟩)
                          go_ret
                          exact ⟨FIN.out trivial, HB.out⟩
                        | false =>
                          have HN := Lib.hid (show ∀ q, q < j + 1 → aliveQ z q = true from fun q hq => by
                            by_cases e : q = j
                            · rw [e, hk]; rfl
                            · exact HALLD.out q (by omega))
                          clear hk
                          go_wp2_with (go_at_call 47; rw [hwv]; refine (DEj.out _).mono ?_; rintro e w4 ⟨rfl, rfl⟩)
                          go_roundw
                          case rel => exact ⟨j + 1, by omega, by go_num, HN.out, trivial⟩
                          case measure => simp [intOf]; omega
                      · obtain rfl : j = 81 := by omega
                        have HAL := Lib.hid (show True → allB (aliveQ z) 81 = true from fun _ => (allB_iff _ _).2 HALLD.out)
                        clear hlt hj HALLD
                        go_wp2
                        -- the pawns
                        generalize hwr : wr = wp at *
                        clear hwr
                        try rw [show ((81 : Nat) : Int) = 81 from rfl]
                        go_loopw [9] (fun r wr' => ∃ j : Nat, j ≤ 9 ∧ r = .int .i64 j ∧ (∀ f, f < j → onI z 1 f 9 ≤ 1 ∧ onI z 17 f 9 ≤ 1) ∧ Below wp.heap.size wp wr') (fun r _ => 9 - (intOf r).toNat)
                        case atStart => exact ⟨0, Nat.zero_le _, rfl, fun q hq => absurd hq (Nat.not_lt_zero _), bref _⟩
                        case round =>
                          obtain ⟨j, hj, rfl, hall, hW⟩ := hrel
                          have HALLE := Lib.hid hall
                          have HP := Lib.hid (HP.out.grow hW)
                          have HB := Lib.hid (bthen HB.out hW)
                          have HWE := Lib.hid hW
                          clear hall hW
                          by_cases hlt : j < 9
                          · have ON1 := Lib.hid (fun W => ON.out 1 j hlt W)
                            have ON17 := Lib.hid (fun W => ON.out 17 j hlt W)
                            have HNZ := Lib.hid (show True → newZ z = z from fun _ => newZ_self z HZ.out HCL.out)
                            have hno := one_no z j hlt
                            generalize ha : onI z 1 j 9 = a at ON1 hno
                            generalize hb : onI z 17 j 9 = b at ON17 hno
                            by_cases h1 : 1 < a
                            · have hbad : allB (oneQ (newZ z)) 18 = false := by rw [HNZ.out trivial]; exact hno (.inl h1)
                              have FIN := Lib.hid (show True → Ending.returned (Value.int .i64 53) = Ending.returned (Value.int .i64 (checkF z)) from fun _ => by rw [chk_nifu z HS.out (HKN.out trivial) (HKK.out trivial) (HFW.out trivial) (HAL.out trivial) hbad])
                              clear hbad hno ha hb
                              go_wp2_with (first
                                | (refine wpList_load_mid rfl 28 _ rfl w.heap.size 0 rfl (posC z) _ HP.out.range Tryd.underlying28 rfl HINF.out ?_)
                                | (go_at_call_of 48 (Value.int .i64 1); refine (ON1.out _).mono ?_; rintro e w4 ⟨rfl, hb4⟩))
                              go_ret
                              exact ⟨FIN.out trivial, bthen HB.out hb4⟩
                            · have d1 : decide (1 < a) = false := decide_eq_false h1
                              by_cases h17 : 1 < b
                              · have hbad : allB (oneQ (newZ z)) 18 = false := by rw [HNZ.out trivial]; exact hno (.inr h17)
                                have FIN := Lib.hid (show True → Ending.returned (Value.int .i64 53) = Ending.returned (Value.int .i64 (checkF z)) from fun _ => by rw [chk_nifu z HS.out (HKN.out trivial) (HKK.out trivial) (HFW.out trivial) (HAL.out trivial) hbad])
                                clear hbad hno ha hb
                                go_wp2_with (first
                                  | (refine wpList_load_mid rfl 28 _ rfl w.heap.size 0 rfl (posC z) _ HP.out.range Tryd.underlying28 rfl HINF.out ?_)
                                  | (go_at_call_of 48 (Value.int .i64 17); refine (ON17.out _).mono ?_; rintro e w5 ⟨rfl, hb5⟩)
                                  | (go_at_call_of 48 (Value.int .i64 1); refine (ON1.out _).mono ?_; rintro e w4 ⟨rfl, hb⟩; have HP := Lib.hid (HP.out.grow hb); have HB := Lib.hid (bthen HB.out hb); clear hb)
                                  | (refine load_mid_want (by rfl) 28 _ rfl w.heap.size 0 rfl (posC z) _ HP.out.range Tryd.underlying28 rfl HINF.out ?_))
                                go_ret
                                exact ⟨FIN.out trivial, bthen HB.out hb5⟩
                              · have HN := Lib.hid (show ∀ f, f < j + 1 → onI z 1 f 9 ≤ 1 ∧ onI z 17 f 9 ≤ 1 from fun f hf => by
                                  by_cases e : f = j
                                  · subst e; rw [ha, hb]; omega
                                  · exact HALLE.out f (by omega))
                                clear hno ha hb
                                go_wp2_with (first
                                  | (refine wpList_load_mid rfl 28 _ rfl w.heap.size 0 rfl (posC z) _ HP.out.range Tryd.underlying28 rfl HINF.out ?_)
                                  | (go_at_call_of 48 (Value.int .i64 17); refine (ON17.out _).mono ?_; rintro e w5 ⟨rfl, hb5⟩; have HWE := Lib.hid (bthen HWE.out hb5))
                                  | (go_at_call_of 48 (Value.int .i64 1); refine (ON1.out _).mono ?_; rintro e w4 ⟨rfl, hb⟩; have HP := Lib.hid (HP.out.grow hb); have HWE := Lib.hid (bthen HWE.out hb); clear hb)
                                  | (refine load_mid_want (by rfl) 28 _ rfl w.heap.size 0 rfl (posC z) _ HP.out.range Tryd.underlying28 rfl HINF.out ?_))
                                go_roundw
                                case rel => exact ⟨j + 1, by omega, by go_num, HN.out, HWE.out⟩
                                case measure => simp [intOf]; omega
                          · obtain rfl : j = 9 := by omega
                            have FIN := Lib.hid (show True → Ending.returned (Value.int .i64 0) = Ending.returned (Value.int .i64 (checkF z)) from fun _ => by rw [chk_ok z HS.out (HKN.out trivial) (HKK.out trivial) (HFW.out trivial) (HAL.out trivial) (by rw [newZ_self z HZ.out HCL.out]; exact one_of z HALLE.out)])
                            go_wp2
                            go_ret
                            exact ⟨FIN.out trivial, HB.out⟩
              · have FIN := Lib.hid (show True → Ending.returned (Value.int .i64 50) = Ending.returned (Value.int .i64 (checkF z)) from fun _ => by rw [chk_kings z HS.out (HKN.out trivial) (fun h => hk1 ((HK3.out trivial).2.symm.trans h.2))])
                have n1 : (k1 != 1) = true := by simpa using hk1
                subst hk0
                clear hk1
                go_wp2_with (first
                  | (refine wpList_load_mid rfl 28 _ rfl w.heap.size 0 rfl (posC z) _ HP.out.range Tryd.underlying28 rfl HINF.out ?_)
                  | (go_at_call_of 44 (Value.int .i64 8); refine (A8.out _).mono ?_; rintro e w2 ⟨rfl, hb⟩; have HP := Lib.hid (HP.out.grow hb); have HB := Lib.hid (bthen HB.out hb); clear hb)
                  | (refine load_mid_want (by rfl) 28 _ rfl w.heap.size 0 rfl (posC z) _ HP.out.range Tryd.underlying28 rfl HINF.out ?_)
                  | (go_at_call_of 44 (Value.int .i64 24); refine (A24.out _).mono ?_; rintro e w3 ⟨rfl, hb⟩; have HP := Lib.hid (HP.out.grow hb); have HB := Lib.hid (bthen HB.out hb); clear hb))
                go_ret
                exact ⟨FIN.out trivial, HB.out⟩
            · have FIN := Lib.hid (show True → Ending.returned (Value.int .i64 50) = Ending.returned (Value.int .i64 (checkF z)) from fun _ => by rw [chk_kings z HS.out (HKN.out trivial) (fun h => hk0 ((HK3.out trivial).1.symm.trans h.1))])
              have n0 : (k0 != 1) = true := by simpa using hk0
              clear hk0
              go_wp2_with (first
                  | (refine wpList_load_mid rfl 28 _ rfl w.heap.size 0 rfl (posC z) _ HP.out.range Tryd.underlying28 rfl HINF.out ?_)
                  | (go_at_call_of 44 (Value.int .i64 8); refine (A8.out _).mono ?_; rintro e w2 ⟨rfl, hb⟩; have HP := Lib.hid (HP.out.grow hb); have HB := Lib.hid (bthen HB.out hb); clear hb)
                  | (refine load_mid_want (by rfl) 28 _ rfl w.heap.size 0 rfl (posC z) _ HP.out.range Tryd.underlying28 rfl HINF.out ?_)
                  | (go_at_call_of 44 (Value.int .i64 24); refine (A24.out _).mono ?_; rintro e w3 ⟨rfl, hb⟩; have HP := Lib.hid (HP.out.grow hb); have HB := Lib.hid (bthen HB.out hb); clear hb))
              go_ret
              exact ⟨FIN.out trivial, HB.out⟩
  · by_cases hs1 : at8 z 97 = 1
    · have HS := Lib.hid (show at8 z 97 = 0 ∨ at8 z 97 = 1 from .inr hs1)
      rw [hs1] at c97
      clear hs0 hs1
      go_enter Tryd.func23, Tryd.ntmps23
      go_wp2
      generalize w.alloc (.cells (posC z).toArray 28) = w1 at *
      clear c97
      -- the squares
      go_loopw [3] (fun r wr => ∃ j : Nat, j ≤ 81 ∧ r = .int .i64 j ∧ (∀ q, q < j → knownQ z q = true) ∧ wr = w1) (fun r _ => 81 - (intOf r).toNat)
      case atStart => exact ⟨0, Nat.zero_le _, rfl, fun q hq => absurd hq (Nat.not_lt_zero _), rfl⟩
      case round =>
        obtain ⟨j, hj, rfl, hall, rfl⟩ := hrel
        have HALL := Lib.hid hall
        clear hall
        by_cases hlt : j < 81
        · have c0 := HP.out.cell j (by have := HZ.out; omega)
          have hv := H8.out.at j
          have hwv : wrap64 (at8 z j) = at8 z j := by unfold wrap64; omega
          have K := Lib.hid (fun W => RK.out (at8 z j) hv W)
          have hk : knownQ z j = (decide (at8 z j = 0) || !decide (kindF (at8 z j) = 0)) := rfl
          clear hv
          generalize at8 z j = x at c0 hwv K hk
          generalize kindF x = kx at K hk
          by_cases h0 : x = 0
          · have hk1 : knownQ z j = true := by rw [hk, decide_eq_true h0]; rfl
            have HN := Lib.hid (show ∀ q, q < j + 1 → knownQ z q = true from fun q hq => by
              by_cases e : q = j
              · rw [e]; exact hk1
              · exact HALL.out q (by omega))
            subst h0
            clear hk hk1 hwv
            go_wp2
            go_roundw
            case rel => exact ⟨j + 1, by omega, by go_num, HN.out, trivial⟩
            case measure => simp [intOf]; omega
          · have n0 : (x != 0) = true := by simpa using h0
            by_cases h1 : kx = 0
            · have HN := Lib.hid (show True → knownB z = false from fun _ => by
                unfold knownB
                rw [allB_no (f := knownQ z) (j := j) (by rw [hk, decide_eq_false h0, decide_eq_true h1]; rfl) hlt]
                rfl)
              have FIN := Lib.hid (show True → Ending.returned (Value.int .i64 55) = Ending.returned (Value.int .i64 (checkF z)) from fun _ => by rw [chk_known z HS.out (HN.out trivial)])
              subst h1
              clear hk h0
              go_wp2_with (go_at_call 11; rw [hwv]; refine (K.out _).mono ?_; rintro e w2 ⟨rfl, rfl⟩)
              go_ret
              exact ⟨FIN.out trivial, HB.out⟩
            · have hk1 : knownQ z j = true := by rw [hk, decide_eq_false h0, decide_eq_false h1]; rfl
              have n1 : (kx == 0) = false := by simpa using h1
              have HN := Lib.hid (show ∀ q, q < j + 1 → knownQ z q = true from fun q hq => by
                by_cases e : q = j
                · rw [e]; exact hk1
                · exact HALL.out q (by omega))
              clear hk hk1 h0 h1
              go_wp2_with (go_at_call 11; rw [hwv]; refine (K.out _).mono ?_; rintro e w2 ⟨rfl, rfl⟩)
              go_roundw
              case rel => exact ⟨j + 1, by omega, by go_num, HN.out, trivial⟩
              case measure => simp [intOf]; omega
        · obtain rfl : j = 81 := by omega
          clear hlt hj
          go_wp2
          -- the hands
          go_loopw [4, 5, 6] (fun r _ _ wr' => ∃ j : Nat, j ≤ 8 ∧ r = .int .i64 j ∧ (∀ i, i < j → knownH z i = true ∧ knownH z (8 + i) = true) ∧ wr' = wr) (fun r _ _ _ => 8 - (intOf r).toNat)
          case atStart => exact ⟨0, Nat.zero_le _, rfl, fun q hq => absurd hq (Nat.not_lt_zero _), rfl⟩
          case round =>
            obtain ⟨k, hk8, rfl, hallk, rfl⟩ := hrel
            have HALLK := Lib.hid hallk
            clear hallk
            by_cases hlt : k < 8
            · go_wp2
              go_loopw [5, 6] (fun r _ wr' => ∃ s : Nat, s ≤ 2 ∧ r = .int .i64 s ∧ (∀ i, i < s → knownH z (8 * i + k) = true) ∧ wr' = wr) (fun r _ _ => 2 - (intOf r).toNat)
              case atStart => exact ⟨0, Nat.zero_le _, rfl, fun q hq => absurd hq (Nat.not_lt_zero _), rfl⟩
              case round =>
                obtain ⟨s, hs2, rfl, halls, rfl⟩ := hrel
                have HALLS := Lib.hid halls
                clear halls
                by_cases hlts : s < 2
                · have c0 := HP.out.cell (81 + s * 8 + k) (by have := HZ.out; omega)
                  have hk : knownH z (8 * s + k) = !(decide (at8 z (81 + (8 * s + k)) < 0) || (decide (k = 0) && !decide (at8 z (81 + (8 * s + k)) = 0))) := by
                    unfold knownH
                    rw [show (8 * s + k) % 8 = k by omega]
                  rw [show 81 + s * 8 + k = 81 + (8 * s + k) by omega] at c0
                  have c0' := c0
                  rw [show 81 + (8 * s + k) = 81 + s * 8 + k by omega] at c0'
                  rw [show at8 z (81 + s * 8 + k) = at8 z (81 + (8 * s + k)) by rw [show 81 + s * 8 + k = 81 + (8 * s + k) by omega]] at c0'
                  clear c0
                  generalize at8 z (81 + (8 * s + k)) = x at c0' hk
                  by_cases hbad : x < 0 ∨ (k = 0 ∧ x ≠ 0)
                  · have HN := Lib.hid (show True → knownB z = false from fun _ => by
                      unfold knownB
                      rw [allB_no (f := knownH z) (j := 8 * s + k) (by
                        rw [hk]
                        rcases hbad with h | ⟨h, h'⟩
                        · rw [decide_eq_true h]; rfl
                        · rw [decide_eq_true h, decide_eq_false h']; cases decide (x < 0) <;> rfl) (by omega), Bool.and_false])
                    have FIN := Lib.hid (show True → Ending.returned (Value.int .i64 55) = Ending.returned (Value.int .i64 (checkF z)) from fun _ => by rw [chk_known z HS.out (HN.out trivial)])
                    clear hk
                    by_cases h : x < 0
                    · clear hbad
                      go_wp2
                      go_ret
                      exact ⟨FIN.out trivial, HB.out⟩
                    · have hb2 := hbad.resolve_left h
                      have j0 : ((k : Int) == 0) = true := by simpa using hb2.1
                      have n0 : (x != 0) = true := by simpa using hb2.2
                      clear hbad hb2
                      go_wp2
                      go_ret
                      exact ⟨FIN.out trivial, HB.out⟩
                  · have hk1 : knownH z (8 * s + k) = true := by
                      rw [hk, decide_eq_false (fun h => hbad (.inl h))]
                      by_cases h : k = 0
                      · rw [decide_eq_true h, decide_eq_true (show x = 0 by omega)]; rfl
                      · rw [decide_eq_false h]; rfl
                    have HN := Lib.hid (show ∀ i, i < s + 1 → knownH z (8 * i + k) = true from fun i hi => by
                      by_cases e : i = s
                      · rw [e]; exact hk1
                      · exact HALLS.out i (by omega))
                    clear hk hk1
                    have nb : ¬ x < 0 := fun h => hbad (.inl h)
                    by_cases h : k = 0
                    · have hx0 : x = 0 := by omega
                      have j0 : ((k : Int) == 0) = true := by simpa using h
                      have n0 : (x != 0) = false := by simpa using hx0
                      clear hbad h hx0
                      go_wp2
                      go_roundw
                      case rel => exact ⟨s + 1, by omega, by go_num, HN.out, trivial⟩
                      case measure => simp [intOf]; omega
                    · have nj : ((k : Int) == 0) = false := by simpa using h
                      clear hbad h
                      go_wp2
                      go_roundw
                      case rel => exact ⟨s + 1, by omega, by go_num, HN.out, trivial⟩
                      case measure => simp [intOf]; omega
                · obtain rfl : s = 2 := by omega
                  have HN := Lib.hid (show ∀ i, i < k + 1 → knownH z i = true ∧ knownH z (8 + i) = true from fun i hi => by
                    by_cases e : i = k
                    · subst e
                      have a0 := HALLS.out 0 (by omega)
                      have a1 := HALLS.out 1 (by omega)
                      rw [show 8 * 0 + i = i by omega] at a0
                      rw [show 8 * 1 + i = 8 + i by omega] at a1
                      exact ⟨a0, a1⟩
                    · exact HALLK.out i (by omega))
                  go_wp2
                  go_roundw
                  case rel => exact ⟨k + 1, by omega, by go_num, HN.out, trivial⟩
                  case measure => simp [intOf]; omega
            · obtain rfl : k = 8 := by omega
              have HKN := Lib.hid (show True → knownB z = true from fun _ => known_of z HALL.out HALLK.out)
              have HCL := Lib.hid (known_clean z HALL.out)
              clear hlt hk8 HALL HALLK
              -- the kings
              have A8 := Lib.hid (fun W => AL.out 8 W)
              have A24 := Lib.hid (fun W => AL.out 24 W)
              have HK2 := Lib.hid (show True → ((cntN z (eqB 8) 81 : Int) = FH z 16 0) ∧ ((cntN z (eqB 24) 81 : Int) = FH z 16 1) from fun _ => ⟨(HKC.out trivial).1.symm, (HKC.out trivial).2.symm⟩)
              rw [(HK2.out trivial).1] at A8
              rw [(HK2.out trivial).2] at A24
              generalize hk0 : FH z 16 0 = k0 at A8
              generalize hk1 : FH z 16 1 = k1 at A24
              have HK3 := Lib.hid (show True → FH z 16 0 = k0 ∧ FH z 16 1 = k1 from fun _ => ⟨hk0, hk1⟩)
              clear hk0 hk1 HK2
              by_cases hk0 : k0 = 1
              · by_cases hk1 : k1 = 1
                · have HKK := Lib.hid (show True → FH z 16 0 = 1 ∧ FH z 16 1 = 1 from fun _ => ⟨(HK3.out trivial).1.trans hk0, (HK3.out trivial).2.trans hk1⟩)
                  subst hk0 hk1
                  go_wp2_with (first
                    | (refine wpList_load_mid rfl 28 _ rfl w.heap.size 0 rfl (posC z) _ HP.out.range Tryd.underlying28 rfl HINF.out ?_)
                    | (go_at_call_of 44 (Value.int .i64 8); refine (A8.out _).mono ?_; rintro e w2 ⟨rfl, hb⟩; have HP := Lib.hid (HP.out.grow hb); have HB := Lib.hid (bthen HB.out hb); clear hb)
                    | (refine load_mid_want (by rfl) 28 _ rfl w.heap.size 0 rfl (posC z) _ HP.out.range Tryd.underlying28 rfl HINF.out ?_)
                    | (go_at_call_of 44 (Value.int .i64 24); refine (A24.out _).mono ?_; rintro e w3 ⟨rfl, hb⟩; have HP := Lib.hid (HP.out.grow hb); have HB := Lib.hid (bthen HB.out hb); clear hb))
                  clear A8 A24
                  -- the counts
                  go_loopw [7] (fun r wr => ∃ j : Nat, 1 ≤ j ∧ j ≤ 8 ∧ r = .int .i64 j ∧ (∀ i, 1 ≤ i → i < j → fewB (FH z 16) i = true) ∧ Below w3.heap.size w3 wr) (fun r _ => 8 - (intOf r).toNat)
                  case atStart => exact ⟨1, Nat.le_refl _, by omega, rfl, fun q hq h => absurd hq (by omega), bref _⟩
                  case round =>
                    obtain ⟨j, hj1, hj, rfl, hall, hW⟩ := hrel
                    have HALLC := Lib.hid hall
                    have HP := Lib.hid (HP.out.grow hW)
                    have HB := Lib.hid (bthen HB.out hW)
                    have HWC := Lib.hid hW
                    clear hall hW
                    by_cases hlt : j < 8
                    · have COj := Lib.hid (fun W => CO.out j ⟨hj1, by omega⟩ W)
                      rw [← kind_count z H8.out j ⟨hj1, by omega⟩] at COj
                      have TTj := Lib.hid (fun W => TT.out j W)
                      have hf : fewB (FH z 16) j = decide (FH z 16 (2 + j) ≤ totalF j) := rfl
                      generalize FH z 16 (2 + j) = x at COj hf
                      generalize totalF j = t at TTj hf
                      by_cases h : x ≤ t
                      · have HN := Lib.hid (show ∀ i, 1 ≤ i → i < j + 1 → fewB (FH z 16) i = true from fun i hi1 hi => by
                          by_cases e : i = j
                          · rw [e, hf]; exact decide_eq_true h
                          · exact HALLC.out i hi1 (by omega))
                        have c1 : ¬ t < x := by omega
                        clear hf h
                        go_wp2_with (first
                          | (refine wpList_load_mid rfl 28 _ rfl w.heap.size 0 rfl (posC z) _ HP.out.range Tryd.underlying28 rfl HINF.out ?_)
                          | (go_at_call 45; refine (COj.out _).mono ?_; rintro e w4 ⟨rfl, hb4⟩)
                          | (go_at_call 46; refine (TTj.out _).mono ?_; rintro e w5 ⟨rfl, hb5⟩))
                        go_roundw
                        case rel => exact ⟨j + 1, by omega, by omega, by go_num, HN.out, bthen (bthen HWC.out hb4) hb5⟩
                        case measure => simp [intOf]; omega
                      · have hbad : allB (fewB (FH z 16)) 9 = false := allB_no (by rw [hf]; exact decide_eq_false h) (by omega)
                        have FIN := Lib.hid (show True → Ending.returned (Value.int .i64 51) = Ending.returned (Value.int .i64 (checkF z)) from fun _ => by rw [chk_count z HS.out (HKN.out trivial) (HKK.out trivial) hbad])
                        have c1 : t < x := by omega
                        clear hf h hbad
                        go_wp2_with (first
                          | (refine wpList_load_mid rfl 28 _ rfl w.heap.size 0 rfl (posC z) _ HP.out.range Tryd.underlying28 rfl HINF.out ?_)
                          | (go_at_call 45; refine (COj.out _).mono ?_; rintro e w4 ⟨rfl, hb4⟩)
                          | (go_at_call 46; refine (TTj.out _).mono ?_; rintro e w5 ⟨rfl, hb5⟩))
                        go_ret
                        exact ⟨FIN.out trivial, bthen (bthen HB.out hb4) hb5⟩
                    · obtain rfl : j = 8 := by omega
                      have HFW := Lib.hid (show True → allB (fewB (FH z 16)) 9 = true from fun _ => few_of z H8.out (HKN.out trivial) (HKK.out trivial) HALLC.out)
                      clear hlt hj hj1 HALLC HWC
                      go_wp2
                      -- the dead
                      try rw [show ((8 : Nat) : Int) = 8 from rfl]
                      go_loopw [8] (fun r wr' => ∃ j : Nat, j ≤ 81 ∧ r = .int .i64 j ∧ (∀ q, q < j → aliveQ z q = true) ∧ wr' = wr) (fun r _ => 81 - (intOf r).toNat)
                      case atStart => exact ⟨0, Nat.zero_le _, rfl, fun q hq => absurd hq (Nat.not_lt_zero _), rfl⟩
                      case round =>
                        obtain ⟨j, hj, rfl, hall, rfl⟩ := hrel
                        have HALLD := Lib.hid hall
                        clear hall
                        by_cases hlt : j < 81
                        · have c0 := HP.out.cell j (by have := HZ.out; omega)
                          have hv := H8.out.at j
                          have hwv : wrap64 (at8 z j) = at8 z j := by unfold wrap64; omega
                          have DEj := Lib.hid (fun W => DE.out (at8 z j) j hv W)
                          have hk : aliveQ z j = !deadF (at8 z j) j := rfl
                          clear hv
                          generalize deadF (at8 z j) j = d at DEj hk
                          generalize at8 z j = x at c0 hwv DEj
                          cases d with
                          | true =>
                            have hbad : allB (aliveQ z) 81 = false := allB_no hk hlt
                            have FIN := Lib.hid (show True → Ending.returned (Value.int .i64 52) = Ending.returned (Value.int .i64 (checkF z)) from fun _ => by rw [chk_dead z HS.out (HKN.out trivial) (HKK.out trivial) (HFW.out trivial) hbad])
                            clear hk hbad
                            go_wp2_with (go_at_call 47; rw [hwv]; refine (DEj.out _).mono ?_; rintro e w4 ⟨rfl, rfl⟩)
                            go_ret
                            exact ⟨FIN.out trivial, HB.out⟩
                          | false =>
                            have HN := Lib.hid (show ∀ q, q < j + 1 → aliveQ z q = true from fun q hq => by
                              by_cases e : q = j
                              · rw [e, hk]; rfl
                              · exact HALLD.out q (by omega))
                            clear hk
                            go_wp2_with (go_at_call 47; rw [hwv]; refine (DEj.out _).mono ?_; rintro e w4 ⟨rfl, rfl⟩)
                            go_roundw
                            case rel => exact ⟨j + 1, by omega, by go_num, HN.out, trivial⟩
                            case measure => simp [intOf]; omega
                        · obtain rfl : j = 81 := by omega
                          have HAL := Lib.hid (show True → allB (aliveQ z) 81 = true from fun _ => (allB_iff _ _).2 HALLD.out)
                          clear hlt hj HALLD
                          go_wp2
                          -- the pawns
                          generalize hwr : wr = wp at *
                          clear hwr
                          try rw [show ((81 : Nat) : Int) = 81 from rfl]
                          go_loopw [9] (fun r wr' => ∃ j : Nat, j ≤ 9 ∧ r = .int .i64 j ∧ (∀ f, f < j → onI z 1 f 9 ≤ 1 ∧ onI z 17 f 9 ≤ 1) ∧ Below wp.heap.size wp wr') (fun r _ => 9 - (intOf r).toNat)
                          case atStart => exact ⟨0, Nat.zero_le _, rfl, fun q hq => absurd hq (Nat.not_lt_zero _), bref _⟩
                          case round =>
                            obtain ⟨j, hj, rfl, hall, hW⟩ := hrel
                            have HALLE := Lib.hid hall
                            have HP := Lib.hid (HP.out.grow hW)
                            have HB := Lib.hid (bthen HB.out hW)
                            have HWE := Lib.hid hW
                            clear hall hW
                            by_cases hlt : j < 9
                            · have ON1 := Lib.hid (fun W => ON.out 1 j hlt W)
                              have ON17 := Lib.hid (fun W => ON.out 17 j hlt W)
                              have HNZ := Lib.hid (show True → newZ z = z from fun _ => newZ_self z HZ.out HCL.out)
                              have hno := one_no z j hlt
                              generalize ha : onI z 1 j 9 = a at ON1 hno
                              generalize hb : onI z 17 j 9 = b at ON17 hno
                              by_cases h1 : 1 < a
                              · have hbad : allB (oneQ (newZ z)) 18 = false := by rw [HNZ.out trivial]; exact hno (.inl h1)
                                have FIN := Lib.hid (show True → Ending.returned (Value.int .i64 53) = Ending.returned (Value.int .i64 (checkF z)) from fun _ => by rw [chk_nifu z HS.out (HKN.out trivial) (HKK.out trivial) (HFW.out trivial) (HAL.out trivial) hbad])
                                clear hbad hno ha hb
                                go_wp2_with (first
                                  | (refine wpList_load_mid rfl 28 _ rfl w.heap.size 0 rfl (posC z) _ HP.out.range Tryd.underlying28 rfl HINF.out ?_)
                                  | (go_at_call_of 48 (Value.int .i64 1); refine (ON1.out _).mono ?_; rintro e w4 ⟨rfl, hb4⟩))
                                go_ret
                                exact ⟨FIN.out trivial, bthen HB.out hb4⟩
                              · have d1 : decide (1 < a) = false := decide_eq_false h1
                                by_cases h17 : 1 < b
                                · have hbad : allB (oneQ (newZ z)) 18 = false := by rw [HNZ.out trivial]; exact hno (.inr h17)
                                  have FIN := Lib.hid (show True → Ending.returned (Value.int .i64 53) = Ending.returned (Value.int .i64 (checkF z)) from fun _ => by rw [chk_nifu z HS.out (HKN.out trivial) (HKK.out trivial) (HFW.out trivial) (HAL.out trivial) hbad])
                                  clear hbad hno ha hb
                                  go_wp2_with (first
                                    | (refine wpList_load_mid rfl 28 _ rfl w.heap.size 0 rfl (posC z) _ HP.out.range Tryd.underlying28 rfl HINF.out ?_)
                                    | (go_at_call_of 48 (Value.int .i64 17); refine (ON17.out _).mono ?_; rintro e w5 ⟨rfl, hb5⟩)
                                    | (go_at_call_of 48 (Value.int .i64 1); refine (ON1.out _).mono ?_; rintro e w4 ⟨rfl, hb⟩; have HP := Lib.hid (HP.out.grow hb); have HB := Lib.hid (bthen HB.out hb); clear hb)
                                    | (refine load_mid_want (by rfl) 28 _ rfl w.heap.size 0 rfl (posC z) _ HP.out.range Tryd.underlying28 rfl HINF.out ?_))
                                  go_ret
                                  exact ⟨FIN.out trivial, bthen HB.out hb5⟩
                                · have HN := Lib.hid (show ∀ f, f < j + 1 → onI z 1 f 9 ≤ 1 ∧ onI z 17 f 9 ≤ 1 from fun f hf => by
                                    by_cases e : f = j
                                    · subst e; rw [ha, hb]; omega
                                    · exact HALLE.out f (by omega))
                                  clear hno ha hb
                                  go_wp2_with (first
                                    | (refine wpList_load_mid rfl 28 _ rfl w.heap.size 0 rfl (posC z) _ HP.out.range Tryd.underlying28 rfl HINF.out ?_)
                                    | (go_at_call_of 48 (Value.int .i64 17); refine (ON17.out _).mono ?_; rintro e w5 ⟨rfl, hb5⟩; have HWE := Lib.hid (bthen HWE.out hb5))
                                    | (go_at_call_of 48 (Value.int .i64 1); refine (ON1.out _).mono ?_; rintro e w4 ⟨rfl, hb⟩; have HP := Lib.hid (HP.out.grow hb); have HWE := Lib.hid (bthen HWE.out hb); clear hb)
                                    | (refine load_mid_want (by rfl) 28 _ rfl w.heap.size 0 rfl (posC z) _ HP.out.range Tryd.underlying28 rfl HINF.out ?_))
                                  go_roundw
                                  case rel => exact ⟨j + 1, by omega, by go_num, HN.out, HWE.out⟩
                                  case measure => simp [intOf]; omega
                            · obtain rfl : j = 9 := by omega
                              have FIN := Lib.hid (show True → Ending.returned (Value.int .i64 0) = Ending.returned (Value.int .i64 (checkF z)) from fun _ => by rw [chk_ok z HS.out (HKN.out trivial) (HKK.out trivial) (HFW.out trivial) (HAL.out trivial) (by rw [newZ_self z HZ.out HCL.out]; exact one_of z HALLE.out)])
                              go_wp2
                              go_ret
                              exact ⟨FIN.out trivial, HB.out⟩
                · have FIN := Lib.hid (show True → Ending.returned (Value.int .i64 50) = Ending.returned (Value.int .i64 (checkF z)) from fun _ => by rw [chk_kings z HS.out (HKN.out trivial) (fun h => hk1 ((HK3.out trivial).2.symm.trans h.2))])
                  have n1 : (k1 != 1) = true := by simpa using hk1
                  subst hk0
                  clear hk1
                  go_wp2_with (first
                    | (refine wpList_load_mid rfl 28 _ rfl w.heap.size 0 rfl (posC z) _ HP.out.range Tryd.underlying28 rfl HINF.out ?_)
                    | (go_at_call_of 44 (Value.int .i64 8); refine (A8.out _).mono ?_; rintro e w2 ⟨rfl, hb⟩; have HP := Lib.hid (HP.out.grow hb); have HB := Lib.hid (bthen HB.out hb); clear hb)
                    | (refine load_mid_want (by rfl) 28 _ rfl w.heap.size 0 rfl (posC z) _ HP.out.range Tryd.underlying28 rfl HINF.out ?_)
                    | (go_at_call_of 44 (Value.int .i64 24); refine (A24.out _).mono ?_; rintro e w3 ⟨rfl, hb⟩; have HP := Lib.hid (HP.out.grow hb); have HB := Lib.hid (bthen HB.out hb); clear hb))
                  go_ret
                  exact ⟨FIN.out trivial, HB.out⟩
              · have FIN := Lib.hid (show True → Ending.returned (Value.int .i64 50) = Ending.returned (Value.int .i64 (checkF z)) from fun _ => by rw [chk_kings z HS.out (HKN.out trivial) (fun h => hk0 ((HK3.out trivial).1.symm.trans h.1))])
                have n0 : (k0 != 1) = true := by simpa using hk0
                clear hk0
                go_wp2_with (first
                    | (refine wpList_load_mid rfl 28 _ rfl w.heap.size 0 rfl (posC z) _ HP.out.range Tryd.underlying28 rfl HINF.out ?_)
                    | (go_at_call_of 44 (Value.int .i64 8); refine (A8.out _).mono ?_; rintro e w2 ⟨rfl, hb⟩; have HP := Lib.hid (HP.out.grow hb); have HB := Lib.hid (bthen HB.out hb); clear hb)
                    | (refine load_mid_want (by rfl) 28 _ rfl w.heap.size 0 rfl (posC z) _ HP.out.range Tryd.underlying28 rfl HINF.out ?_)
                    | (go_at_call_of 44 (Value.int .i64 24); refine (A24.out _).mono ?_; rintro e w3 ⟨rfl, hb⟩; have HP := Lib.hid (HP.out.grow hb); have HB := Lib.hid (bthen HB.out hb); clear hb))
                go_ret
                exact ⟨FIN.out trivial, HB.out⟩
    · have FIN := Lib.hid (show True → Ending.returned (Value.int .i64 1) = Ending.returned (Value.int .i64 (checkF z)) from fun _ => by rw [chk_side z (fun h => h.elim hs0 hs1)])
      have n0 : (at8 z 97 != 0) = true := by simpa using hs0
      have n1 : (at8 z 97 != 1) = true := by simpa using hs1
      clear hs0 hs1
      go_enter Tryd.func23, Tryd.ntmps23
      go_wp2
      go_ret
      exact ⟨FIN.out trivial, HB.out⟩
end Go.Proofs.YtmnkbckjhkegaaaDoor
