/-
  board.Check.
-/
import Derived.Test.YtbopbekehccdmaaDoorChk5
namespace Go.Proofs.YtbopbekehccdmaaDoor
open Go.RowKit
set_option linter.unusedVariables false
set_option linter.unusedSimpArgs false

def chkF (s : Int) (kb : Bool) (k0 k1 : Int) (fb ab ob : Bool) : Int :=
  if ¬ (s = 0 ∨ s = 1) then 1 else if kb = false then 55 else if ¬ (k0 = 1 ∧ k1 = 1) then 50 else if fb = false then 51 else if ab = false then 52 else if ob = false then 53 else 0
def checkF (z : List Int) : Int := chkF (at8 z 97) (knownB z) (FH z 16 0) (FH z 16 1) (allB (fewB (FH z 16)) 9) (allB (aliveQ z) 81) (allB (oneQ (newZ z)) 18)

theorem eq_two {P : Program} (t e : TypeId) (k : IntKind) (x y a b : Int) (W : World) (ht : P.underlying t = some (.array 2 e)) (he : P.underlying e = some (.int k)) (hpk : P.plainKey e = true) (hi : (P.info? e).map (·.size) = some 1) :
    (Op.equalIn 10000 t (.agg #[.int k x, .int k y]) (.agg #[.int k a, .int k b])).run P W = .ok (decide (x = a) && decide (y = b)) W := by
  cases hq : P.info? e with
  | none => simp [hq] at hi
  | some i =>
    have hs : P.cellsOf e = 1 := by
      have : i.size = 1 := by simpa [hq] using hi
      simp [Program.cellsOf, hq, this]
    rw [show (10000 : Nat) = 9999 + 1 from rfl, run_equalIn_array W 9999 _ _ ht hq, hs]
    have p : ∀ (u v : Int) (j : Nat) (n : Int), #[Value.int k u, Value.int k v][j * 1]? = some (Value.int k n) → (part e #[Value.int k u, Value.int k v] (j * 1)).run P W = .ok (.int k n) W := fun u v j n h => run_part_plain (P := P) W hpk h
    have q : ∀ u v : Int, (Op.equalIn 9999 e (.int k u) (.int k v)).run P W = .ok (decide (u = v)) W := fun u v => by
      rw [show (9999 : Nat) = 9998 + 1 from rfl, run_equalIn_int W 9998 e k k u v he]
      by_cases h : u = v <;> simp [h]
    show (Op.eqItems 9999 e 1 #[Value.int k x, Value.int k y] #[Value.int k a, Value.int k b] [0, 1]).run P W = _
    simp only [Op.eqItems, Sem.run_bind, p x y 0 x rfl, p a b 0 a rfl, q, Result.andThen_ok]
    by_cases h : x = a
    · simp only [h, decide_true, Bool.not_true, Bool.false_eq_true, if_false, Bool.true_and]
      simp only [Op.eqItems, Sem.run_bind, p x y 1 y rfl, p a b 1 b rfl, p a y 1 y rfl, q, Result.andThen_ok]
      by_cases h2 : y = b
      · simp [h2]
      · simp [h2]
    · simp [h]

set_option maxHeartbeats 4000000 in
set_option maxRecDepth 100000 in
theorem check_any (z : List Int) (hz : z.length = 98) (h8 : I8s z) (w : World) :
    Calls Tryd.prog 65 #[.agg (posC z).toArray] w fun e w' => e = .returned (.int .i64 (checkF z)) ∧ Below w.heap.size w w' := by
  have SI := Lib.hid (fun W => bSide_any (at8 z 97) W)
  have KN := Lib.hid (fun W => isKnown_any z hz h8 W)
  have CO := Lib.hid (fun W => count_any' z hz h8 W)
  have TM := Lib.hid (fun g W (h : CenAt W g (FH z 16)) => tooMany_any g (FH z 16) W h)
  have DE := Lib.hid (fun W => hasDead_any z hz h8 W)
  have NE := Lib.hid (fun W => new_brd z hz h8 W)
  have NI := Lib.hid (fun g W (h : Brd W g (newZ z)) => hasNifu_any g (newZ z) (newZ_len z hz) W h)
  have hv := h8.at 97
  have hwx : wrap64 (at8 z 97) = at8 z 97 := by unfold wrap64; omega
  have P0 := PosAt.new w z
  have c97 := P0.cell 97 (by omega)
  have HP := Lib.hid P0
  have HB := Lib.hid (ball (bref w) (.cells (posC z).toArray 28))
  have HINF := Lib.hid (show (Tryd.prog.info? 28).map (·.size) = some (posC z).length by rw [posC_len, hz]; exact infoPos)
  have hne : ∀ W, (Op.equalIn 10000 74 (.agg #[.int .i64 (FH z 16 0), .int .i64 (FH z 16 1)]) (.agg #[.int .i64 1, .int .i64 1])).run Tryd.prog W = .ok (decide (FH z 16 0 = 1) && decide (FH z 16 1 = 1)) W := fun W =>
    eq_two 74 3 .i64 _ _ _ _ W Tryd.underlying74 Tryd.underlying3 (by kernel_rfl) (by kernel_rfl)
  unfold checkF
  clear hz h8 hv P0
  generalize allB (fewB (FH z 16)) 9 = fb at TM ⊢
  generalize allB (aliveQ z) 81 = ab at DE ⊢
  generalize allB (oneQ (newZ z)) 18 = ob at NI ⊢
  generalize knownB z = kb at KN ⊢
  generalize FH z 16 = F at CO TM hne ⊢
  generalize newZ z = nzz at NE NI
  generalize at8 z 97 = s at SI hwx c97 ⊢
  have hset : ∀ W : World, (storeCells ⟨W.heap.size, 0, none⟩ (cenC F) 0).run Tryd.prog (W.alloc (.cells #[.int .i64 0, .int .i64 0, .int .i64 0, .int .i64 0, .int .i64 0, .int .i64 0, .int .i64 0, .int .i64 0, .int .i64 0, .int .i64 0, .int .i64 0] 116)) = .ok () (W.alloc (.cells (cenC F).toArray 116)) := fun W =>
    run_storeCells_new W 116 _ (cenC F).toArray (by rw [List.size_toArray, cenC_len]; exact infoCen) (show (11 : Nat) = (cenC F).toArray.size by rw [List.size_toArray, cenC_len]) (cenC_one _)
  have hlen := cenC_len F
  generalize hcf : chkF s kb (F 0) (F 1) fb ab ob = r
  have HCF := Lib.hid hcf
  clear hcf
  go_enter Tryd.func65, Tryd.ntmps65
  go_wp2_with (first
    | (go_at_call 69; rw [hwx]; refine (SI.out _).mono ?_; rintro e w2 ⟨rfl, rfl⟩)
    | (refine wpList_load_mid rfl 28 _ rfl w.heap.size 0 rfl (posC z) _ HP.out.range Tryd.underlying28 rfl HINF.out ?_)
    | (go_at_call 99; refine (KN.out _).mono ?_; rintro e w3 ⟨rfl, hb⟩; have HP := Lib.hid (HP.out.grow hb); have HB := Lib.hid (HB.out.trans (hb.mono HB.out.size)); clear hb)
    | (go_at_call 100; refine (CO.out _).mono ?_; rintro e w4 ⟨rfl, hb⟩; have HP := Lib.hid ((HP.out.grow hb).grow (ball (bref _) (.cells (cenC F).toArray 116))); have HB := Lib.hid ((HB.out.trans (hb.mono HB.out.size)).alloc ((HB.out.trans (hb.mono HB.out.size)).size) (.cells (cenC F).toArray 116)); have HC := Lib.hid (show CenAt (w4.alloc (.cells (cenC F).toArray 116)) w4.heap.size F from heap_alloc_new w4 _); have d0 := HC.out.cell 0 (by omega); have d1 := HC.out.cell 1 (by omega); clear hb)
    | (go_at_call 101; refine (TM.out _ _ HC.out).mono ?_; rintro e w5 ⟨rfl, hb⟩; have HP := Lib.hid (HP.out.grow hb); have HB := Lib.hid (HB.out.trans (hb.mono HB.out.size)); clear hb)
    | (go_at_call 102; refine (DE.out _).mono ?_; rintro e w6 ⟨rfl, hb⟩; have HP := Lib.hid (HP.out.grow hb); have HB := Lib.hid (HB.out.trans (hb.mono HB.out.size)); clear hb)
    | (go_at_call 16; refine (NE.out _).mono ?_; rintro e w7 ⟨g, rfl, hg, hbd, hb⟩; have HBD := Lib.hid hbd; have HB := Lib.hid (HB.out.trans (hb.mono HB.out.size)); clear hb hbd)
    | (go_at_call 103; refine (NI.out _ _ HBD.out).mono ?_; rintro e w8 ⟨rfl, hb⟩; have HB := Lib.hid (HB.out.trans (hb.mono HB.out.size)); clear hb))
  all_goals
    go_ret
    refine ⟨?_, HB.out⟩
    rw [← HCF.out]
    clear HCF HP HB HINF SI KN CO TM DE NE NI hne hset hlen hwx
    unfold chkF
    first
      | (simp_all; done)
      | (simp_all; intro a b; exfalso; omega)
end Go.Proofs.YtbopbekehccdmaaDoor
