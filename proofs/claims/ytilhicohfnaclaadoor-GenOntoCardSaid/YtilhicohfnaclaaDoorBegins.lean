/-
  What the rows' list gives the walks, where the board's own table is listed too: both tables lie where they were laid; a world for the witness.
-/
import Derived.Test.YtilhicohfnaclaaDoorSetAll
import Derived.Lib.LaidTab
import Derived.OpenShut
import Derived.Test.YtilhicohfnaclaaDoorChkAll
namespace Go.Proofs.YtilhicohfnaclaaDoor
set_option maxRecDepth 100000
open Go.RowKit

theorem tabIs_of_vars {P : Program} {W : World} {name : String} {k : IntKind} {zs : List Int} {rest : List (String × DataW Unit)} {g : Nat} {t e : TypeId} {n : Nat} {ps : List MemPlace}
    (hg : P.globalNamed name = some g) (hty : (P.globals[g]?).map (·.type) = some t) (ht : P.underlying t = some (.array n e)) (he : P.underlying e = some (.int k)) (hce : P.cellsOf e = 1) (hct : P.cellsOf t = n)
    (h : DataW.LaidVars P W ((name, Lib.tabData k zs) :: rest) ps) : Lib.TabIs P W name k zs ∧ ∃ q, DataW.LaidVars P W rest q := by
  obtain ⟨g', t', cs, fuel, p, q, hg', ht', hvar, hd, hr, _⟩ := h
  obtain rfl := Option.some.inj (hg.symm.trans hg')
  obtain rfl := Option.some.inj (hty.symm.trans ht')
  refine ⟨?_, q, hr⟩
  unfold Lib.TabIs
  rw [hvar, ← Lib.cells_of_tab ht he hce hct hd]

theorem gTab : Tryd.prog.globalNamed "math/bits.deBruijn64tab" = some 1 := by kernel_rfl
theorem gTabType : (Tryd.prog.globals[1]?).map (·.type) = some 127 := by kernel_rfl
theorem cellsTab : Tryd.prog.cellsOf 127 = 64 := by kernel_rfl
theorem cellsU8 : Tryd.prog.cellsOf 5 = 1 := by kernel_rfl
theorem gHome : Tryd.prog.globalNamed "kakugyo/board.home" = some 0 := by kernel_rfl
theorem gHomeType : (Tryd.prog.globals[0]?).map (·.type) = some 113 := by kernel_rfl
theorem cellsHome : Tryd.prog.cellsOf 113 = 9 := by kernel_rfl
theorem cellsI64 : Tryd.prog.cellsOf 3 = 1 := by kernel_rfl
def tabZ : List Int := Lib.deBruijn64tab.map (fun (n : Nat) => (n : Int))
theorem tabZ_get : ∀ j : Nat, j < 64 → tabZ.getD j 0 = ((Lib.deBruijn64tab.getD j 0 : Nat) : Int) := by decide +kernel
theorem tabZ_len : tabZ.length = 64 := by decide +kernel
def homeZ : List Int := [2, 3, 4, 5, 8, 5, 4, 3, 2]
/-- The board's table of the last rank lies where it was laid. -/
def Home (w : World) : Prop := ∀ j, j < 9 → w.cell? ⟨0, j, none⟩ = some (.int .i64 (homeZ.getD j 0))
theorem Home.grow {w w' : World} (h : Home w) (hb : Below w.heap.size w w') : Home w' := fun j hj => by
  have h0 := h j hj
  have hlt : 0 < w.heap.size := by
    apply Nat.lt_of_not_le
    intro hn
    have : w.heap[0]? = none := Array.getElem?_eq_none hn
    simp [World.cell?, this] at h0
  exact (hb.cell (p := ⟨0, j, none⟩) hlt).trans h0
theorem both_of {W : World} (h : laidMetH Tryd.prog [("math/bits.deBruijn64tab", Rows.laid_math_bits_deBruijn64tab), ("kakugyo/board.home", Rows.laid_kakugyo_board_home)] W) : Tab W ∧ Home W := by
  obtain ⟨ps, hv, _⟩ := h
  obtain ⟨t, q, hv2⟩ := tabIs_of_vars (k := .u8) (zs := tabZ) gTab gTabType Tryd.underlying127 Tryd.underlying5 cellsU8 cellsTab hv
  obtain ⟨u, q2, -⟩ := tabIs_of_vars (k := .i64) (zs := homeZ) gHome gHomeType Tryd.underlying113 Tryd.underlying3 cellsI64 cellsHome hv2
  refine ⟨fun j hj => ?_, fun j hj => u.cell gHome j hj⟩
  have c := t.cell gTab j (by rw [tabZ_len]; exact hj)
  rw [tabZ_get j hj] at c
  exact c
/-- The cells of the tables. -/
def tabCells : Array Value := (tabZ.map (fun z => Value.int .u8 z)).toArray
def homeCells : Array Value := (homeZ.map (fun z => Value.int .i64 z)).toArray
noncomputable def laidWorld (os : Os) : World :=
  { World.holding Tryd.prog os ⟨#[], #[], []⟩ with heap := (((World.holding Tryd.prog os ⟨#[], #[], []⟩).heap.modify 1 (fun
      | .cells _ t frozen => .cells tabCells t frozen
      | o => o)).modify 0 (fun
      | .cells _ t frozen => .cells homeCells t frozen
      | o => o)) }
end Go.Proofs.YtilhicohfnaclaaDoor

/-
  board.Start: the position with which games begin.
-/
namespace Go.Proofs.YtilhicohfnaclaaDoor
open Go.RowKit
set_option linter.unusedVariables false
set_option linter.unusedSimpArgs false

def bothZ (z : List Int) (q : Nat) (k : Int) : List Int := (z.set q (ofF 0 k)).set (80 - q) (ofF 1 k)
theorem bothZ_len (z : List Int) (q : Nat) (k : Int) : (bothZ z q k).length = z.length := by simp [bothZ]
theorem PosAt.but {w w' : World} {b g : Nat} {z : List Int} (h : PosAt w b z) (hb : But g w w') (hg : b ≠ g) : PosAt w' b z := (hb.block b h.lt hg).trans h

set_option maxHeartbeats 1000000 in
theorem putBoth_any (b : Nat) (z : List Int) (q : Nat) (k : Int) (hk : -9223372036854775808 ≤ k ∧ k ≤ 9223372036854775807) (hq : q < 81) (hz : z.length = 98) (w : World) (hb : PosAt w b z) :
    Calls Tryd.prog 115 #[.pointer (some ⟨b, 0, none⟩), .int .i64 q, .int .i64 k] w fun e w' => e = .returned (.tuple #[]) ∧ PosAt w' b (bothZ z q k) ∧ But b w w' := by
  have O0 := Lib.hid (fun W => pof_any 0 k W hk.1 hk.2)
  have O1 := Lib.hid (fun W => pof_any 1 k W hk.1 hk.2)
  have hw : IntKind.i64.wrap (80 - (q : Int)) = ((80 - q : Nat) : Int) := by rw [IntKind.wrap_i64]; omega
  have hw2 : wrap64 (80 - (q : Int)) = ((80 - q : Nat) : Int) := by unfold wrap64; omega
  have h80 : 80 - q < 81 := by omega
  have c0 := hb.cell q (by omega)
  have f0 := hb.frozen q
  have zb := hb.lt
  have P1 := Lib.hid (hb.set q (ofF 0 k))
  have B1 := Lib.hid ((But.refl b w).setCell ⟨b, q, none⟩ rfl (.int .i8 (ofF 0 k)))
  have hz1 := Lib.hid (show (z.set q (ofF 0 k)).length = 98 by rw [List.length_set]; exact hz)
  unfold bothZ
  clear hk hb hz
  generalize ofF 0 k = p0 at *
  generalize ofF 1 k = p1 at *
  generalize hz1g : z.set q p0 = z1 at *
  generalize hk80 : 80 - q = r at *
  go_enter Tryd.func115, Tryd.ntmps115
  go_wp2
  go_region_with (go_at_call_of 63 (Value.int .i64 0); refine (O0.out _).mono ?_; rintro e w1 ⟨rfl, rfl⟩)
  all_goals
    generalize w.setCell ⟨b, q, none⟩ (.int .i8 p0) = w2 at *
    have c1 := P1.out.cell r (by have := hz1.out; omega)
    have f1 := P1.out.frozen r
    have zb1 := P1.out.lt
    clear c0 f0 zb
    go_wp2
    go_region_with (go_at_call_of 63 (Value.int .i64 1); refine (O1.out _).mono ?_; rintro e w3 ⟨rfl, rfl⟩)
    all_goals
      have P2 := P1.out.set r p1
      go_wp2
      go_end0
      exact ⟨rfl, P2, (B1.out.drew.setCell ⟨b, r, none⟩ rfl _).drew⟩

def stZ : Nat → List Int
  | 0 => List.replicate 98 0
  | k + 1 => bothZ (bothZ (stZ k) (9 * k + 8) (homeZ.getD k 0)) (9 * k + 6) 1
def startZ : List Int := bothZ (bothZ (stZ 9) 70 6) 16 7
theorem stZ_len : ∀ k, (stZ k).length = 98
  | 0 => by rw [stZ, List.length_replicate]
  | k + 1 => by rw [stZ, bothZ_len, bothZ_len, stZ_len k]
theorem startZ_len : startZ.length = 98 := by unfold startZ; rw [bothZ_len, bothZ_len, stZ_len]
theorem zeroPos_eq : Tryd.zeroCells28 = (posC (List.replicate 98 0)).toArray := by kernel_rfl
theorem homeZ_bd : ∀ j : Nat, j < 9 → -9223372036854775808 ≤ homeZ.getD j 0 ∧ homeZ.getD j 0 ≤ 9223372036854775807 := by decide +kernel

set_option maxHeartbeats 2000000 in
theorem start_any (w : World) (hH : Home w) :
    Calls Tryd.prog 83 #[] w fun e w' => e = .returned (.agg (posC startZ).toArray) ∧ Below w.heap.size w w' := by
  have h0 := hH 0 (by omega)
  have h1 := hH 1 (by omega)
  have h2 := hH 2 (by omega)
  have h3 := hH 3 (by omega)
  have h4 := hH 4 (by omega)
  have h5 := hH 5 (by omega)
  have h6 := hH 6 (by omega)
  have h7 := hH 7 (by omega)
  have h8 := hH 8 (by omega)
  have hlt : 0 < w.heap.size := by
    apply Nat.lt_of_not_le
    intro hn
    have : w.heap[0]? = none := Array.getElem?_eq_none hn
    simp [World.cell?, this] at h0
  have e0 : homeZ.getD 0 0 = 2 := rfl
  have e1 : homeZ.getD 1 0 = 3 := rfl
  have e2 : homeZ.getD 2 0 = 4 := rfl
  have e3 : homeZ.getD 3 0 = 5 := rfl
  have e4 : homeZ.getD 4 0 = 8 := rfl
  have e5 : homeZ.getD 5 0 = 5 := rfl
  have e6 : homeZ.getD 6 0 = 4 := rfl
  have e7 : homeZ.getD 7 0 = 3 := rfl
  have e8 : homeZ.getD 8 0 = 2 := rfl
  rw [e0] at h0; rw [e1] at h1; rw [e2] at h2; rw [e3] at h3; rw [e4] at h4; rw [e5] at h5; rw [e6] at h6; rw [e7] at h7; rw [e8] at h8
  clear e0 e1 e2 e3 e4 e5 e6 e7 e8 hH
  have hs1 : (w.alloc (.cells Tryd.zeroCells28 28)).heap.size = w.heap.size + 1 := by simp
  have hs2 : ((w.alloc (.cells Tryd.zeroCells28 28)).alloc (.cells Tryd.zeroCells28 28)).heap.size = w.heap.size + 2 := by simp
  go_enter Tryd.func83, Tryd.ntmps83
  go_wp2
  have hP : PosAt ((w.alloc (.cells Tryd.zeroCells28 28)).alloc (.cells Tryd.zeroCells28 28)) (w.heap.size + 1) (stZ 0) := by
    have := heap_alloc_new (w.alloc (.cells Tryd.zeroCells28 28)) (.cells Tryd.zeroCells28 28)
    rw [hs1] at this
    unfold PosAt stZ
    rw [← zeroPos_eq]
    exact this
  have hD : ((w.alloc (.cells Tryd.zeroCells28 28)).alloc (.cells Tryd.zeroCells28 28)).heap[w.heap.size]? = some (.cells Tryd.zeroCells28 28) :=
    (Below.heap_alloc _ _ _ (by omega)).trans (heap_alloc_new w (.cells Tryd.zeroCells28 28))
  have hB : Below w.heap.size w ((w.alloc (.cells Tryd.zeroCells28 28)).alloc (.cells Tryd.zeroCells28 28)) := ball (ball (bref w) _) _
  have HP := Lib.hid hP
  have HD := Lib.hid hD
  have HB := Lib.hid hB
  have HC : ∀ j, j < 9 → #[Value.int .i64 2, Value.int .i64 3, Value.int .i64 4, Value.int .i64 5, Value.int .i64 8, Value.int .i64 5, Value.int .i64 4, Value.int .i64 3, Value.int .i64 2][j]? = some (.int .i64 (homeZ.getD j 0)) := by
    intro j hj
    have : j = 0 ∨ j = 1 ∨ j = 2 ∨ j = 3 ∨ j = 4 ∨ j = 5 ∨ j = 6 ∨ j = 7 ∨ j = 8 := by omega
    rcases this with rfl | rfl | rfl | rfl | rfl | rfl | rfl | rfl | rfl <;> rfl
  have HC := Lib.hid HC
  clear hP hD hB h0 h1 h2 h3 h4 h5 h6 h7 h8 hlt hs1
  generalize hw2 : (w.alloc (.cells Tryd.zeroCells28 28)).alloc (.cells Tryd.zeroCells28 28) = w2 at *
  clear hw2
  generalize harr : #[Value.int .i64 2, Value.int .i64 3, Value.int .i64 4, Value.int .i64 5, Value.int .i64 8, Value.int .i64 5, Value.int .i64 4, Value.int .i64 3, Value.int .i64 2] = arr at *
  clear harr
  go_loopw [2, 3, 5] (fun _ _ i wr => ∃ j : Nat, j ≤ 9 ∧ i = .int .i64 j ∧ PosAt wr (w.heap.size + 1) (stZ j) ∧ But (w.heap.size + 1) w2 wr) (fun _ _ i _ => 9 - (intOf i).toNat)
  case atStart => exact ⟨0, Nat.zero_le _, rfl, HP.out, But.refl _ _⟩
  case round =>
    obtain ⟨j, hj, rfl, hP, hB⟩ := hrel
    have HPJ := Lib.hid hP
    have HBJ := Lib.hid hB
    clear hB hP
    by_cases hlt : j < 9
    · have hx := fun W => run_index_cell (P := Tryd.prog) W 113 3 9 arr j (.int .i64 (homeZ.getD j 0)) Tryd.underlying113 (by kernel_rfl) (by kernel_rfl) hlt (HC.out j hlt)
      have S8 := Lib.hid (fun W => square_any j 8 W)
      have S6 := Lib.hid (fun W => square_any j 6 W)
      rw [show squareF j 8 = ((9 * j + 8 : Nat) : Int) by unfold squareF; rw [if_pos (by omega)]; omega] at S8
      rw [show squareF j 6 = ((9 * j + 6 : Nat) : Int) by unfold squareF; rw [if_pos (by omega)]; omega] at S6
      have PB8 := Lib.hid (fun W (h : PosAt W (w.heap.size + 1) (stZ j)) => putBoth_any (w.heap.size + 1) (stZ j) (9 * j + 8) (homeZ.getD j 0) (homeZ_bd j hlt) (by omega) (stZ_len j) W h)
      have PB6 := Lib.hid (fun W (h : PosAt W (w.heap.size + 1) (bothZ (stZ j) (9 * j + 8) (homeZ.getD j 0))) => putBoth_any (w.heap.size + 1) (bothZ (stZ j) (9 * j + 8) (homeZ.getD j 0)) (9 * j + 6) 1 (by omega) (by omega) (by rw [bothZ_len, stZ_len]) W h)
      have est : bothZ (bothZ (stZ j) (9 * j + 8) (homeZ.getD j 0)) (9 * j + 6) 1 = stZ (j + 1) := rfl
      rw [est] at PB6
      clear est
      generalize bothZ (stZ j) (9 * j + 8) (homeZ.getD j 0) = z1 at PB8 PB6
      generalize homeZ.getD j 0 = k at hx PB8
      generalize ((9 * j + 8 : Nat) : Int) = q8 at S8 PB8
      generalize ((9 * j + 6 : Nat) : Int) = q6 at S6 PB6
      go_wp2_with (first
        | (go_at_call_of 116 (Value.int .i64 8); refine (S8.out _).mono ?_; rintro e w3 ⟨rfl, rfl⟩)
        | (go_at_call_of 116 (Value.int .i64 6); refine (S6.out _).mono ?_; rintro e w4 ⟨rfl, rfl⟩)
        | (go_at_call_of 115 (Value.int .i64 q8); refine (PB8.out _ HPJ.out).mono ?_; rintro e w5 ⟨rfl, hp5, hb5⟩; have HP5 := Lib.hid hp5; have HB5 := Lib.hid hb5; clear hp5 hb5)
        | (go_at_call_of 115 (Value.int .i64 q6); refine (PB6.out _ HP5.out).mono ?_; rintro e w6 ⟨rfl, hp6, hb6⟩; have HP6 := Lib.hid hp6; have HB6 := Lib.hid hb6; clear hp6 hb6))
      go_roundw
      case rel => exact ⟨j + 1, by omega, by go_num, HP6.out, (HBJ.out.trans HB5.out).trans HB6.out⟩
      case measure => simp [intOf]; omega
    · obtain rfl : j = 9 := by omega
      have S70 := Lib.hid (fun W => square_any 7 7 W)
      have S16 := Lib.hid (fun W => square_any 1 7 W)
      rw [show squareF 7 7 = ((70 : Nat) : Int) from rfl] at S70
      rw [show squareF 1 7 = ((16 : Nat) : Int) from rfl] at S16
      have PB7 := Lib.hid (fun W (h : PosAt W (w.heap.size + 1) (stZ 9)) => putBoth_any (w.heap.size + 1) (stZ 9) 70 6 (by omega) (by omega) (stZ_len 9) W h)
      have PB1 := Lib.hid (fun W (h : PosAt W (w.heap.size + 1) (bothZ (stZ 9) 70 6)) => putBoth_any (w.heap.size + 1) (bothZ (stZ 9) 70 6) 16 7 (by omega) (by omega) (by rw [bothZ_len, stZ_len]) W h)
      rw [show bothZ (bothZ (stZ 9) 70 6) 16 7 = startZ from rfl] at PB1
      have HINF := Lib.hid (show (Tryd.prog.info? 28).map (·.size) = some (posC startZ).length by rw [posC_len, startZ_len]; exact infoPos)
      have HS := Lib.hid (show Tryd.zeroCells28.size = (posC startZ).toArray.size from zeroPos_size.trans (by rw [List.size_toArray, posC_len, startZ_len]))
      generalize hsz : startZ = sz at PB1 HINF HS
      have HSZ := Lib.hid hsz
      clear hsz
      generalize bothZ (stZ 9) 70 6 = z1 at PB7 PB1
      generalize ((70 : Nat) : Int) = q7 at S70 PB7
      generalize ((16 : Nat) : Int) = q1 at S16 PB1
      go_wp2_with (first
        | (go_at_call_of 116 (Value.int .i64 1); refine (S16.out _).mono ?_; rintro e w3 ⟨rfl, rfl⟩)
        | (go_at_call_of 116 (Value.int .i64 7); refine (S70.out _).mono ?_; rintro e w4 ⟨rfl, rfl⟩)
        | (go_at_call_of 115 (Value.int .i64 q7); refine (PB7.out _ HPJ.out).mono ?_; rintro e w5 ⟨rfl, hp5, hb5⟩; have HP5 := Lib.hid hp5; have HB5 := Lib.hid hb5; clear hp5 hb5)
        | (go_at_call_of 115 (Value.int .i64 q1); refine (PB1.out _ HP5.out).mono ?_; rintro e w6 ⟨rfl, hp6, hb6⟩; have HP6 := Lib.hid hp6; have HB6 := Lib.hid ((HBJ.out.trans HB5.out).trans hb6); clear hp6 hb6; have HD6 := Lib.hid ((HB6.out.block w.heap.size (by omega) (by omega)).trans HD.out))
        | (refine wpList_load_mid rfl 28 _ rfl (w.heap.size + 1) 0 rfl (posC sz) _ HP6.out.range Tryd.underlying28 rfl HINF.out ?_)
        | (refine wpList_store_row rfl 28 _ _ rfl w.heap.size (posC sz).toArray rfl rfl 28 Tryd.zeroCells28 HD6.out (by rw [List.size_toArray]; exact HINF.out) HS.out (posC_one sz) ?_))
      refine bodyPost_ret (results_cell_row rfl _ _ w.heap.size 28 (posC sz).toArray (0, 0) _ rfl (setRow_heap _ _ _ _ _ _ HD6.out) Tryd.underlying28 rfl (by rw [List.size_toArray]; exact HINF.out)) rfl ?_
      exact ⟨by rw [HSZ.out], below_row (HB.out.trans (HB6.out.below (by omega) (by omega))) (by omega) _⟩
end Go.Proofs.YtilhicohfnaclaaDoor

/-
  The head of the board laws: games begin with forty pieces.
-/
namespace Go.Proofs.YtilhicohfnaclaaDoor
open Go.RowKit
set_option linter.unusedVariables false
set_option linter.unusedSimpArgs false

theorem start_8 : I8s startZ := by
  have h : startZ.all (fun x => decide (-128 ≤ x ∧ x ≤ 127)) = true := by decide +kernel
  intro x hx
  exact of_decide_eq_true (List.all_eq_true.1 h x hx)
theorem start_clean : Clean startZ := by
  have h : ∀ q : Nat, q < 81 → kindF (at8 startZ q) = 0 → at8 startZ q = 0 := by decide +kernel
  exact h
theorem start_new : newZ startZ = startZ := newZ_self _ startZ_len start_clean
theorem start_taken : pop 81 (takenN startZ) = 40 := by decide +kernel
theorem start_at : at8 startZ 44 = 8 := by decide +kernel
theorem start_king0 : kingF startZ 0 = 44 := by decide +kernel
theorem start_king1 : kingF startZ 1 = 36 := by decide +kernel
theorem start_check : checkF startZ = 0 := by decide +kernel

end Go.Proofs.YtilhicohfnaclaaDoor
