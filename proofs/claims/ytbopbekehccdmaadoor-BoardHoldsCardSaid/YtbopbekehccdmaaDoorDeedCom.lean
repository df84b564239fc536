/-
  Two positions compared: true just if they are the same; so two rows of hands.
-/
import Derived.Test.YtbopbekehccdmaaDoorPosC
import Derived.Test.YtbopbekehccdmaaDoorGmC
import Derived.Test.YtbopbekehccdmaaDoorRefChk
import Derived.Test.YtbopbekehccdmaaDoorDmRefs
import Derived.OpenShut
import Derived.Test.YtbopbekehccdmaaDoorBase
import Derived.Test.YtbopbekehccdmaaDoorRows
import Derived.ProofKit
import Derived.Carry
import Derived.ChangeArms
import Derived.Lib.SmallJoins
import Derived.Test.YtbopbekehccdmaaDoorGm5
import Derived.Deep.Slices
import Derived.Deep.RegionHeld
namespace Go.Proofs.YtbopbekehccdmaaDoor
open Go.RowKit
set_option linter.unusedVariables false
set_option linter.unusedSimpArgs false

theorem items_dec {P : Program} (d : Nat) (e : TypeId) (c : Nat) (xs ys : Array Value) (W : World) (f : Nat → Bool) : ∀ is : List Nat, (∀ i ∈ is, ∃ v u, (part e xs (i * c)).run P W = .ok v W ∧ (part e ys (i * c)).run P W = .ok u W ∧ (Op.equalIn d e v u).run P W = .ok (f i) W) → (Op.eqItems d e c xs ys is).run P W = .ok (is.all f) W
  | [], _ => by simp [Op.eqItems]
  | i :: is, h => by
    obtain ⟨v, u, hp, hq, he⟩ := h i (by simp)
    have ih := items_dec d e c xs ys W f is (fun j hj => h j (by simp [hj]))
    simp only [Op.eqItems, Sem.run_bind, hp, hq, he, Result.andThen_ok]
    cases hf : f i
    · simp [hf]
    · simp only [Bool.not_true, Bool.false_eq_true, if_false]
      rw [ih]
      simp [hf]
theorem row_dec {P : Program} (d : Nat) (t e : TypeId) (n : Nat) (k : IntKind) (xs ys : Array Value) (a b : Nat → Int) (W : World) (ht : P.underlying t = some (.array n e)) (he : P.underlying e = some (.int k)) (hpk : P.plainKey e = true) (hi : (P.info? e).map (·.size) = some 1)
    (h : ∀ i, i < n → xs[i]? = some (.int k (a i))) (h' : ∀ i, i < n → ys[i]? = some (.int k (b i))) : (Op.equalIn (d + 2) t (.agg xs) (.agg ys)).run P W = .ok ((List.range n).all fun i => decide (a i = b i)) W := by
  cases hq : P.info? e with
  | none => simp [hq] at hi
  | some i =>
    have hs : P.cellsOf e = 1 := by
      have : i.size = 1 := by simpa [hq] using hi
      simp [Program.cellsOf, hq, this]
    rw [run_equalIn_array W (d + 1) _ _ ht hq, hs]
    refine items_dec _ _ _ _ _ _ _ _ fun j hj => ?_
    have hj2 : j < n := by simpa using hj
    refine ⟨.int k (a j), .int k (b j), run_part_plain (P := P) W hpk (by rw [Nat.mul_one]; exact h j hj2), run_part_plain (P := P) W hpk (by rw [Nat.mul_one]; exact h' j hj2), ?_⟩
    rw [run_equalIn_int W d e k k (a j) (b j) he]
    rfl
theorem fields_dec {P : Program} (d : Nat) (xs ys : Array Value) (f : Field) (fs : List Field) (W : World) (v u : Value) (b c : Bool) (hn : f.name ≠ "_") (hp : (part f.type xs f.offset).run P W = .ok v W) (hq : (part f.type ys f.offset).run P W = .ok u W) (he : (Op.equalIn d f.type v u).run P W = .ok b W) (rest : (Op.eqFields d xs ys fs).run P W = .ok c W) :
    (Op.eqFields d xs ys (f :: fs)).run P W = .ok (b && c) W := by
  rw [Op.eqFields, if_pos hn]
  simp only [Sem.run_bind, hp, hq, he, Result.andThen_ok]
  cases b
  · simp
  · simp only [Bool.not_true, Bool.false_eq_true, if_false, Bool.true_and]
    exact rest
theorem hands_dec (d : Nat) (xs ys : Array Value) (a b : Nat → Int) (W : World) (h : ∀ i, i < 16 → xs[i]? = some (.int .i8 (a i))) (h' : ∀ i, i < 16 → ys[i]? = some (.int .i8 (b i))) :
    (Op.equalIn (d + 3) 26 (.agg xs) (.agg ys)).run Tryd.prog W = .ok ((List.range 2).all fun j => (List.range 8).all fun i => decide (a (j * 8 + i) = b (j * 8 + i))) W := by
  have h8 := infoH8
  cases hq : Tryd.prog.info? 25 with
  | none => simp [hq] at h8
  | some i =>
    clear h8
    rw [show d + 3 = (d + 2) + 1 from rfl, run_equalIn_array W (d + 2) _ _ Tryd.underlying26 hq, show Tryd.prog.cellsOf 25 = 8 by kernel_rfl]
    refine items_dec _ _ _ _ _ _ _ _ fun j hj => ?_
    have hj2 : j < 2 := by simpa using hj
    refine ⟨_, _, run_part_row W _ 8 _ _ _ Tryd.underlying25 rfl infoH8, run_part_row W _ 8 _ _ _ Tryd.underlying25 rfl infoH8, ?_⟩
    refine row_dec d _ _ 8 .i8 _ _ (fun i => a (j * 8 + i)) (fun i => b (j * 8 + i)) W Tryd.underlying25 Tryd.underlying22 plainI8 infoI8 (fun i hi => ?_) (fun i hi => ?_)
    · have := h (j * 8 + i) (by omega)
      rw [Array.getElem?_extract]
      have hs : j * 8 + i < xs.size := (Array.getElem?_eq_some_iff.1 this).1
      rw [if_pos (by omega)]
      exact this
    · have := h' (j * 8 + i) (by omega)
      rw [Array.getElem?_extract]
      have hs : j * 8 + i < ys.size := (Array.getElem?_eq_some_iff.1 this).1
      rw [if_pos (by omega)]
      exact this
theorem range_all (n : Nat) (f : Nat → Bool) : (List.range n).all f = true ↔ ∀ i, i < n → f i = true := by
  simp
theorem pos_dec (z z' : List Int) (hz : z.length = 98) (hz' : z'.length = 98) (W : World) : (Op.equalIn 10000 28 (.agg (posC z).toArray) (.agg (posC z').toArray)).run Tryd.prog W = .ok (decide (z = z')) W := by
  have hfin : ((List.range 81).all (fun i => decide (at8 z i = at8 z' i)) && ((List.range 2).all (fun j => (List.range 8).all fun i => decide (at8 z (81 + (j * 8 + i)) = at8 z' (81 + (j * 8 + i)))) && (at8 z 97 == at8 z' 97))) = decide (z = z') := by
    rw [Bool.eq_iff_iff, decide_eq_true_iff, Bool.and_eq_true, Bool.and_eq_true, range_all, range_all]
    constructor
    · rintro ⟨h1, h2, h3⟩
      refine at8_ext _ _ hz hz' fun i hi => ?_
      by_cases c : i < 81
      · exact of_decide_eq_true (h1 i c)
      · by_cases c2 : i < 97
        · have := h2 ((i - 81) / 8) (by omega)
          rw [range_all] at this
          have := of_decide_eq_true (this ((i - 81) % 8) (by omega))
          rwa [show 81 + ((i - 81) / 8 * 8 + (i - 81) % 8) = i by omega] at this
        · rw [show i = 97 by omega]
          exact eq_of_beq h3
    · rintro rfl
      exact ⟨fun _ _ => decide_eq_true rfl, fun _ _ => (range_all _ _).2 fun _ _ => decide_eq_true rfl, beq_self_eq_true _⟩
  rw [← hfin]
  have hC : ∀ j, j < 98 → (posC z)[j]? = some (.int .i8 (at8 z j)) := fun j hj => posC_get z j (by omega)
  have hC' : ∀ j, j < 98 → (posC z')[j]? = some (.int .i8 (at8 z' j)) := fun j hj => posC_get z' j (by omega)
  generalize at8 z = a at *
  generalize at8 z' = a' at *
  generalize posC z = cs at hC
  generalize posC z' = cs' at hC'
  clear hfin
  rw [show (10000 : Nat) = 9999 + 1 from rfl, run_equalIn_struct W 9999 _ _ _ underPos stoodPos]
  have f0 := row_dec (P := Tryd.prog) 9997 _ _ 81 .i8 (cs.toArray.extract 0 81) (cs'.toArray.extract 0 81) a a' W Tryd.underlying24 Tryd.underlying23 plainPiece infoPiece (fun i hi => ext_int cs 0 81 i hi (by rw [Nat.zero_add]; exact hC i (by omega))) (fun i hi => ext_int cs' 0 81 i hi (by rw [Nat.zero_add]; exact hC' i (by omega)))
  have f1 := hands_dec 9996 (cs.toArray.extract 81 97) (cs'.toArray.extract 81 97) (fun i => a (81 + i)) (fun i => a' (81 + i)) W (fun i hi => ext_int cs 81 16 i hi (hC _ (by omega))) (fun i hi => ext_int cs' 81 16 i hi (hC' _ (by omega)))
  have f2 := run_equalIn_int (P := Tryd.prog) W 9998 22 .i8 .i8 (a 97) (a' 97) Tryd.underlying22
  have p0 : (part 24 cs.toArray 0).run Tryd.prog W = .ok (.agg (cs.toArray.extract 0 81)) W := run_part_row (P := Tryd.prog) W 24 81 _ cs.toArray 0 Tryd.underlying24 rfl infoB81
  have p1 : (part 26 cs.toArray 81).run Tryd.prog W = .ok (.agg (cs.toArray.extract 81 97)) W := run_part_row (P := Tryd.prog) W 26 16 _ cs.toArray 81 Tryd.underlying26 rfl infoH16
  have p2 : (part 22 cs.toArray 97).run Tryd.prog W = .ok (.int .i8 (a 97)) W := run_part_plain (P := Tryd.prog) W plainI8 (by simpa using hC 97 (by omega))
  have q0 : (part 24 cs'.toArray 0).run Tryd.prog W = .ok (.agg (cs'.toArray.extract 0 81)) W := run_part_row (P := Tryd.prog) W 24 81 _ cs'.toArray 0 Tryd.underlying24 rfl infoB81
  have q1 : (part 26 cs'.toArray 81).run Tryd.prog W = .ok (.agg (cs'.toArray.extract 81 97)) W := run_part_row (P := Tryd.prog) W 26 16 _ cs'.toArray 81 Tryd.underlying26 rfl infoH16
  have q2 : (part 22 cs'.toArray 97).run Tryd.prog W = .ok (.int .i8 (a' 97)) W := run_part_plain (P := Tryd.prog) W plainI8 (by simpa using hC' 97 (by omega))
  have hf := fieldsPos
  generalize (Tryd.prog.fieldsOf 28).toList = fs at hf ⊢
  obtain ⟨x, y, u, rfl⟩ := list_three fs (by have := congrArg List.length hf; simpa using this)
  · simp only [List.map_cons, List.map_nil, List.cons.injEq, Prod.mk.injEq, and_true] at hf
    obtain ⟨⟨a1, a2, a3⟩, ⟨b1, b2, b3⟩, c1, c2, c3⟩ := hf
    refine fields_dec _ _ _ _ _ _ _ _ _ _ (by rw [a1]; decide) (by rw [a2, a3]; exact p0) (by rw [a2, a3]; exact q0) (by rw [a2]; exact f0) ?_
    refine fields_dec _ _ _ _ _ _ _ _ _ _ (by rw [b1]; decide) (by rw [b2, b3]; exact p1) (by rw [b2, b3]; exact q1) (by rw [b2]; exact f1) ?_
    rw [← Bool.and_true (a 97 == a' 97)]
    refine fields_dec _ _ _ _ _ _ _ _ _ _ (by rw [c1]; decide) (by rw [c2, c3]; exact p2) (by rw [c2, c3]; exact q2) (by rw [c2]; exact f2) ?_
    rfl
end Go.Proofs.YtbopbekehccdmaaDoor

/-
  Games in memory: positions behind moves, and a move that was made, taken back.
-/
namespace Go.Proofs.YtbopbekehccdmaaDoor
open Go.RowKit
set_option linter.unusedVariables false
set_option linter.unusedSimpArgs false

/-- What a position keeps in a game: its length, its bounds, what stands, how many of each are in hand at most. -/
structure PosOk (z : List Int) (n : Int) : Prop where
  len : z.length = 98
  i8 : I8s z
  clean : Clean z
  hand : ∀ j, 81 ≤ j → j < 97 → 0 ≤ at8 z j ∧ at8 z j ≤ n
theorem PosOk.mono {z : List Int} {n m : Int} (h : PosOk z n) (k : n ≤ m) : PosOk z m := ⟨h.len, h.i8, h.clean, fun j a b => ⟨(h.hand j a b).1, Int.le_trans (h.hand j a b).2 k⟩⟩

theorem putZ_at8 (z : List Int) (q : Nat) (x : Int) (hq : q < 81) (hz : z.length = 98) (i : Nat) : at8 (putZ z q x) i = if i = q then (if kindF x = 0 then 0 else x) else at8 z i := by
  rw [putZ_at z q x hq, at8_set _ _ _ _ (by omega)]
theorem takeZ_at8 (z : List Int) (s : Nat) (y : Int) (k : Nat) (hk : rawF (kindF y) = k) (hk7 : k ≤ 7) (hs : s < 2) (hz : z.length = 98) (i : Nat) : at8 (takeZ z s y) i = if k ≠ 0 ∧ i = 81 + s * 8 + k then at8 z i + 1 else at8 z i := by
  unfold takeZ
  rw [hk]
  by_cases h0 : k = 0
  · subst h0
    simp
  · rw [if_neg (by omega), Int.toNat_natCast, at8_set _ _ _ _ (by omega)]
    by_cases hi : i = 81 + s * 8 + k
    · rw [if_pos hi, if_pos ⟨h0, hi⟩, hi]
    · rw [if_neg hi, if_neg (fun h => hi h.2)]
theorem behF_8 (x : Int) (p : Bool) (hx : -128 ≤ x ∧ x ≤ 127) : -128 ≤ behF x p ∧ behF x p ≤ 127 := by
  unfold behF
  split
  · have h1 := kind_side x
    unfold ofF
    have h2 : upF (kindF x) ≤ 15 ∧ 0 ≤ upF (kindF x) := by
      unfold upF
      split <;> omega
    repeat' split
    all_goals omega
  · exact hx

/-- What a move that can be made is, told by its parts: a drop, or a piece that goes. -/
theorem can_cases {z : List Int} {f t d : Int} {p : Bool} (hz : PosOk z 126) (h : canF z f t d p = true) :
    ∃ s tq : Nat, s < 2 ∧ at8 z 97 = s ∧ tq < 81 ∧ t = tq ∧
      ((∃ dn : Nat, 1 ≤ dn ∧ dn ≤ 7 ∧ d = dn ∧ f = 0 ∧ p = false ∧ 0 < at8 z (81 + s * 8 + dn) ∧ at8 z tq = 0) ∨
       (∃ fq k : Nat, fq < 81 ∧ f = fq ∧ d = 0 ∧ fq ≠ tq ∧ rawF (kindF (at8 z tq)) = k ∧ k ≤ 7 ∧ sideF (at8 z fq) = s ∧ sideF (at8 z tq) ≠ s ∧ (p = true → upF (kindF (at8 z fq)) ≠ 0))) := by
  obtain ⟨hck, hs, hm⟩ := canF_true h
  have hcc := (checkM_zero f t d p).1 hck
  obtain ⟨s, hsz, hs2⟩ : ∃ s : Nat, at8 z 97 = s ∧ s < 2 := ⟨(at8 z 97).toNat, by omega, by omega⟩
  obtain ⟨tq, rfl⟩ : ∃ j : Nat, t = j := ⟨t.toNat, by omega⟩
  refine ⟨s, tq, hs2, hsz, by omega, rfl, ?_⟩
  rw [hsz, Int.toNat_natCast] at hm
  rcases hm with ⟨rfl, hg⟩ | ⟨hd, hn, h0⟩
  · obtain ⟨g1, g2, g3, g4⟩ := goB_true hg
    obtain ⟨fq, rfl⟩ : ∃ i : Nat, f = i := ⟨f.toNat, by omega⟩
    rw [Int.toNat_natCast] at g1 g4
    have hk := kindF_le (at8 z tq)
    have hr := rawF_cases (kindF (at8 z tq))
    exact .inr ⟨fq, (rawF (kindF (at8 z tq))).toNat, by omega, rfl, rfl, by omega, by omega, by omega, g1, g2, g4⟩
  · obtain ⟨ht, hd7, rfl, rfl⟩ : (0 ≤ (tq : Int) ∧ (tq : Int) < 81) ∧ (1 ≤ d ∧ d ≤ 7) ∧ f = 0 ∧ p = false := by
      obtain ⟨a, h | ⟨h1, h2, h3, h4⟩⟩ := hcc
      · exact absurd h.1 hd
      · exact ⟨a, ⟨h1, h2⟩, h3, h4⟩
    obtain ⟨dn, rfl⟩ : ∃ dn : Nat, d = dn := ⟨d.toNat, by omega⟩
    unfold handF at hn
    rw [if_pos ⟨by omega, by omega⟩, Int.toNat_natCast, Int.toNat_natCast] at hn
    exact .inl ⟨dn, by omega, by omega, rfl, rfl, rfl, hn, h0⟩

theorem afterZ_drop (z : List Int) (s tq dn : Nat) (hs : at8 z 97 = s) (hd : 1 ≤ dn) : afterZ z 0 tq dn false = (putZ (z.set (81 + s * 8 + dn) (at8 z (81 + s * 8 + dn) + -1)) tq (ofF s dn)).set 97 (1 - (s : Int)) := by
  unfold afterZ midZ
  rw [if_neg (by omega), hs, Int.toNat_natCast, Int.toNat_natCast]
theorem afterZ_walk (z : List Int) (s fq tq : Nat) (p : Bool) (hs : at8 z 97 = s) : afterZ z fq tq 0 p = (putZ (putZ (takeZ z s (at8 z tq)) fq 0) tq (behF (at8 z fq) p)).set 97 (1 - (s : Int)) := by
  unfold afterZ midZ
  rw [if_pos rfl, hs, Int.toNat_natCast, Int.toNat_natCast, Int.toNat_natCast]

theorem at8_drop (z : List Int) (s tq dn : Nat) (hz : z.length = 98) (hs2 : s < 2) (hs : at8 z 97 = s) (htq : tq < 81) (hd : 1 ≤ dn ∧ dn ≤ 7) (i : Nat) :
    at8 (afterZ z 0 tq dn false) i = if i = 97 then 1 - (s : Int) else if i = tq then (if kindF (ofF s dn) = 0 then 0 else ofF s dn) else if i = 81 + s * 8 + dn then at8 z i - 1 else at8 z i := by
  rw [afterZ_drop z s tq dn hs hd.1, at8_set _ _ _ _ (by rw [putZ_len, List.length_set]; omega), putZ_at8 _ _ _ htq (by rw [List.length_set, hz]), at8_set _ _ _ _ (by omega)]
  repeat' split
  all_goals first | rfl | omega | (subst_vars; rfl) | skip
theorem at8_walk (z : List Int) (s fq tq k : Nat) (p : Bool) (hz : z.length = 98) (hs2 : s < 2) (hs : at8 z 97 = s) (hfq : fq < 81) (htq : tq < 81) (hft : fq ≠ tq) (hk : rawF (kindF (at8 z tq)) = k) (hk7 : k ≤ 7) (i : Nat) :
    at8 (afterZ z fq tq 0 p) i = if i = 97 then 1 - (s : Int) else if i = tq then (if kindF (behF (at8 z fq) p) = 0 then 0 else behF (at8 z fq) p) else if i = fq then 0 else if k ≠ 0 ∧ i = 81 + s * 8 + k then at8 z i + 1 else at8 z i := by
  rw [afterZ_walk z s fq tq p hs, at8_set _ _ _ _ (by rw [putZ_len, putZ_len, takeZ_len]; omega), putZ_at8 _ _ _ htq (by rw [putZ_len, takeZ_len, hz]), putZ_at8 _ _ _ hfq (by rw [takeZ_len, hz]), takeZ_at8 z s _ k hk hk7 hs2 hz, if_pos kind_zero]
theorem afterZ_len (z : List Int) (f t d : Int) (p : Bool) (hz : z.length = 98) : (afterZ z f t d p).length = 98 := by
  unfold afterZ
  rw [List.length_set, midZ_len, hz]
theorem i8s_of_at {z : List Int} (h : ∀ i, i < z.length → -128 ≤ at8 z i ∧ at8 z i ≤ 127) : I8s z := fun x hx => by
  obtain ⟨i, hi, rfl⟩ := List.mem_iff_getElem.1 hx
  have := h i hi
  unfold at8 at this
  rwa [List.getD_eq_getElem?_getD, List.getElem?_eq_getElem hi, Option.getD_some] at this

/-- The position behind a move is again one. -/
theorem afterZ_ok {z : List Int} {n : Int} {f t d : Int} {p : Bool} (hz : PosOk z n) (hn : n ≤ 126) (h : canF z f t d p = true) : PosOk (afterZ z f t d p) (n + 1) ∧ at8 (afterZ z f t d p) 97 = 1 - at8 z 97 := by
  obtain ⟨s, tq, hs2, hs, htq, rfl, ⟨dn, d1, d7, rfl, rfl, rfl, hpos, h0⟩ | ⟨fq, k, hfq, rfl, rfl, hft, hk, hk7, g1, g2, g4⟩⟩ := can_cases (hz.mono hn) h
  · have A := at8_drop z s tq dn hz.len hs2 hs htq ⟨d1, d7⟩
    have hof : -128 ≤ ofF s dn ∧ ofF s dn ≤ 127 := by
      unfold ofF
      repeat' split
      all_goals omega
    refine ⟨⟨afterZ_len _ _ _ _ _ hz.len, i8s_of_at fun i hi => ?_, fun q hq hk => ?_, fun j h1 h2 => ?_⟩, ?_⟩
    · have := hz.i8.at i
      have h3 := hz.hand (81 + s * 8 + dn) (by omega) (by omega)
      rw [A]
      repeat' split
      all_goals (subst_vars; omega)
    · rw [A] at hk ⊢
      rw [if_neg (by omega)] at hk ⊢
      by_cases c : q = tq
      · rw [if_pos c] at hk ⊢
        split
        · rfl
        · rename_i hh
          rw [if_neg hh] at hk
          exact absurd hk hh
      · rw [if_neg c, if_neg (by omega)] at hk ⊢
        exact hz.clean q hq hk
    · have := hz.hand j h1 h2
      rw [A]
      rw [if_neg (by omega), if_neg (by omega)]
      split
      · subst_vars; omega
      · omega
    · rw [A, if_pos rfl, hs]
  · have A := at8_walk z s fq tq k p hz.len hs2 hs hfq htq hft hk hk7
    have hb := behF_8 (at8 z fq) p (hz.i8.at fq)
    refine ⟨⟨afterZ_len _ _ _ _ _ hz.len, i8s_of_at fun i hi => ?_, fun q hq hk => ?_, fun j h1 h2 => ?_⟩, ?_⟩
    · have := hz.i8.at i
      rw [A]
      split
      · omega
      · split
        · split <;> omega
        · split
          · omega
          · split
            · rename_i hh
              have h3 := hz.hand i (by omega) (by omega)
              omega
            · omega
    · rw [A] at hk ⊢
      rw [if_neg (by omega)] at hk ⊢
      by_cases c : q = tq
      · rw [if_pos c] at hk ⊢
        split
        · rfl
        · rename_i hh
          rw [if_neg hh] at hk
          exact absurd hk hh
      · rw [if_neg c] at hk ⊢
        by_cases c2 : q = fq
        · rw [if_pos c2]
        · rw [if_neg c2, if_neg (fun h => by omega)] at hk ⊢
          exact hz.clean q hq hk
    · have := hz.hand j h1 h2
      rw [A, if_neg (by omega), if_neg (by omega), if_neg (by omega)]
      split <;> omega
    · rw [A, if_pos rfl, hs]

theorem back_made (B g b : Nat) (z : List Int) (v : Value) (L : List Md) (f t d : Int) (p : Bool) (hz : PosOk z 126) (hcan : canF z f t d p = true) (hL : L.length ≤ 1000) (w : World)
    (h : Gk w g b (afterZ z f t d p) v) (hp : Past w B g b v (L ++ [mdOf z f t d p])) :
    Calls Tryd.prog 37 #[.pointer (some ⟨g, 0, none⟩)] w fun e w' => e = .returned (.bool true) ∧ ∃ v', Gk w' g b z v' ∧ Past w' B g b v' L ∧ But2 g b w w' := by
  obtain ⟨hok, h97⟩ := afterZ_ok hz (Int.le_refl _) hcan
  obtain ⟨s, tq, hs2, hs, htq, rfl, ⟨dn, d1, d7, rfl, rfl, rfl, hpos, h0⟩ | ⟨fq, k, hfq, rfl, rfl, hft, hk, hk7, g1, g2, g4⟩⟩ := can_cases hz hcan
  · have A := at8_drop z s tq dn hz.len hs2 hs htq ⟨d1, d7⟩
    have hm : mdOf z 0 tq dn false = ⟨0, tq, dn, false, 0, 0⟩ := if_neg (by omega)
    rw [hm] at hp
    have hl := hok.len
    refine back_drop B g b _ z v L _ ⟨by dsimp only; omega, by dsimp only; omega⟩ (by dsimp only; omega) (by dsimp only; omega) (by dsimp only; omega) hL hl hok.i8 hok.clean (by omega) (fun W v hG => ?_) w h hp
    have e1 : putZ ((afterZ z 0 tq dn false).set 97 (1 - at8 (afterZ z 0 tq dn false) 97)) tq 0 = z.set (81 + s * 8 + dn) (at8 z (81 + s * 8 + dn) + -1) := by
      refine at8_ext _ _ (by rw [putZ_len, List.length_set, hl]) (by rw [List.length_set, hz.len]) fun i hi => ?_
      rw [putZ_at8 _ _ _ htq (by rw [List.length_set, hl]), at8_set _ _ _ _ (by omega), at8_set _ _ _ _ (by rw [hz.len]; omega), h97, A, if_pos kind_zero]
      repeat' split
      all_goals (first | omega | (subst_vars; omega) | (subst_vars; simp_all; done))
    dsimp only at hG ⊢
    rw [e1] at hG
    have hh := hz.hand (81 + s * 8 + dn) (by omega) (by omega)
    have hi8 : -128 ≤ at8 z (81 + s * 8 + dn) + -1 ∧ at8 z (81 + s * 8 + dn) + -1 ≤ 127 := by omega
    have H := hold_k g b _ v s dn 1 hs2 ⟨d1, d7⟩ (by rw [at8_set _ _ _ _ (by rw [hz.len]; omega), if_neg (by omega), hs]) (by rw [at8_set _ _ _ _ (by rw [hz.len]; omega), if_pos rfl]; omega) (by rw [List.length_set, hz.len]) (set_8 hz.i8 _ hi8) W hG
    have e2 : (z.set (81 + s * 8 + dn) (at8 z (81 + s * 8 + dn) + -1)).set (81 + s * 8 + dn) (at8 (z.set (81 + s * 8 + dn) (at8 z (81 + s * 8 + dn) + -1)) (81 + s * 8 + dn) + 1) = z := by
      refine at8_ext _ _ (by rw [List.length_set, List.length_set, hz.len]) hz.len fun i hi => ?_
      rw [at8_set _ _ _ _ (by rw [List.length_set, hz.len]; omega), at8_set _ _ _ _ (by rw [hz.len]; omega), at8_set _ _ _ _ (by rw [hz.len]; omega), if_pos rfl]
      split
      · subst_vars; omega
      · rfl
    rw [e2] at H
    exact H
  · have A := at8_walk z s fq tq k p hz.len hs2 hs hfq htq hft hk hk7
    have hm : mdOf z fq tq 0 p = ⟨fq, tq, 0, p, at8 z fq, at8 z tq⟩ := (if_pos rfl).trans (by rw [Int.toNat_natCast, Int.toNat_natCast])
    rw [hm] at hp
    have hl := hok.len
    refine back_walk B g b _ z v L _ ⟨by dsimp only; omega, by dsimp only; omega⟩ (hz.i8.at fq) (hz.i8.at tq) rfl hL hl hok.i8 hok.clean (by omega) (fun W v hG => ?_) w h hp
    have e1 : putZ (putZ ((afterZ z fq tq 0 p).set 97 (1 - at8 (afterZ z fq tq 0 p) 97)) tq (at8 z tq)) fq (at8 z fq) = takeZ z s (at8 z tq) := by
      refine at8_ext _ _ (by rw [putZ_len, putZ_len, List.length_set, hl]) (by rw [takeZ_len, hz.len]) fun i hi => ?_
      rw [putZ_at8 _ _ _ hfq (by rw [putZ_len, List.length_set, hl]), putZ_at8 _ _ _ htq (by rw [List.length_set, hl]), at8_set _ _ _ _ (by omega), h97, A, takeZ_at8 z s _ k hk hk7 hs2 hz.len]
      have c1 := hz.clean fq hfq
      have c2 := hz.clean tq htq
      by_cases j1 : i = fq
      · subst j1
        rw [if_pos rfl, if_neg (show ¬ (k ≠ 0 ∧ i = 81 + s * 8 + k) from fun h => by omega)]
        split
        · rename_i hh; exact (c1 hh).symm
        · rfl
      · rw [if_neg j1]
        by_cases j2 : i = tq
        · subst j2
          rw [if_pos rfl, if_neg (show ¬ (k ≠ 0 ∧ i = 81 + s * 8 + k) from fun h => by omega)]
          split
          · rename_i hh; exact (c2 hh).symm
          · rfl
        · rw [if_neg j2]
          by_cases j3 : i = 97
          · subst j3
            rw [if_pos rfl, if_neg (fun h => by omega)]
            omega
          · rw [if_neg j3, if_neg j3, if_neg j2, if_neg j1]
    dsimp only at hG ⊢
    rw [e1] at hG
    by_cases hk0 : k = 0
    · subst hk0
      rw [hk]
      rw [show takeZ z s (at8 z tq) = z from if_pos (by rw [hk]; rfl)] at hG
      exact (hold_none g (-1) W).mono fun e w' ⟨he, hw⟩ => ⟨he, by rw [← hw]; exact hG, by rw [← hw]; exact But2.refl g b W⟩
    · rw [hk]
      have T := takeZ_at8 z s (at8 z tq) k hk hk7 hs2 hz.len
      have hh := hz.hand (81 + s * 8 + k) (by omega) (by omega)
      have tl : (takeZ z s (at8 z tq)).length = 98 := by rw [takeZ_len, hz.len]
      have H := hold_k g b _ v s k (-1) hs2 ⟨by omega, hk7⟩ (by rw [T, if_neg (fun h => by omega), hs]) (by rw [T, if_pos ⟨hk0, rfl⟩]; omega) tl (takeZ_8 z s _ (by omega) hz.i8 (fun j a b => (hz.hand j a b).2) hs2) W hG
      have e2 : (takeZ z s (at8 z tq)).set (81 + s * 8 + k) (at8 (takeZ z s (at8 z tq)) (81 + s * 8 + k) + -1) = z := by
        refine at8_ext _ _ (by rw [List.length_set, tl]) hz.len fun i hi => ?_
        rw [at8_set _ _ _ _ (by rw [tl]; omega), T, T]
        by_cases hne : i = 81 + s * 8 + k
        · rw [if_pos hne, if_pos (show k ≠ 0 ∧ 81 + s * 8 + k = 81 + s * 8 + k from ⟨hk0, rfl⟩), hne]; omega
        · rw [if_neg hne, if_neg (fun h => hne h.2)]
      rw [e2] at H
      exact H
end Go.Proofs.YtbopbekehccdmaaDoor

/-
  What a position that passes the reference's Check keeps; its hands; hands behind a move.
-/
namespace Go.Proofs.YtbopbekehccdmaaDoor
open Go.RowKit
set_option linter.unusedVariables false
set_option linter.unusedSimpArgs false

theorem chk_zero (z : List Int) (h : checkF z = 0) : (at8 z 97 = 0 ∨ at8 z 97 = 1) ∧ knownB z = true ∧ allB (fewB (FH z 16)) 9 = true := by
  unfold checkF chkF at h
  split at h
  · exact absurd h (by decide)
  · rename_i h1
    split at h
    · exact absurd h (by decide)
    · rename_i h2
      split at h
      · exact absurd h (by decide)
      · split at h
        · exact absurd h (by decide)
        · rename_i h4
          exact ⟨Decidable.not_not.1 h1, by simpa using h2, by simpa using h4⟩
theorem chk_hands (z : List Int) (h8 : I8s z) (h : checkF z = 0) : ∀ j, 81 ≤ j → j < 97 → 0 ≤ at8 z j ∧ at8 z j ≤ 18 := by
  obtain ⟨_, hk, hf⟩ := chk_zero z h
  have hH : ∀ j, j < 16 → knownH z j = true := by
    unfold knownB at hk
    exact (allB_iff _ _).1 (Bool.and_eq_true_iff.1 hk).2
  have h0 : ∀ j, j < 16 → 0 ≤ at8 z (81 + j) ∧ (j % 8 = 0 → at8 z (81 + j) = 0) := fun j hj => by
    have := hH j hj
    unfold knownH at this
    simp at this
    exact ⟨by omega, fun e => this.2.resolve_left (fun h => h e)⟩
  have hF := (allB_iff _ _).1 hf
  intro j a b
  obtain ⟨i, rfl⟩ : ∃ i, j = 81 + i := ⟨j - 81, by omega⟩
  have hi := h0 i (by omega)
  refine ⟨hi.1, ?_⟩
  by_cases hm : i % 8 = 0
  · have := hi.2 hm
    omega
  · have hk := hF (i % 8) (by omega)
    unfold fewB at hk
    have hk := of_decide_eq_true hk
    rw [kind_count z h8 (i % 8) ⟨by omega, by omega⟩] at hk
    have ht : totalF ((i % 8 : Nat) : Int) ≤ 18 := by
      unfold totalF
      repeat' split
      all_goals omega
    have g0 := (h0 (i % 8) (by omega)).1
    have g1 := (h0 (8 + i % 8) (by omega)).1
    rw [show 81 + (8 + i % 8) = 89 + i % 8 by omega] at g1
    by_cases hl : i < 8
    · rw [show i % 8 = i by omega] at hk g0 g1 ht
      omega
    · rw [show 89 + i % 8 = 81 + i by omega] at hk
      omega

/-- What is in hand, as a list. -/
def hz (z : List Int) : List Int := (z.drop 81).take 16
theorem hz_len (z : List Int) (h : z.length = 98) : (hz z).length = 16 := by
  unfold hz
  rw [List.length_take, List.length_drop]
  omega
theorem hz_at (z : List Int) (j : Nat) (hj : j < 16) : at8 (hz z) j = at8 z (81 + j) := by
  unfold hz at8
  rw [List.getD_eq_getElem?_getD, List.getD_eq_getElem?_getD, List.getElem?_take, if_pos hj, List.getElem?_drop]
theorem ext16 (l m : List Int) (hl : l.length = 16) (hm : m.length = 16) (h : ∀ i, i < 16 → at8 l i = at8 m i) : l = m := by
  apply List.ext_getElem?
  intro i
  by_cases hi : i < 16
  · have := h i hi
    unfold at8 at this
    rw [List.getD_eq_getElem?_getD, List.getD_eq_getElem?_getD, List.getElem?_eq_getElem (by omega), List.getElem?_eq_getElem (by omega), Option.getD_some, Option.getD_some] at this
    rw [List.getElem?_eq_getElem (by omega), List.getElem?_eq_getElem (by omega), this]
  · rw [List.getElem?_eq_none (by omega), List.getElem?_eq_none (by omega)]
theorem hands_self (h : List Int) (hl : h.length = 16) (W : World) : (Op.equalIn 10000 26 (.agg (posC h).toArray) (.agg (posC h).toArray)).run Tryd.prog W = .ok true W := by
  have g : ∀ i, i < 16 → (posC h).toArray[i]? = some (.int .i8 (at8 h i)) := fun i hi => by
    rw [List.getElem?_toArray]
    exact posC_get h i (by omega)
  rw [show (10000 : Nat) = 9997 + 3 from rfl, hands_dec 9997 _ _ (at8 h) (at8 h) W g g]
  congr 1
  rw [range_all]
  intro j _
  rw [range_all]
  intro i _
  exact decide_eq_true rfl
theorem hands_range {W : World} {b : Nat} {z : List Int} (h : PosAt W b z) (hl : z.length = 98) : W.rangeAt b 81 (posC (hz z)) := fun j v hj => by
  have hj16 : j < 16 := by
    have := (List.getElem?_eq_some_iff.1 hj).1
    rwa [posC_len, hz_len z hl] at this
  rw [posC_get (hz z) j (by rw [hz_len z hl]; exact hj16), hz_at z j hj16] at hj
  rw [← hj]
  exact h.cell (81 + j) (by omega)

theorem hz_drop (z : List Int) (s tq dn : Nat) (hl : z.length = 98) (hs2 : s < 2) (hs : at8 z 97 = s) (htq : tq < 81) (hd : 1 ≤ dn ∧ dn ≤ 7) :
    hz (afterZ z 0 tq dn false) = (hz z).set (s * 8 + dn) (at8 z (81 + s * 8 + dn) + -1) := by
  refine ext16 _ _ (hz_len _ (afterZ_len _ _ _ _ _ hl)) (by rw [List.length_set, hz_len z hl]) fun i hi => ?_
  rw [hz_at _ i hi, at8_drop z s tq dn hl hs2 hs htq hd, at8_set _ _ _ _ (by rw [hz_len z hl]; omega), if_neg (by omega), if_neg (by omega)]
  by_cases h : i = s * 8 + dn
  · rw [if_pos (by omega), if_pos h, h, show 81 + (s * 8 + dn) = 81 + s * 8 + dn by omega]
    omega
  · rw [if_neg (by omega), if_neg h, hz_at z i hi]
theorem hz_walk (z : List Int) (s fq tq k : Nat) (p : Bool) (hl : z.length = 98) (hs2 : s < 2) (hs : at8 z 97 = s) (hfq : fq < 81) (htq : tq < 81) (hft : fq ≠ tq) (hk : rawF (kindF (at8 z tq)) = k) (hk7 : k ≤ 7) :
    hz (afterZ z fq tq 0 p) = if k = 0 then hz z else (hz z).set (s * 8 + k) (at8 z (81 + s * 8 + k) + 1) := by
  have A := at8_walk z s fq tq k p hl hs2 hs hfq htq hft hk hk7
  split
  · rename_i h0
    refine ext16 _ _ (hz_len _ (afterZ_len _ _ _ _ _ hl)) (hz_len z hl) fun i hi => ?_
    rw [hz_at _ i hi, A, if_neg (by omega), if_neg (by omega), if_neg (by omega), if_neg (fun h => h.1 h0), hz_at z i hi]
  · rename_i h0
    refine ext16 _ _ (hz_len _ (afterZ_len _ _ _ _ _ hl)) (by rw [List.length_set, hz_len z hl]) fun i hi => ?_
    rw [hz_at _ i hi, A, at8_set _ _ _ _ (by rw [hz_len z hl]; omega), if_neg (by omega), if_neg (by omega), if_neg (by omega)]
    by_cases h : i = s * 8 + k
    · rw [if_pos ⟨h0, by omega⟩, if_pos h, h, show 81 + (s * 8 + k) = 81 + s * 8 + k by omega]
    · rw [if_neg (fun e => by omega), if_neg h, hz_at z i hi]

theorem side_div (x : Int) (s : Nat) (hs : s < 2) (h : sideF x = s) : Int.tdiv x 16 = s ∧ 1 ≤ x ∧ x ≤ 31 ∧ kindF x ≠ 0 := by
  have := kind_side x
  rcases this with ⟨h1, h2⟩ | ⟨h1, h2, h3, h4⟩ | ⟨h1, h2, h3, h4⟩
  · omega
  · rw [Int.tdiv_eq_ediv_of_nonneg (by omega)]; omega
  · rw [Int.tdiv_eq_ediv_of_nonneg (by omega)]; omega
theorem of_side : ∀ s : Nat, s < 2 → ∀ k : Nat, k < 16 → ofF s k ≠ 0 → sideF (ofF s k) = s := by decide +kernel
theorem beh_side (x : Int) (p : Bool) (s : Nat) (hs : s < 2) (h : sideF x = s) (hp : p = true → upF (kindF x) ≠ 0) : sideF (behF x p) = s := by
  unfold behF
  split
  · rename_i h1
    have h2 := hp h1
    rw [h]
    have h3 : 0 ≤ upF (kindF x) ∧ upF (kindF x) < 16 ∧ rawF (upF (kindF x)) ≠ 0 := by
      have h4 := rawF_cases (upF (kindF x))
      unfold upF at h2 h4 ⊢
      split at h2
      · rename_i h5
        rw [if_pos h5] at h4 ⊢
        omega
      · exact absurd rfl h2
    obtain ⟨k, hk⟩ : ∃ k : Nat, upF (kindF x) = k := ⟨(upF (kindF x)).toNat, by omega⟩
    rw [hk] at h3 ⊢
    refine of_side s hs k (by omega) ?_
    unfold ofF
    rw [if_neg h3.2.2]
    repeat' split
    all_goals omega
  · exact h
/-- What stands where a move went is the mover's. -/
theorem to_side (z : List Int) (f t d : Int) (p : Bool) (hz : PosOk z 126) (h : canF z f t d p = true) (s tq : Nat) (hs2 : s < 2) (hs : at8 z 97 = s) (ht : t = tq) : Int.tdiv (at8 (afterZ z f t d p) tq) 16 = s ∧ 1 ≤ at8 (afterZ z f t d p) tq ∧ at8 (afterZ z f t d p) tq ≤ 31 := by
  obtain ⟨s', tq', hs2', hs', htq', rfl, ⟨dn, d1, d7, rfl, rfl, rfl, hpos, h0⟩ | ⟨fq, k, hfq, rfl, rfl, hft, hk, hk7, g1, g2, g4⟩⟩ := can_cases hz h
  · obtain rfl : s' = s := by omega
    obtain rfl : tq' = tq := by omega
    have hd := side_div (ofF s' dn) s' hs2 (of_side s' hs2 dn (by omega) (by
      unfold ofF
      have := rawF_cases (dn : Int)
      rw [if_neg (by omega)]
      repeat' split
      all_goals omega))
    rw [at8_drop z s' tq' dn hz.len hs2 hs htq' ⟨d1, d7⟩, if_neg (by omega), if_pos rfl, if_neg hd.2.2.2]
    exact ⟨hd.1, hd.2.1, hd.2.2.1⟩
  · obtain rfl : s' = s := by omega
    obtain rfl : tq' = tq := by omega
    have hd := side_div _ s' hs2 (beh_side (at8 z fq) p s' hs2 g1 g4)
    rw [at8_walk z s' fq tq' k p hz.len hs2 hs hfq htq' hft hk hk7, if_neg (by omega), if_pos rfl, if_neg hd.2.2.2]
    exact ⟨hd.1, hd.2.1, hd.2.2.1⟩
end Go.Proofs.YtbopbekehccdmaaDoor

/-
  No move makes or loses a piece: how many there are of each kind, on the board and in hand, behind a move.
-/
namespace Go.Proofs.YtbopbekehccdmaaDoor
open Go.RowKit
set_option linter.unusedVariables false
set_option linter.unusedSimpArgs false

def oneB (b : Bool) : Int := if b then 1 else 0
theorem ob0 : oneB false = 0 := rfl
theorem ob1 : oneB true = 1 := rfl
theorem cnt_step (z : List Int) (f : Int → Bool) (n : Nat) : (cntN z f (n + 1) : Int) = cntN z f n + oneB (f (at8 z n)) := by
  rw [cntN]
  unfold oneB
  split <;> simp
theorem cnt_set (z : List Int) (f : Int → Bool) (q : Nat) (v : Int) : ∀ n, q < n → n ≤ z.length → (cntN (z.set q v) f n : Int) + oneB (f (at8 z q)) = cntN z f n + oneB (f v)
  | 0, h, _ => absurd h (by omega)
  | n + 1, h, hl => by
    rw [cnt_step, cnt_step]
    by_cases hq : q = n
    · subst hq
      rw [at8_set _ _ _ _ (by omega), if_pos rfl, cntN_congr (z.set q v) z f f q (fun i hi => by rw [at8_set _ _ _ _ (by omega), if_neg (by omega)])]
      omega
    · have ih := cnt_set z f q v n (by omega) (by omega)
      rw [at8_set _ _ _ _ (by omega), if_neg (by omega)]
      omega
theorem up_raw : ∀ n : Nat, n < 32 → upF (kindF n) ≠ 0 → rawF (kindF (ofF (sideF n) (upF (kindF n)))) = rawF (kindF n) ∧ kindF (ofF (sideF n) (upF (kindF n))) ≠ 0 := by decide +kernel
theorem of_raw : ∀ s : Nat, s < 2 → ∀ d : Nat, d < 8 → 1 ≤ d → rawF (kindF (ofF s d)) = d ∧ kindF (ofF s d) ≠ 0 := by decide +kernel
theorem beh_raw (x : Int) (p : Bool) (s : Nat) (hs : s < 2) (h : sideF x = s) (hp : p = true → upF (kindF x) ≠ 0) : rawF (kindF (behF x p)) = rawF (kindF x) ∧ kindF (behF x p) ≠ 0 := by
  obtain ⟨_, h1, h2, h3⟩ := side_div x s hs h
  unfold behF
  split
  · rename_i hp1
    obtain ⟨n, rfl⟩ : ∃ n : Nat, x = n := ⟨x.toNat, by omega⟩
    exact up_raw n (by omega) (hp hp1)
  · exact ⟨rfl, h3⟩
theorem rawB_zero (k : Nat) (hk : 1 ≤ k) : rawB k 0 = false := by
  unfold rawB
  rw [kind_zero]
  exact decide_eq_false (by show ¬ (0 : Int) = k; omega)
/-- Of each kind there are as many behind a move as ahead of it. -/
theorem pieces_same (z : List Int) (f t d : Int) (p : Bool) (hz : PosOk z 126) (h : canF z f t d p = true) (k : Nat) (hk : 1 ≤ k ∧ k ≤ 7) :
    (cntN (afterZ z f t d p) (rawB k) 81 : Int) + at8 (afterZ z f t d p) (81 + k) + at8 (afterZ z f t d p) (89 + k) = (cntN z (rawB k) 81 : Int) + at8 z (81 + k) + at8 z (89 + k) := by
  have hl := hz.len
  obtain ⟨s, tq, hs2, hs, htq, rfl, ⟨dn, d1, d7, rfl, rfl, rfl, hpos, h0⟩ | ⟨fq, j, hfq, rfl, rfl, hft, hj, hj7, g1, g2, g4⟩⟩ := can_cases hz h
  · have A := at8_drop z s tq dn hl hs2 hs htq ⟨d1, d7⟩
    obtain ⟨r1, r2⟩ := of_raw s hs2 dn (by omega) d1
    have C := cnt_set z (rawB k) tq (ofF s dn) 81 htq (by omega)
    rw [h0, rawB_zero k hk.1] at C
    rw [cntN_congr (afterZ z 0 tq dn false) (z.set tq (ofF s dn)) (rawB k) (rawB k) 81 (fun i hi => by
      rw [A, if_neg (by omega), at8_set _ _ _ _ (by omega), if_neg r2]
      split
      · rfl
      · rw [if_neg (by omega)])]
    have A1 : at8 (afterZ z 0 tq dn false) (81 + k) = if 81 + k = 81 + s * 8 + dn then at8 z (81 + k) - 1 else at8 z (81 + k) := by rw [A, if_neg (by omega), if_neg (by omega)]
    have A2 : at8 (afterZ z 0 tq dn false) (89 + k) = if 89 + k = 81 + s * 8 + dn then at8 z (89 + k) - 1 else at8 z (89 + k) := by rw [A, if_neg (by omega), if_neg (by omega)]
    rw [A1, A2]
    have e : rawB k (ofF s dn) = decide (dn = k) := by
      unfold rawB
      rw [r1]
      by_cases c : dn = k
      · rw [decide_eq_true c]; exact decide_eq_true (by omega)
      · rw [decide_eq_false c]; exact decide_eq_false (by omega)
    rw [e] at C
    obtain rfl | rfl : s = 0 ∨ s = 1 := by omega
    · by_cases c : dn = k
      · subst c
        rw [if_pos (by omega), if_neg (by omega)]
        rw [decide_eq_true rfl, ob0, ob1] at C
        omega
      · rw [if_neg (by omega), if_neg (by omega)]
        rw [decide_eq_false c, ob0] at C
        omega
    · by_cases c : dn = k
      · subst c
        rw [if_neg (by omega), if_pos (by omega)]
        rw [decide_eq_true rfl, ob0, ob1] at C
        omega
      · rw [if_neg (by omega), if_neg (by omega)]
        rw [decide_eq_false c, ob0] at C
        omega
  · have A := at8_walk z s fq tq j p hl hs2 hs hfq htq hft hj hj7
    obtain ⟨r1, r2⟩ := beh_raw (at8 z fq) p s hs2 g1 g4
    have C1 := cnt_set z (rawB k) fq 0 81 hfq (by omega)
    have C2 := cnt_set (z.set fq 0) (rawB k) tq (behF (at8 z fq) p) 81 htq (by rw [List.length_set]; omega)
    rw [at8_set _ _ _ _ (by omega), if_neg (by omega)] at C2
    rw [rawB_zero k hk.1] at C1
    rw [cntN_congr (afterZ z fq tq 0 p) ((z.set fq 0).set tq (behF (at8 z fq) p)) (rawB k) (rawB k) 81 (fun i hi => by
      rw [A, if_neg (by omega), at8_set _ _ _ _ (by rw [List.length_set]; omega), if_neg r2]
      split
      · rfl
      · rw [at8_set _ _ _ _ (by omega)]
        split
        · rfl
        · rw [if_neg (by omega)])]
    have A1 : at8 (afterZ z fq tq 0 p) (81 + k) = if j ≠ 0 ∧ 81 + k = 81 + s * 8 + j then at8 z (81 + k) + 1 else at8 z (81 + k) := by rw [A, if_neg (by omega), if_neg (by omega), if_neg (by omega)]
    have A2 : at8 (afterZ z fq tq 0 p) (89 + k) = if j ≠ 0 ∧ 89 + k = 81 + s * 8 + j then at8 z (89 + k) + 1 else at8 z (89 + k) := by rw [A, if_neg (by omega), if_neg (by omega), if_neg (by omega)]
    rw [A1, A2]
    have e1 : rawB k (behF (at8 z fq) p) = rawB k (at8 z fq) := by unfold rawB; rw [r1]
    have e2 : rawB k (at8 z tq) = decide (j = k) := by
      unfold rawB
      rw [hj]
      by_cases c : j = k
      · rw [decide_eq_true c]; exact decide_eq_true (by omega)
      · rw [decide_eq_false c]; exact decide_eq_false (by omega)
    rw [e1, e2] at C2
    generalize oneB (rawB k (at8 z fq)) = ob at *
    obtain rfl | rfl : s = 0 ∨ s = 1 := by omega
    · by_cases c : j = k
      · subst c
        rw [if_pos (by omega), if_neg (by omega)]
        rw [ob0] at C1
        rw [decide_eq_true rfl, ob1] at C2
        omega
      · rw [if_neg (by omega), if_neg (by omega)]
        rw [ob0] at C1
        rw [decide_eq_false c, ob0] at C2
        omega
    · by_cases c : j = k
      · subst c
        rw [if_neg (by omega), if_pos (by omega)]
        rw [ob0] at C1
        rw [decide_eq_true rfl, ob1] at C2
        omega
      · rw [if_neg (by omega), if_neg (by omega)]
        rw [ob0] at C1
        rw [decide_eq_false c, ob0] at C2
        omega
end Go.Proofs.YtbopbekehccdmaaDoor

/-
  What the walks of layer 9's laws begin with: the position and the move that were handed over.
-/
namespace Go.Proofs.YtbopbekehccdmaaDoor
open Go.RowKit
set_option linter.unusedVariables false
set_option linter.unusedSimpArgs false

/-- The position and the move that were handed over. -/
def RB (w : World) (z : List Int) (M : Array Value) (W : World) : Prop :=
  PosAt W w.heap.size z ∧ W.heap[w.heap.size + 1]? = some (.cells M 64) ∧ Below w.heap.size w W
theorem RB.start (w : World) (z : List Int) (M : Array Value) : RB w z M ((w.alloc (.cells (posC z).toArray 28)).alloc (.cells M 64)) := by
  refine ⟨?_, ?_, ball (ball (bref w) _) _⟩
  · show ((w.heap.push _).push _)[w.heap.size]? = _
    simp [Array.getElem?_push]
  · show ((w.heap.push _).push _)[w.heap.size + 1]? = _
    rw [Array.getElem?_push, if_pos (by simp)]
theorem RB.grow {w W W' : World} {z : List Int} {M : Array Value} (h : RB w z M W) (hb : Below W.heap.size W W') : RB w z M W' :=
  ⟨h.1.grow hb, (hb.block _ (lt_of_row' h.2.1)).trans h.2.1, bthen h.2.2 hb⟩
theorem RB.but3 {w W W' : World} {z : List Int} {M : Array Value} {g b : Nat} (h : RB w z M W) (hb : But3 g b none W W') (hg : w.heap.size + 1 < g) (hbb : w.heap.size + 1 < b) : RB w z M W' :=
  ⟨hb.row h.1 (by omega) (by omega) (by simp), hb.row h.2.1 (by omega) (by omega) (by simp), h.2.2.trans (hb.below (by omega) (by omega) (by simp) h.2.2.size)⟩
theorem RB.setRow {w W : World} {z z' : List Int} {M : Array Value} (h : RB w z M W) : RB w z' M (W.setRow w.heap.size (posC z').toArray) :=
  ⟨setRow_heap _ _ _ _ _ _ h.1, (setRow_other _ _ _ _ (by omega)).trans h.2.1, below_row h.2.2 (Nat.le_refl _) _⟩
theorem load_row_want {P : Program} {ops : Array Oper} {rest : List Oper} {o : Oper} {a : Act} {w : World} {Q : Exit → Act → World → Prop} (hw : Region.wanted o (yielded ops a.tmps) = true) (ty : TypeId) (x : Operand) (ho : o.op = .load ty x)
    (g : Nat) (hx : a.eval x = .pointer (some ⟨g, 0, none⟩)) (t : TypeId) (cs : Array Value) (fr : Nat × Nat) (d : TypeDesc) (hg : w.heap[g]? = some (.cells cs t fr))
    (hu : P.underlying ty = some d) (hd : (match d with | .struct _ | .array _ _ => true | _ => false) = true) (hi : (P.info? ty).map (·.size) = some cs.size)
    (h : wpList P ops Q rest (a.put o.dst (.agg cs)) w) : wpList P ops Q (o :: rest) a w :=
  wpList_step fun K hK => by
    rw [if_pos hw]
    exact wp_load_row ty x ho g hx t cs fr d hg hu hd hi (hK _ _ h)
theorem fresh_below (W : World) (o : Obj) (cs : Array Value) : Below W.heap.size W ((W.alloc o).setRow W.heap.size cs) := below_row (ball (bref W) o) (Nat.le_refl _) _
theorem fresh_pos (W : World) (z : List Int) : PosAt ((W.alloc (.cells Tryd.zeroCells28 28)).setRow W.heap.size (posC z).toArray) W.heap.size z := setRow_heap _ _ _ _ _ _ (heap_alloc_new W _)

end Go.Proofs.YtbopbekehccdmaaDoor

set_option maxRecDepth 100000

/-
  Arrays of whole numbers and of sets, handed over by value, opened.
-/
namespace Go.Proofs.YtbopbekehccdmaaDoor
open Go.ChangeShapes Go.WideShapes Go.ChangeAt Go.RowKit
set_option linter.unusedVariables false
set_option linter.unusedSimpArgs false

section
variable {H : Type} {enc : TypeId × Value → H} {W : World} {b0 b1 : Nat} {sp : Nat → Bool} {r : Reach} {v : Value} {d : DataW H} {ps : List MemPlace}

theorem take_one {cs : List Value} {o : Nat} {k : IntKind} {a : Int} (h : (cs.drop o).take 1 = [.int k a]) : cs[o]? = some (.int k a) := by
  have := congrArg (fun l => l[0]?) h
  simpa [List.getElem?_take, List.getElem?_drop] using this
/-- An array of whole numbers of one kind, opened: each of its cells. -/
theorem cells_ints {P : Program} {t e : TypeId} {n : Nat} {k : IntKind} {fuel : Nat} {cs : List Value} {x : DataW H × List MemPlace} (ht : P.underlying t = some (.array n e)) (he : P.underlying e = some (.int k)) (hc : P.cellsOf e = 1)
    (h : DataW.trod enc P W b0 sp true fuel t cs = some x) : ∀ j, j < n → ∃ a, cs[j]? = some (.int k a) ∧ (Lit.int k a).wf = true := by
  obtain ⟨xs, m, _, _, hl, hlen, hf⟩ := DataW.trod_array ht h
  intro j hj
  have hj2 := hf j hj
  rw [List.getElem?_eq_getElem (by omega), hc, Nat.mul_one] at hj2
  obtain ⟨a, ha, _, hw⟩ := DataW.trod_int he hj2
  exact ⟨a, take_one ha, hw⟩


theorem cellsInt0 : Tryd.prog.cellsOf 3 = 1 := by kernel_rfl
theorem cellsArr2 : Tryd.prog.cellsOf 74 = 2 := by kernel_rfl
theorem open_arr2int (hv : Value.okWide Tryd.prog W r b1 74 v) (h : DataW.Trod enc Tryd.prog W b0 sp true 74 v d ps) :
    ∃ x y : Int, v = .agg #[.int .i64 x, .int .i64 y] ∧ (Lit.int .i64 x).wf = true ∧ (Lit.int .i64 y).wf = true := by
  simp only [Value.okWide, Tryd.underlying74] at hv
  obtain ⟨cs, rfl, hsz, _⟩ := hv
  rw [cellsArr2] at hsz
  obtain ⟨fuel, hf⟩ := h
  have hk := cells_ints Tryd.underlying74 Tryd.underlying3 cellsInt0 hf
  obtain ⟨x, hx, wx⟩ := hk 0 (by omega)
  obtain ⟨y, hy, wy⟩ := hk 1 (by omega)
  refine ⟨x, y, ?_, wx, wy⟩
  congr 1
  apply Array.ext_getElem?
  intro i
  simp only [Value.cells, Array.getElem?_toList] at hx hy
  rcases i with _ | _ | i
  · simpa using hx
  · simpa using hy
  · rw [Array.getElem?_eq_none (by omega)]
    simp
theorem cellsS2 : Tryd.prog.cellsOf 40 = 2 := by kernel_rfl
theorem cellsU1 : Tryd.prog.cellsOf 38 = 1 := by kernel_rfl
theorem cellsArr2S : Tryd.prog.cellsOf 43 = 4 := by kernel_rfl
theorem open_arr2set (hv : Value.okWide Tryd.prog W r b1 43 v) (h : DataW.Trod enc Tryd.prog W b0 sp true 43 v d ps) :
    ∃ x y z u : Int, v = .agg #[.int .u64 x, .int .u64 y, .int .u64 z, .int .u64 u] ∧ (Lit.int .u64 x).wf = true ∧ (Lit.int .u64 y).wf = true ∧ (Lit.int .u64 z).wf = true ∧ (Lit.int .u64 u).wf = true := by
  simp only [Value.okWide, Tryd.underlying43] at hv
  obtain ⟨cs, rfl, hsz, _⟩ := hv
  rw [cellsArr2S] at hsz
  obtain ⟨fuel, hf⟩ := h
  obtain ⟨xs, m, _, _, hl, hlen, hx⟩ := DataW.trod_array Tryd.underlying43 hf
  have key : ∀ j, j < 2 → ∃ a b : Int, cs.toList[2 * j]? = some (.int .u64 a) ∧ cs.toList[2 * j + 1]? = some (.int .u64 b) ∧ (Lit.int .u64 a).wf = true ∧ (Lit.int .u64 b).wf = true := by
    intro j hj
    have hj2 := hx j hj
    rw [List.getElem?_eq_getElem (by omega), cellsS2] at hj2
    obtain ⟨y0, y1, n, _, _, h0, h1⟩ := trod_struct2 Tryd.underlying40 hj2
    have h0 : DataW.trod enc Tryd.prog W b0 sp true n 38 (List.take (Tryd.prog.cellsOf 38) (List.drop 0 (List.take 2 (List.drop (j * 2) cs.toList)))) = some y0 := h0
    have h1 : DataW.trod enc Tryd.prog W b0 sp true n 38 (List.take (Tryd.prog.cellsOf 38) (List.drop 1 (List.take 2 (List.drop (j * 2) cs.toList)))) = some y1 := h1
    rw [cellsU1] at h0 h1
    obtain ⟨a, ha, _, wa⟩ := DataW.trod_int Tryd.underlying38 h0
    obtain ⟨b, hb, _, wb⟩ := DataW.trod_int Tryd.underlying38 h1
    have ha := take_one ha
    have hb := take_one hb
    simp only [List.getElem?_take, List.getElem?_drop] at ha hb
    rw [if_pos (by omega), show j * 2 + 0 = 2 * j by omega] at ha
    rw [if_pos (by omega), show j * 2 + 1 = 2 * j + 1 by omega] at hb
    exact ⟨a, b, ha, hb, wa, wb⟩
  obtain ⟨x, y, hx0, hy0, wx, wy⟩ := key 0 (by omega)
  obtain ⟨z, u, hz0, hu0, wz, wu⟩ := key 1 (by omega)
  refine ⟨x, y, z, u, ?_, wx, wy, wz, wu⟩
  congr 1
  apply Array.ext_getElem?
  intro i
  simp only [Array.getElem?_toList] at hx0 hy0 hz0 hu0
  rcases i with _ | _ | _ | _ | i
  · simpa using hx0
  · simpa using hy0
  · simpa using hz0
  · simpa using hu0
  · rw [Array.getElem?_eq_none (by omega)]
    simp
end
end Go.Proofs.YtbopbekehccdmaaDoor

/-
  Arrays of three numbers and raw positions, handed over by value, opened.
-/
namespace Go.Proofs.YtbopbekehccdmaaDoor
open Go.ChangeShapes Go.WideShapes Go.ChangeAt Go.RowKit
set_option linter.unusedVariables false
set_option linter.unusedSimpArgs false

section
variable {H : Type} {enc : TypeId × Value → H} {W : World} {b0 b1 : Nat} {sp : Nat → Bool} {r : Reach} {v : Value} {d : DataW H} {ps : List MemPlace}

theorem cellsInt1 : Tryd.prog.cellsOf 3 = 1 := by kernel_rfl
/-- A raw position, opened: its ninety-eight cells. -/
theorem cellsP1 : Tryd.prog.cellsOf 23 = 1 := by kernel_rfl
theorem cellsI81 : Tryd.prog.cellsOf 22 = 1 := by kernel_rfl
theorem cellsB81 : Tryd.prog.cellsOf 24 = 81 := by kernel_rfl
theorem cellsH8 : Tryd.prog.cellsOf 25 = 8 := by kernel_rfl
theorem cellsH16 : Tryd.prog.cellsOf 26 = 16 := by kernel_rfl
theorem cellsPos : Tryd.prog.cellsOf 28 = 98 := by kernel_rfl
theorem open_pos (hv : Value.okWide Tryd.prog W r b1 28 v) (h : DataW.Trod enc Tryd.prog W b0 sp true 28 v d ps) :
    ∃ z : List Int, v = .agg (posC z).toArray ∧ z.length = 98 ∧ I8s z := by
  obtain ⟨cs, rfl, hsz⟩ := okWide_struct Tryd.underlying28 hv
  rw [cellsPos] at hsz
  obtain ⟨fuel, hf⟩ := h
  simp only [Value.cells] at hf
  have hl : cs.toList.length = 98 := by simpa using hsz
  have hcs : cs = cs.toList.toArray := by simp
  generalize cs.toList = l at hf hl hcs
  subst hcs
  obtain ⟨xs, n, _, _, _, hlen, hx⟩ := DataW.trod_struct Tryd.underlying28 hf
  have h0 := hx 0 _ rfl
  have h1 := hx 1 _ rfl
  have h2 := hx 2 _ rfl
  have hlen3 : xs.length = 3 := hlen
  rw [List.getElem?_eq_getElem (by omega)] at h0 h1 h2
  have h0 : DataW.trod enc Tryd.prog W b0 sp true n 24 ((l.drop 0).take (Tryd.prog.cellsOf 24)) = some xs[0] := h0
  have h1 : DataW.trod enc Tryd.prog W b0 sp true n 26 ((l.drop 81).take (Tryd.prog.cellsOf 26)) = some xs[1] := h1
  have h2 : DataW.trod enc Tryd.prog W b0 sp true n 22 ((l.drop 97).take (Tryd.prog.cellsOf 22)) = some xs[2] := h2
  rw [cellsB81] at h0
  rw [cellsH16] at h1
  rw [cellsI81] at h2
  have key : ∀ j, j < 98 → ∃ a : Int, l[j]? = some (.int .i8 a) ∧ (Lit.int .i8 a).wf = true := by
    intro j hj
    by_cases c0 : j < 81
    · obtain ⟨a, ha, hw⟩ := cells_ints Tryd.underlying24 Tryd.underlying23 cellsP1 h0 j c0
      rw [List.getElem?_take, if_pos c0, List.getElem?_drop, Nat.zero_add] at ha
      exact ⟨a, ha, hw⟩
    · by_cases c1 : j < 97
      · obtain ⟨ys, m, _, _, _, hyl, hy⟩ := DataW.trod_array Tryd.underlying26 h1
        have hs : (j - 81) / 8 < 2 := by omega
        have hy2 := hy ((j - 81) / 8) hs
        rw [List.getElem?_eq_getElem (by omega), cellsH8] at hy2
        obtain ⟨a, ha, hw⟩ := cells_ints Tryd.underlying25 Tryd.underlying22 cellsI81 hy2 ((j - 81) % 8) (Nat.mod_lt _ (by omega))
        rw [List.getElem?_take, if_pos (Nat.mod_lt _ (by omega)), List.getElem?_drop, List.getElem?_take, if_pos (by omega), List.getElem?_drop, show 81 + ((j - 81) / 8 * 8 + (j - 81) % 8) = j by omega] at ha
        exact ⟨a, ha, hw⟩
      · obtain rfl : j = 97 := by omega
        obtain ⟨a, ha, _, hw⟩ := DataW.trod_int Tryd.underlying22 h2
        exact ⟨a, take_one ha, hw⟩
  refine ⟨l.map (fun v => match v with | .int _ n => n | _ => 0), ?_, by simpa using hl, ?_⟩
  · congr 2
    apply List.ext_getElem?
    intro j
    by_cases hj : j < 98
    · obtain ⟨a, ha, _⟩ := key j hj
      rw [ha]
      unfold posC
      rw [List.getElem?_map, List.getElem?_map, ha]
      rfl
    · unfold posC
      rw [List.getElem?_eq_none (by omega), List.getElem?_eq_none (by rw [List.length_map, List.length_map]; omega)]
  · intro x hx
    obtain ⟨v, hv, rfl⟩ := List.mem_map.1 hx
    obtain ⟨j, hj, rfl⟩ := List.mem_iff_getElem.1 hv
    obtain ⟨a, ha, hw⟩ := key j (by omega)
    rw [List.getElem?_eq_getElem hj] at ha
    rw [Option.some.inj ha]
    exact bounds_i8 hw
end
end Go.Proofs.YtbopbekehccdmaaDoor

/-
  Moves handed over by value, opened.
-/
namespace Go.Proofs.YtbopbekehccdmaaDoor
open Go.ChangeShapes Go.WideShapes Go.ChangeAt Go.RowKit Go.Joins
set_option linter.unusedVariables false
set_option linter.unusedSimpArgs false

section
variable {H : Type} {enc : TypeId × Value → H} {W : World} {b0 b1 : Nat} {sp : Nat → Bool} {r : Reach} {v : Value} {d : DataW H} {ps : List MemPlace}

theorem cellsMv : Tryd.prog.cellsOf 64 = 4 := by kernel_rfl
theorem open_mv (hv : Value.okWide Tryd.prog W r b1 64 v) (h : DataW.Trod enc Tryd.prog W b0 sp true 64 v d ps) :
    ∃ (f t k : Int) (p : Bool), v = .agg #[.int .i64 f, .int .i64 t, .int .i64 k, .bool p] ∧ (Lit.int .i64 f).wf = true ∧ (Lit.int .i64 t).wf = true ∧ (Lit.int .i64 k).wf = true := by
  obtain ⟨v0, v1, v2, v3, y0, y1, y2, y3, n, rfl, -, -, h0, h1, h2, h3⟩ := open_agg4 Tryd.underlying64 (by kernel_rfl) cellsMv hv h
  obtain ⟨f, e0, -, w0⟩ := DataW.trod_int Tryd.underlying3 h0
  obtain ⟨t, e1, -, w1⟩ := DataW.trod_int Tryd.underlying3 h1
  obtain ⟨k, e2, -, w2⟩ := DataW.trod_int Tryd.underlying3 h2
  obtain ⟨p, e3, -⟩ := DataW.trod_bool Tryd.underlying4 h3
  simp only [List.cons.injEq, and_true] at e0 e1 e2 e3
  subst e0 e1 e2 e3
  exact ⟨f, t, k, p, rfl, w0, w1, w2⟩
end
end Go.Proofs.YtbopbekehccdmaaDoor

/-
  Slices of moves, handed over: opened; and a region's held condition made stronger.
-/
namespace Go.Proofs.YtbopbekehccdmaaDoor
open Go.ChangeShapes Go.WideShapes Go.ChangeAt Go.RowKit
set_option linter.unusedVariables false
set_option linter.unusedSimpArgs false
set_option maxRecDepth 100000

/-- A move, as it is handed over. -/
structure Mv where
  f : Int
  t : Int
  d : Int
  p : Bool
instance : Inhabited Mv := ⟨⟨0, 0, 0, false⟩⟩
def Mv.cells (m : Mv) : List Value := [.int .i64 m.f, .int .i64 m.t, .int .i64 m.d, .bool m.p]
def Mv.agg (m : Mv) : Value := .agg #[.int .i64 m.f, .int .i64 m.t, .int .i64 m.d, .bool m.p]
/-- The moves of a slice in memory. -/
def MvsAt (W : World) (oa : Option Addr) (M : List Mv) : Prop := ∀ i m, M[i]? = some m → ∃ b o, oa = some ⟨b, o, none⟩ ∧ b < W.heap.size ∧ W.rangeAt b (o + i * 4) m.cells
theorem MvsAt.grow {W W' : World} {oa : Option Addr} {M : List Mv} (h : MvsAt W oa M) (hb : Below W.heap.size W W') : MvsAt W' oa M := fun i m hm => by
  obtain ⟨b, o, e, hlt, hr⟩ := h i m hm
  exact ⟨b, o, e, Nat.lt_of_lt_of_le hlt hb.size, fun j v hv => (hb.cell (p := ⟨b, o + i * 4 + j, none⟩) hlt).trans (hr j v hv)⟩

section
variable {H : Type} {enc : TypeId × Value → H} {W : World} {d : DataW H} {ps : List MemPlace}
theorem cellsMv4 : Tryd.prog.cellsOf 64 = 4 := by kernel_rfl
theorem cellsIntM : Tryd.prog.cellsOf 3 = 1 := by kernel_rfl
theorem cellsBoolM : Tryd.prog.cellsOf 4 = 1 := by kernel_rfl
theorem open_mvs {o : Option Addr} {len cap : Nat}
    (h : DataW.Trod enc Tryd.prog W 0 (fun _ => true) true 53 (.slice o len cap) d ps) : ∃ M : List Mv, M.length = len ∧ M.length ≤ maxLen ∧ MvsAt W o M := by
  obtain ⟨fuel, hf⟩ := h
  rcases Go.Deep.open_slice Tryd.underlying53 hf with ⟨hcs, hx⟩ | ⟨a, len', cap', m, n, D, Pl, hcs, hb, hl, hm, hmm, hx, hel⟩
  · simp only [Value.cells] at hcs
    obtain ⟨rfl, rfl, rfl⟩ : o = none ∧ len = 0 ∧ cap = 0 := by simpa using hcs
    exact ⟨[], rfl, Nat.zero_le _, fun i m hm => by simp at hm⟩
  · simp only [Value.cells] at hcs
    obtain ⟨rfl, rfl, rfl⟩ : o = some a ∧ len = len' ∧ cap = cap' := by simpa using hcs
    have hlm : len ≤ m := by rw [hmm]; split <;> omega
    have hsp : 0 < len → a.spot = none := fun h0 => by
      obtain ⟨cs', h1, h2⟩ := hel 0 (by omega)
      rw [cellsMv4] at h1
      obtain ⟨_, hlen, hcell⟩ := World.cells?_some h1
      have c0 := hcell 0 (by omega)
      rw [Go.Deep.add_add, List.getElem?_eq_getElem (by omega)] at c0
      simpa [Addr.add] using World.cell?_spot c0
    have each : ∀ i, i < len → ∃ q : Mv, ∃ b o, a = ⟨b, o, none⟩ ∧ b < W.heap.size ∧ W.rangeAt b (o + i * 4) q.cells := by
      intro i hi
      obtain ⟨cs', h1, h2⟩ := hel i (by omega)
      rw [cellsMv4] at h1
      obtain ⟨_, hlen, hcell⟩ := World.cells?_some h1
      obtain ⟨xs, k, hk, hxy, _, hxl, hfl⟩ := DataW.trod_struct Tryd.underlying64 h2
      have hxl4 : xs.length = 4 := hxl
      have g0 := hfl 0 _ rfl
      have g1 := hfl 1 _ rfl
      have g2 := hfl 2 _ rfl
      have g3 := hfl 3 _ rfl
      rw [List.getElem?_eq_getElem (by omega)] at g0 g1 g2 g3
      have g0 : DataW.trod enc Tryd.prog W 0 (fun _ => true) true k 3 ((cs'.drop 0).take (Tryd.prog.cellsOf 3)) = some xs[0] := g0
      have g1 : DataW.trod enc Tryd.prog W 0 (fun _ => true) true k 3 ((cs'.drop 1).take (Tryd.prog.cellsOf 3)) = some xs[1] := g1
      have g2 : DataW.trod enc Tryd.prog W 0 (fun _ => true) true k 3 ((cs'.drop 2).take (Tryd.prog.cellsOf 3)) = some xs[2] := g2
      have g3 : DataW.trod enc Tryd.prog W 0 (fun _ => true) true k 4 ((cs'.drop 3).take (Tryd.prog.cellsOf 4)) = some xs[3] := g3
      rw [cellsIntM] at g0 g1 g2
      rw [cellsBoolM] at g3
      obtain ⟨x0, e0, -, -⟩ := DataW.trod_int Tryd.underlying3 g0
      obtain ⟨x1, e1, -, -⟩ := DataW.trod_int Tryd.underlying3 g1
      obtain ⟨x2, e2, -, -⟩ := DataW.trod_int Tryd.underlying3 g2
      obtain ⟨x3, e3, -⟩ := DataW.trod_bool Tryd.underlying4 g3
      match cs', hlen with
      | [c0, c1, c2, c3], _ =>
      simp at e0 e1 e2 e3
      subst e0 e1 e2 e3
      have c0 := hcell 0 (by omega)
      have c1 := hcell 1 (by omega)
      have c2 := hcell 2 (by omega)
      have c3 := hcell 3 (by omega)
      rw [Go.Deep.add_add] at c0 c1 c2 c3
      obtain ⟨b, of, spot⟩ := a
      have hs : spot = none := hsp (by omega)
      subst hs
      rw [add_plain] at c0 c1 c2 c3
      refine ⟨⟨x0, x1, x2, x3⟩, b, of, rfl, World.block_lt_of_cell? W _ c0, fun j v hj => ?_⟩
      match j, hj with
      | 0, hj => simp [Mv.cells] at hj; subst hj; exact c0
      | 1, hj => simp [Mv.cells] at hj; subst hj; exact c1
      | 2, hj => simp [Mv.cells] at hj; subst hj; exact c2
      | 3, hj => simp [Mv.cells] at hj; subst hj; exact c3
      | j + 4, hj => simp [Mv.cells] at hj
    obtain ⟨q, hq⟩ := Go.Deep.choose_lt each
    refine ⟨(List.range len).map q, by simp, by simp; omega, fun i mv hmv => ?_⟩
    have hi : i < len := by
      have := (List.getElem?_eq_some_iff.1 hmv).1
      simpa using this
    rw [List.getElem?_map, List.getElem?_range hi] at hmv
    obtain rfl : q i = mv := by simpa using hmv
    obtain ⟨b, of, rfl, hlt, hr⟩ := hq i hi
    exact ⟨b, of, rfl, hlt, hr⟩
end

/-- In a drawn region the held condition may be made stronger on the way. -/
theorem wpAnyH_mono {P : Program} {md : Region.Mode} {ops : Array Oper} {Q : Exit → Act → World → Prop} {S S' : World → Prop} (hS : ∀ w, S' w → S w) : ∀ {fuel : Nat} {listed : Array Bool} {a : Act} {w : World}, wpAnyH P md ops Q S' fuel listed a w → wpAnyH P md ops Q S fuel listed a w
  | 0, _, _, _, h => h
  | fuel + 1, _, _, _, h => ⟨h.1, fun i hi => wpOp_mono (fun a' w' h' => ⟨hS w' h'.1, wpAnyH_mono hS h'.2⟩) (h.2 i hi)⟩
end Go.Proofs.YtbopbekehccdmaaDoor
