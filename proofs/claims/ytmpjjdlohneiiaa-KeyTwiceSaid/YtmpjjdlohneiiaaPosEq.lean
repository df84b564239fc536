/-
  A raw position is equal to itself.
-/
import Derived.Test.YtmpjjdlohneiiaaPos
import Derived.Laws.StructEq
namespace Go.Proofs.Ytmpjjdlohneiiaa
open Go.RowKit
set_option linter.unusedVariables false
set_option linter.unusedSimpArgs false

theorem items_true {P : Program} (d : Nat) (e : TypeId) (c : Nat) (xs : Array Value) (W : World) : ∀ is : List Nat, (∀ i ∈ is, ∃ v, (part e xs (i * c)).run P W = .ok v W ∧ (Op.equalIn d e v v).run P W = .ok true W) → (Op.eqItems d e c xs xs is).run P W = .ok true W
  | [], _ => by simp [Op.eqItems]
  | i :: is, h => by
    obtain ⟨v, hp, he⟩ := h i (by simp)
    have ih := items_true d e c xs W is (fun j hj => h j (by simp [hj]))
    simp only [Op.eqItems, Sem.run_bind, hp, he, Result.andThen_ok, Bool.not_true, Bool.false_eq_true, if_false]
    exact ih
/-- A row of whole numbers is equal to itself. -/
theorem row_true {P : Program} (d : Nat) (t e : TypeId) (n : Nat) (k : IntKind) (xs : Array Value) (W : World) (ht : P.underlying t = some (.array n e)) (he : P.underlying e = some (.int k)) (hpk : P.plainKey e = true) (hi : (P.info? e).map (·.size) = some 1)
    (h : ∀ i, i < n → ∃ a, xs[i]? = some (.int k a)) : (Op.equalIn (d + 2) t (.agg xs) (.agg xs)).run P W = .ok true W := by
  cases hq : P.info? e with
  | none => simp [hq] at hi
  | some i =>
    have hs : P.cellsOf e = 1 := by
      have : i.size = 1 := by simpa [hq] using hi
      simp [Program.cellsOf, hq, this]
    rw [run_equalIn_array W (d + 1) _ _ ht hq, hs]
    refine items_true _ _ _ _ _ _ fun j hj => ?_
    obtain ⟨a, ha⟩ := h j (by simpa using hj)
    refine ⟨.int k a, run_part_plain (P := P) W hpk (by rw [Nat.mul_one]; exact ha), ?_⟩
    rw [run_equalIn_int W d e k k a a he]
    simp
theorem run_part_row {P : Program} (W : World) (e : TypeId) (s : Nat) (D : TypeDesc) (xs : Array Value) (o : Nat) (hu : P.underlying e = some D) (hd : D.isRow = true) (hi : (P.info? e).map (·.size) = some s) :
    (part e xs o).run P W = .ok (.agg (xs.extract o (o + s))) W := by
  cases hq : P.info? e with
  | none => simp [hq] at hi
  | some i =>
    have hs : i.size = s := by simpa [hq] using hi
    have hsz : (sizeOf e).run P W = .ok s W := by
      rw [run_sizeOf W hq]
      simp [Program.cellsOf, hq, hs]
    have hagg : (isAgg e).run P W = .ok true W := by
      unfold isAgg
      rw [Sem.run_bind, run_underlying hu W]
      cases D <;> simp_all
    simp [part, hagg, hsz]
theorem ext_int (cs : List Value) (o n j : Nat) (hj : j < n) {v : Value} (h : cs[o + j]? = some v) : (cs.toArray.extract o (o + n))[j]? = some v := by
  rw [extract_row]
  simpa using drop_get h hj
theorem fieldsPos : (Try.prog.fieldsOf 47).toList.map (fun f => (f.name, f.type, f.offset)) = [("Board", 43, 0), ("Hands", 45, 81), ("Side", 22, 97)] := by decide +kernel
theorem stoodPos : Try.prog.stoodInHeld 47 = false := by kernel_rfl
theorem underPos : Try.prog.underlying 47 = some (.struct (Try.prog.fieldsOf 47)) := by kernel_rfl
theorem infoPiece : (Try.prog.info? 23).map (·.size) = some 1 := by kernel_rfl
theorem infoI8 : (Try.prog.info? 22).map (·.size) = some 1 := by kernel_rfl
theorem infoB81 : (Try.prog.info? 43).map (·.size) = some 81 := by kernel_rfl
theorem infoH16 : (Try.prog.info? 45).map (·.size) = some 16 := by kernel_rfl
theorem infoH8 : (Try.prog.info? 44).map (·.size) = some 8 := by kernel_rfl
theorem plainPiece : Try.prog.plainKey 23 = true := by kernel_rfl
theorem plainI8 : Try.prog.plainKey 22 = true := by kernel_rfl
theorem fields_step {P : Program} (d : Nat) (xs : Array Value) (f : Field) (fs : List Field) (W : World) (v : Value) (hn : f.name ≠ "_") (hp : (part f.type xs f.offset).run P W = .ok v W) (he : (Op.equalIn d f.type v v).run P W = .ok true W) (rest : (Op.eqFields d xs xs fs).run P W = .ok true W) :
    (Op.eqFields d xs xs (f :: fs)).run P W = .ok true W := by
  rw [Op.eqFields, if_pos hn]
  simp only [Sem.run_bind, hp, he, Result.andThen_ok, Bool.not_true, Bool.false_eq_true, if_false]
  exact rest
theorem list_three {α : Type} (l : List α) (h : l.length = 3) : ∃ a b c, l = [a, b, c] := by
  match l, h with
  | [a, b, c], _ => exact ⟨a, b, c, rfl⟩
theorem pos_eq (z : List Int) (hz : z.length = 98) (W : World) : (Op.equalIn 10000 47 (.agg (posC z).toArray) (.agg (posC z).toArray)).run Try.prog W = .ok true W := by
  have hC : ∀ j, j < 98 → (posC z)[j]? = some (.int .i8 (at8 z j)) := fun j hj => posC_get z j (by omega)
  generalize posC z = cs at hC
  rw [show (10000 : Nat) = 9999 + 1 from rfl, run_equalIn_struct W 9999 _ _ _ underPos stoodPos]
  have f0 : (Op.equalIn 9999 43 (.agg (cs.toArray.extract 0 81)) (.agg (cs.toArray.extract 0 81))).run Try.prog W = .ok true W :=
    row_true 9997 _ _ 81 .i8 _ W Try.underlying43 Try.underlying23 plainPiece infoPiece (fun i hi => ⟨_, ext_int cs 0 81 i hi (by rw [Nat.zero_add]; exact hC i (by omega))⟩)
  have f1 : (Op.equalIn 9999 45 (.agg (cs.toArray.extract 81 97)) (.agg (cs.toArray.extract 81 97))).run Try.prog W = .ok true W := by
    rw [show (97 : Nat) = 81 + 16 from rfl, extract_row]
    have h8 := infoH8
    cases hq : Try.prog.info? 44 with
    | none => simp [hq] at h8
    | some i =>
      clear h8
      rw [show (9999 : Nat) = 9998 + 1 from rfl, run_equalIn_array W 9998 _ _ Try.underlying45 hq, show Try.prog.cellsOf 44 = 8 by kernel_rfl]
      refine items_true _ _ _ _ _ _ fun j hj => ?_
      have hj2 : j < 2 := by simpa using hj
      refine ⟨_, run_part_row W _ 8 _ _ _ Try.underlying44 rfl infoH8, ?_⟩
      exact row_true 9996 _ _ 8 .i8 _ W Try.underlying44 Try.underlying22 plainI8 infoI8 (fun i hi => ⟨_, ext_int _ (j * 8) 8 i hi (drop_get (hC (81 + (j * 8 + i)) (by omega)) (by omega))⟩)
  have f2 : (Op.equalIn 9999 22 (.int .i8 (at8 z 97)) (.int .i8 (at8 z 97))).run Try.prog W = .ok true W := by
    rw [run_equalIn_int W 9998 22 .i8 .i8 _ _ Try.underlying22]
    simp
  have p0 : (part 43 cs.toArray 0).run Try.prog W = .ok (.agg (cs.toArray.extract 0 81)) W := run_part_row (P := Try.prog) W 43 81 _ cs.toArray 0 Try.underlying43 rfl infoB81
  have p1 : (part 45 cs.toArray 81).run Try.prog W = .ok (.agg (cs.toArray.extract 81 97)) W := run_part_row (P := Try.prog) W 45 16 _ cs.toArray 81 Try.underlying45 rfl infoH16
  have p2 : (part 22 cs.toArray 97).run Try.prog W = .ok (.int .i8 (at8 z 97)) W := run_part_plain (P := Try.prog) W plainI8 (by simpa using hC 97 (by omega))
  have hf := fieldsPos
  generalize (Try.prog.fieldsOf 47).toList = fs at hf ⊢
  obtain ⟨a, b, c, rfl⟩ := list_three fs (by have := congrArg List.length hf; simpa using this)
  · simp only [List.map_cons, List.map_nil, List.cons.injEq, Prod.mk.injEq, and_true] at hf
    obtain ⟨⟨a1, a2, a3⟩, ⟨b1, b2, b3⟩, c1, c2, c3⟩ := hf
    refine fields_step _ _ _ _ _ _ (by rw [a1]; decide) (by rw [a2, a3]; exact p0) (by rw [a2]; exact f0) ?_
    refine fields_step _ _ _ _ _ _ (by rw [b1]; decide) (by rw [b2, b3]; exact p1) (by rw [b2]; exact f1) ?_
    refine fields_step _ _ _ _ _ _ (by rw [c1]; decide) (by rw [c2, c3]; exact p2) (by rw [c2]; exact f2) ?_
    rfl
theorem at8_ext (l m : List Int) (hl : l.length = 98) (hm : m.length = 98) (h : ∀ i, i < 98 → at8 l i = at8 m i) : l = m := by
  apply List.ext_getElem?
  intro i
  by_cases hi : i < 98
  · have := h i hi
    unfold at8 at this
    rw [List.getD_eq_getElem?_getD, List.getD_eq_getElem?_getD, List.getElem?_eq_getElem (by omega), List.getElem?_eq_getElem (by omega)] at this
    rw [List.getElem?_eq_getElem (by omega), List.getElem?_eq_getElem (by omega)]
    exact congrArg some this
  · rw [List.getElem?_eq_none (by omega), List.getElem?_eq_none (by omega)]
/-- Two squares change their pieces; and back. -/
def swapZ (z : List Int) (a b : Nat) : List Int := (z.set a (at8 z b)).set b (at8 z a)
theorem swap_len (z : List Int) (a b : Nat) : (swapZ z a b).length = z.length := by simp [swapZ]
theorem swap_8 {z : List Int} (h : I8s z) (a b : Nat) : I8s (swapZ z a b) := set_8 (set_8 h a (h.at b)) b (h.at a)
theorem at8_swap (z : List Int) (a b i : Nat) (ha : a < z.length) (hb : b < z.length) : at8 (swapZ z a b) i = if i = b then at8 z a else if i = a then at8 z b else at8 z i := by
  unfold swapZ
  rw [at8_set _ _ _ _ (by rw [List.length_set]; exact hb), at8_set _ _ _ _ ha]
theorem swap_back (z : List Int) (a b : Nat) (ha : a < 81) (hb : b < 81) (hz : z.length = 98) : swapZ (swapZ z a b) a b = z := by
  refine at8_ext _ _ (by rw [swap_len, swap_len, hz]) hz fun i hi => ?_
  rw [at8_swap _ _ _ _ (by rw [swap_len]; omega) (by rw [swap_len]; omega), at8_swap z a b i (by omega) (by omega), at8_swap z a b a (by omega) (by omega), at8_swap z a b b (by omega) (by omega)]
  by_cases h1 : i = b
  · subst h1
    rw [if_pos rfl]
    by_cases h2 : a = i
    · subst h2
      rw [if_pos rfl]
    · rw [if_neg h2, if_pos rfl]
  · rw [if_neg h1]
    by_cases h2 : i = a
    · subst h2
      rw [if_pos rfl, if_pos rfl]
    · rw [if_neg h2, if_neg h1, if_neg h2]
theorem ofK_swap (z : List Int) (a b : Nat) (ha : a < 81) (hb : b < 81) (hz : z.length = 98) : ofK (swapZ z a b) ^^^ ofK z = pieceK a (at8 z a) ^^^ pieceK b (at8 z b) ^^^ pieceK a (at8 z b) ^^^ pieceK b (at8 z a) := by
  unfold swapZ
  rw [ofK_setB _ b _ hb (by rw [List.length_set]; exact hz), ofK_setB z a _ ha hz, at8_set z a _ b (by omega)]
  have e : (if b = a then at8 z b else at8 z b) = at8 z b := by split <;> rfl
  rw [e]
  generalize pieceK a (at8 z a) = p
  generalize pieceK b (at8 z b) = q
  generalize pieceK a (at8 z b) = r
  generalize pieceK b (at8 z a) = s
  generalize ofK z = k
  rw [Nat.xor_comm, ← Nat.xor_assoc, ← Nat.xor_assoc, ← Nat.xor_assoc, ← Nat.xor_assoc, Nat.xor_self, Nat.zero_xor]
  simp only [Nat.xor_assoc, Nat.xor_comm, xor_lc]
theorem want_zero (z : List Int) (a b : Nat) (h : a = b ∨ at8 z a = at8 z b) : pieceK a (at8 z a) ^^^ pieceK b (at8 z b) ^^^ pieceK a (at8 z b) ^^^ pieceK b (at8 z a) = 0 := by
  rcases h with rfl | h
  · rw [xor_same, Nat.xor_self]
  · rw [h, xor_move, xor_same, Nat.xor_self]
end Go.Proofs.Ytmpjjdlohneiiaa
