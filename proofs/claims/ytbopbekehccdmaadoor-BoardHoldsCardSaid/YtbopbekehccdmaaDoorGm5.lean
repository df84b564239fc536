/-
  Games whose key is that of the position: turn, put, hold; what was made.
-/
import Derived.Test.YtbopbekehccdmaaDoorGm2
import Derived.Test.YtbopbekehccdmaaDoorGm4
import Derived.Deep.RegionLaw
import Derived.Laws.AppendOwn
namespace Go.Proofs.YtbopbekehccdmaaDoor
open Go.RowKit
set_option linter.unusedVariables false
set_option linter.unusedSimpArgs false

/-- A game whose board is the position z, with its key. -/
def Gk (w : World) (g b : Nat) (z : List Int) (v : Value) : Prop := Gm w g b z (ofK z) v
theorem Gk.grow {w w' : World} {g b : Nat} {z : List Int} {v : Value} (h : Gk w g b z v) (hb : Below w.heap.size w w') : Gk w' g b z v := Gm.grow h hb
theorem turn_k (g b : Nat) (z : List Int) (v : Value) (hz : z.length = 98) (hs : at8 z 97 = 0 ∨ at8 z 97 = 1) (w : World) (h : Gk w g b z v) :
    Calls Tryd.prog 75 #[.pointer (some ⟨g, 0, none⟩)] w fun e w' => e = .returned (.tuple #[]) ∧ Gk w' g b (z.set 97 (1 - at8 z 97)) v ∧ But2 g b w w' := by
  have e : ofK (z.set 97 (1 - at8 z 97)) = ofK z ^^^ sideK := ofK_turn z _ hz (by omega)
  have := turn_any g b z (ofK z) v (ofK_lt z) hz hs w h
  rw [← e] at this
  exact this
theorem pieceK_zero (q : Int) (x : Int) (h : kindF x = 0) : pieceK q x = 0 := pieceK_no q x (fun h' => h'.2.2 h)
theorem ofK_put (z : List Int) (q : Nat) (x : Int) (hq : q < 81) (hz : z.length = 98) : ofK (putZ z q x) = ofK z ^^^ (pieceK q (at8 z q) ^^^ pieceK q x) := by
  rw [putZ_at z q x hq, ofK_setB z q _ hq hz, Nat.xor_assoc]
  by_cases h : kindF x = 0
  · rw [if_pos h, pieceK_zero q x h, pieceK_zero q 0 kind_zero]
  · rw [if_neg h]
theorem gput_k (g b : Nat) (z : List Int) (v : Value) (q : Nat) (x : Int) (hq : q < 81) (hx : -128 ≤ x ∧ x ≤ 127) (hz : z.length = 98) (h8 : I8s z) (hc : Clean z) (w : World) (h : Gk w g b z v) :
    Calls Tryd.prog 79 #[.pointer (some ⟨g, 0, none⟩), .int .i64 q, .int .i8 x] w fun e w' => e = .returned (.tuple #[]) ∧ Gk w' g b (putZ z q x) v ∧ But2 g b w w' := by
  have := gput_any g b z (ofK z) v q x hq hx (ofK_lt z) hz h8 hc w h
  rw [← ofK_put z q x hq hz] at this
  exact this
theorem hold_k (g b : Nat) (z : List Int) (v : Value) (s k : Nat) (m : Int) (hs : s < 2) (hk : 1 ≤ k ∧ k ≤ 7) (hsz : at8 z 97 = s) (hm : -128 ≤ at8 z (81 + s * 8 + k) + m ∧ at8 z (81 + s * 8 + k) + m ≤ 127)
    (hz : z.length = 98) (h8 : I8s z) (w : World) (h : Gk w g b z v) :
    Calls Tryd.prog 80 #[.pointer (some ⟨g, 0, none⟩), .int .i64 k, .int .i8 m] w fun e w' => e = .returned (.tuple #[]) ∧
      Gk w' g b (z.set (81 + s * 8 + k) (at8 z (81 + s * 8 + k) + m)) v ∧ But2 g b w w' := by
  have := hold_any g b z (ofK z) v s k m hs hk hsz hm (ofK_lt z) hz h8 w h
  rw [← ofK_setH z s k _ hs (by omega) hz] at this
  exact this

/-- What a call leaves alone that turns a game: all but its own cells, its board, and the row of what was made. -/
structure But3 (g b : Nat) (r : Option Nat) (w w' : World) : Prop where
  os : w'.os = w.os
  tape : w'.tape = w.tape
  output : w'.output = w.output
  size : w.heap.size ≤ w'.heap.size
  block : ∀ k, k < w.heap.size → k ≠ g → k ≠ b → some k ≠ r → w'.heap[k]? = w.heap[k]?
theorem But3.refl (g b : Nat) (r : Option Nat) (w : World) : But3 g b r w w := ⟨rfl, rfl, rfl, Nat.le_refl _, fun _ _ _ _ _ => rfl⟩
theorem But3.of2 {g b : Nat} {r : Option Nat} {w w' : World} (h : But2 g b w w') : But3 g b r w w' := ⟨h.os, h.tape, h.output, h.size, fun k hk h1 h2 _ => h.block k hk h1 h2⟩
theorem But3.of {g b : Nat} {r : Option Nat} {w w' : World} (h : Below w.heap.size w w') : But3 g b r w w' := .of2 (.of h)
theorem But3.trans {g b : Nat} {r : Option Nat} {x y w : World} (h : But3 g b r x y) (k : But3 g b r y w) : But3 g b r x w :=
  ⟨k.os.trans h.os, k.tape.trans h.tape, k.output.trans h.output, Nat.le_trans h.size k.size, fun j hj h1 h2 h3 => (k.block j (Nat.lt_of_lt_of_le hj h.size) h1 h2 h3).trans (h.block j hj h1 h2 h3)⟩
theorem But3.then2 {g b : Nat} {r : Option Nat} {x y w : World} (h : But3 g b r x y) (k : But2 g b y w) : But3 g b r x w := h.trans (.of2 k)
theorem But3.row {g b : Nat} {r : Option Nat} {w w' : World} (h : But3 g b r w w') {k : Nat} {o : Obj} (hk : w.heap[k]? = some o) (hg : k ≠ g) (hb : k ≠ b) (hr : some k ≠ r) : w'.heap[k]? = some o :=
  (h.block k (Array.getElem?_eq_some_iff.1 hk).1 hg hb hr).trans hk
theorem But3.below {g b B : Nat} {r : Option Nat} {w w' : World} (h : But3 g b r w w') (hg : B ≤ g) (hb : B ≤ b) (hr : ∀ k, r = some k → B ≤ k) (hw : B ≤ w.heap.size) : Below B w w' :=
  ⟨h.os, h.tape, h.output, h.size, fun k hk => h.block k (by omega) (by omega) (by omega) (fun e => by have := hr k e.symm; omega)⟩

/-- A move that was made. -/
structure Md where
  f : Int
  t : Int
  d : Int
  p : Bool
  x : Int
  y : Int
def Md.cells (m : Md) : List Value := [.int .i64 m.f, .int .i64 m.t, .int .i64 m.d, .bool m.p, .int .i8 m.x, .int .i8 m.y]
def pastC (L : List Md) : List Value := L.flatMap Md.cells
theorem pastC_len : ∀ L : List Md, (pastC L).length = L.length * 6
  | [] => rfl
  | m :: L => by
    show (m.cells ++ pastC L).length = _
    rw [List.length_append, pastC_len L, List.length_cons]
    show 6 + _ = _
    omega
/-- What was made, in memory. -/
def Past (w : World) (B g b : Nat) (v : Value) (L : List Md) : Prop :=
  w.ownsRow B 103 6 v L.length (pastC L) ∧ v.ownBlock ≠ some g ∧ v.ownBlock ≠ some b
theorem Past.but2 {w w' : World} {B g b : Nat} {v : Value} {L : List Md} (h : Past w B g b v L) (k : But2 g b w w') : Past w' B g b v L := by
  obtain ⟨⟨hl, ho⟩, hg, hb⟩ := h
  refine ⟨⟨hl, ?_⟩, hg, hb⟩
  rcases ho with ho | ⟨j, cap, cur, rfl, h1, h2, h3⟩
  · exact .inl ho
  · exact .inr ⟨j, cap, cur, rfl, h1, k.row h2 (fun e => hg (by rw [e]; rfl)) (fun e => hb (by rw [e]; rfl)), h3⟩
theorem Past.grow {w w' : World} {B g b : Nat} {v : Value} {L : List Md} (h : Past w B g b v L) (k : Below w.heap.size w w') : Past w' B g b v L := h.but2 (.of k)

/-- Where the row lies behind a move that was laid to it: where it lay, or anew. -/
def Fresh (w : World) (v v' : Value) : Prop := v'.ownBlock = v.ownBlock ∨ ∃ k, v'.ownBlock = some k ∧ w.heap.size ≤ k
/-- As But3, and the row lies where it lay, or anew. -/
structure But4 (g b : Nat) (v v' : Value) (w w' : World) : Prop where
  b3 : But3 g b v.ownBlock w w'
  fr : Fresh w v v'
theorem But4.then2 {g b : Nat} {v v' : Value} {x y w : World} (h : But4 g b v v' x y) (k : But2 g b y w) : But4 g b v v' x w := ⟨h.b3.then2 k, h.fr⟩
theorem But4.trans {g b : Nat} {v v' : Value} {x y w : World} (h : But4 g b v v' x y) (k : But3 g b v.ownBlock y w) : But4 g b v v' x w := ⟨h.b3.trans k, h.fr⟩
theorem But4.pre {g b : Nat} {v v' : Value} {x y w : World} (hb : Below x.heap.size x y) (h : But4 g b v v' y w) : But4 g b v v' x w := ⟨(But3.of hb).trans h.b3, h.fr.imp id (fun ⟨k, e, hk⟩ => ⟨k, e, Nat.le_trans hb.size hk⟩)⟩

/-- append of one element to a row of the call's own, with where the row lies then. -/
theorem run_append_where {P : Program} (w : World) (base : Nat) (t ty e : TypeId) (i : TypeInfo) (z : Value) (size bytes : Nat) (ht : P.underlying t = some (.slice e)) (hi : P.info? e = some i) (hz : i.zero = some z)
    (hsize : i.size = size) (hby : i.bytes = bytes) (hzs : z.cells.size = size) (hsz : 0 < size)
    (v : Value) (n : Nat) (xs : List Value) (hown : w.ownsRow base e size v n xs)
    (a : Addr) (m c : Nat) (hm : 0 < m) (news : List Value) (hl : news.length = m * size) (hnews : ∀ j u, news[j]? = some u → w.cell? (a.add j) = some u) (h1 : ∀ u ∈ news, u.oneCell' = true)
    (h63 : n + m ≤ maxLen) (hbytes : (n + m) * bytes ≤ 140737488355328) (hbase : base ≤ w.heap.size) :
    ∃ v' w', (Builtin.append_ #[t, t] ty #[v, .slice (some a) m c]).run P w = .ok v' w' ∧ w'.ownsRow base e size v' (n + m) (xs ++ news) ∧ w.grownBy w' v.ownBlock ∧ Fresh w v v' := by
  obtain ⟨v', w', hr, h2, h3, -⟩ := run_append_own (P := P) w base t ty e i z size bytes ht hi hz hsize hby hzs hsz v n xs hown a m c news hl hnews h1 h63 hbytes hbase
  refine ⟨v', w', hr, h2, h3, ?_⟩
  have hsmall : n + m ≤ 9223372036854775807 := by simp only [maxLen] at h63; omega
  subst hsize
  subst hby
  rcases hown.2 with ⟨rfl, rfl⟩ | ⟨g, cap, cur, rfl, hbg, hg, hnc, hcm, hcs, htake⟩
  · have hr2 := run_append_nil (P := P) w t ty e i z ht hi hz a m c news hl hnews hm (by omega) (by have hb := hbytes; simp only [Nat.zero_add] at hb; omega)
    have he := hr.symm.trans hr2
    simp only [Result.ok.injEq] at he
    exact .inr ⟨w.heap.size, by rw [he.1]; rfl, Nat.le_refl _⟩
  · by_cases hroom : n + m ≤ cap
    · have hfit : n * i.size + news.length ≤ cur.size := by rw [hl, hcs, ← Nat.add_mul]; exact Nat.mul_le_mul_right _ hroom
      have hr2 := run_append_room (P := P) w t ty e i ht hi g n cap cur hg a m c news hl hnews h1 hroom hfit
      have he := hr.symm.trans hr2
      simp only [Result.ok.injEq] at he
      exact .inl (by rw [he.1]; rfl)
    · have holds : ∀ j u, xs[j]? = some u → w.cell? ((⟨g, 0, none⟩ : Addr).add j) = some u := hown.cells (g := g) rfl
      have hr2 := run_append_grow (P := P) w t ty e i z ht hi hz ⟨g, 0, none⟩ n cap xs hown.1 holds a m c news hl hnews (by omega) (by omega) (growslice_fits (by omega) hbytes)
      have he := hr.symm.trans hr2
      simp only [Result.ok.injEq] at he
      exact .inr ⟨w.heap.size, by rw [he.1]; rfl, Nat.le_refl _⟩
/-- append to a row of the call's own, as one step of a region that draws. -/
theorem step_append_own {P : Program} {ops : Array Oper} {o : Oper} {a : Act} {w : World} {K : Act → World → Prop} {Q : Exit → Act → World → Prop} {E : Prop}
    (hg : o.guard = none) (s x : Operand) (t : TypeId) (ho : o.op = .call { callee := .builtin .append, args := #[s, x], argTypes := #[t, t] })
    (base : Nat) (e : TypeId) (i : TypeInfo) (z : Value) (size bytes : Nat) (ht : P.underlying t = some (.slice e)) (hi : P.info? e = some i) (hz : i.zero = some z)
    (hsize : i.size = size) (hby : i.bytes = bytes) (hzs : z.cells.size = size) (hsz : 0 < size)
    (v : Value) (n : Nat) (xs : List Value) (hs : a.eval s = v) (hown : w.ownsRow base e size v n xs)
    (ad : Addr) (m c : Nat) (hm : 0 < m) (news : List Value) (hx : a.eval x = .slice (some ad) m c) (hl : news.length = m * size) (hnews : ∀ j u, news[j]? = some u → w.cell? (ad.add j) = some u) (h1 : ∀ u ∈ news, u.oneCell' = true)
    (h63 : n + m ≤ maxLen) (hbytes : (n + m) * bytes ≤ 140737488355328) (hbase : base ≤ w.heap.size)
    (hK : ∀ v' w', w'.ownsRow base e size v' (n + m) (xs ++ news) → w.grownBy w' v.ownBlock → Fresh w v v' → K (a.put o.dst v') w') :
    if Region.wanted o (yielded ops a.tmps) = true then Oper.wp P o a w K Q else E := by
  have hw : Region.wanted o (yielded ops a.tmps) = true := by simp [Region.wanted, hg]
  rw [if_pos hw]
  obtain ⟨v', w', hr, h2, h3, h4⟩ := run_append_where (P := P) w base t o.type e i z size bytes ht hi hz hsize hby hzs hsz v n xs hown ad m c hm news hl hnews h1 h63 hbytes hbase
  unfold Oper.wp execOp
  simp only [ho, resolve, invoke, builtin, Sem.run_bind, Sem.run_pure, Result.andThen_ok, List.map_toArray, List.map_cons, List.map_nil, hs, hx, hr]
  exact hK v' w' h2 h3 h4
theorem infoMade : (Tryd.prog.info? 103).map (fun i => (i.zero, i.size, i.bytes)) = some (some (.agg #[.int .i64 0, .int .i64 0, .int .i64 0, .bool false, .int .i8 0, .int .i8 0]), 6, 40) := by kernel_rfl
end Go.Proofs.YtbopbekehccdmaaDoor
