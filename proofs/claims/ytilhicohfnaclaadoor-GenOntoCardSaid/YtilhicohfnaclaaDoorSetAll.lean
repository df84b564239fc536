/-
  How many bits a number has, and that the program's library counts them so: plain facts on numbers; no program is named here.
-/
import Derived.WalkKit
import Derived.Laws.BitsAllLaws
import Derived.Test.YtilhicohfnaclaaDoorBits
import Derived.Test.YtilhicohfnaclaaDoorBase
import Derived.Test.YtilhicohfnaclaaDoorRows
import Derived.Laws.StructEq
import Derived.Deep.RegionWith
import Derived.Deep.QuietTactic
import Derived.BigQuiet
import Derived.Lib.TrailingZeros
import Derived.Lib.BitFns
import Derived.Lib.Tables
import Derived.LoopTactic
namespace Go.Proofs.YtilhicohfnaclaaDoor

/-- How many of the lowest k bits of x are set. -/
def pop : Nat → Nat → Nat
  | 0, _ => 0
  | k + 1, x => x % 2 + pop k (x / 2)

theorem pop_split : ∀ (j k x : Nat), pop (j + k) x = pop j x + pop k (x / 2 ^ j)
  | 0, k, x => by simp [pop]
  | j + 1, k, x => by
    have h := pop_split j k (x / 2)
    rw [Nat.succ_add]
    simp only [pop]
    have e : x / 2 / 2 ^ j = x / 2 ^ (j + 1) := by rw [Nat.div_div_eq_div_mul, Nat.pow_succ, Nat.mul_comm]
    rw [h, e]
    omega
theorem pop_mod : ∀ (k x : Nat), pop k x = pop k (x % 2 ^ k)
  | 0, x => rfl
  | k + 1, x => by
    simp only [pop]
    rw [pop_mod k (x / 2), pop_mod k (x % 2 ^ (k + 1) / 2)]
    have e1 : x % 2 ^ (k + 1) / 2 = x / 2 % 2 ^ k := by
      rw [Nat.pow_succ, Nat.mul_comm, Nat.mod_mul_right_div_self]
    have e2 : x % 2 ^ (k + 1) % 2 = x % 2 := Nat.mod_mod_of_dvd x ⟨2 ^ k, by rw [Nat.pow_succ, Nat.mul_comm]⟩
    rw [e1, e2, Nat.mod_mod]
theorem pop_succ (k x : Nat) : pop (k + 1) x = pop k x + (if x.testBit k = true then 1 else 0) := by
  rw [pop_split k 1 x]
  have : pop 1 (x / 2 ^ k) = x / 2 ^ k % 2 := by simp [pop]
  rw [this, Nat.testBit_eq_decide_div_mod_eq]
  have h := Nat.mod_two_eq_zero_or_one (x / 2 ^ k)
  rcases h with h | h <;> simp [h]
theorem pop_le : ∀ (k x : Nat), pop k x ≤ k
  | 0, x => Nat.le_refl _
  | k + 1, x => by
    have := pop_le k (x / 2)
    simp only [pop]
    omega
theorem pop_list (x : Nat) : ∀ k, pop k x = ((List.range k).filter (fun i => x.testBit i)).length
  | 0 => rfl
  | k + 1 => by
    rw [pop_succ, pop_list x k, List.range_succ, List.filter_append, List.length_append]
    congr 1
    by_cases h : x.testBit k = true <;> simp [h]

/-- The number of some digits to the base 256, the lowest first. -/
def val : List Nat → Nat
  | [] => 0
  | d :: ds => d + 256 * val ds
def small (ds : List Nat) : Prop := ∀ d ∈ ds, d < 256

theorem val_and : ∀ (ds : List Nat) (c : Nat), small ds → c < 256 → val ds &&& val (List.replicate ds.length c) = val (ds.map (· &&& c))
  | [], c, _, _ => by simp [val]
  | d :: ds, c, h, hc => by
    have ih := val_and ds c (fun x hx => h x (List.mem_cons_of_mem _ hx)) hc
    have hd : d < 256 := h d List.mem_cons_self
    simp only [List.length_cons, List.replicate_succ, List.map_cons, val]
    rw [← ih]
    generalize val ds = v
    generalize val (List.replicate ds.length c) = u
    have e1 : ((d + 256 * v) &&& (c + 256 * u)) % 2 ^ 8 = d &&& c := by
      rw [Nat.and_mod_two_pow]
      congr 1 <;> omega
    have e2 : ((d + 256 * v) &&& (c + 256 * u)) / 2 ^ 8 = v &&& u := by
      rw [Nat.and_div_two_pow]
      congr 1 <;> omega
    have := Nat.div_add_mod ((d + 256 * v) &&& (c + 256 * u)) (2 ^ 8)
    rw [e1, e2] at this
    omega

/-- The digits of a number shifted by one, two or four bits. -/
def sh (s : Nat) : List Nat → List Nat
  | [] => []
  | d :: ds => (d / s + 256 / s * (val ds % s)) :: sh s ds
theorem val_sh2 : ∀ ds : List Nat, val ds / 2 = val (sh 2 ds)
  | [] => rfl
  | d :: ds => by
    have ih := val_sh2 ds
    simp only [val, sh]
    rw [← ih]
    omega
theorem val_sh4 : ∀ ds : List Nat, val ds / 4 = val (sh 4 ds)
  | [] => rfl
  | d :: ds => by
    have ih := val_sh4 ds
    simp only [val, sh]
    rw [← ih]
    omega
theorem val_sh16 : ∀ ds : List Nat, val ds / 16 = val (sh 16 ds)
  | [] => rfl
  | d :: ds => by
    have ih := val_sh16 ds
    simp only [val, sh]
    rw [← ih]
    omega
theorem sh_length (s : Nat) : ∀ ds : List Nat, (sh s ds).length = ds.length
  | [] => rfl
  | d :: ds => by simp [sh, sh_length s ds]
theorem sh_small2 : ∀ ds : List Nat, small ds → small (sh 2 ds)
  | [], _ => fun _ h => absurd h List.not_mem_nil
  | d :: ds, h => by
    intro x hx
    have hd : d < 256 := h d List.mem_cons_self
    rcases List.mem_cons.1 hx with rfl | hx
    · omega
    · exact sh_small2 ds (fun y hy => h y (List.mem_cons_of_mem _ hy)) x hx
theorem sh_small4 : ∀ ds : List Nat, small ds → small (sh 4 ds)
  | [], _ => fun _ h => absurd h List.not_mem_nil
  | d :: ds, h => by
    intro x hx
    have hd : d < 256 := h d List.mem_cons_self
    rcases List.mem_cons.1 hx with rfl | hx
    · omega
    · exact sh_small4 ds (fun y hy => h y (List.mem_cons_of_mem _ hy)) x hx

def g0 (b : Nat) : Nat := (b / 2 &&& 85) + (b &&& 85)
def g1 (b : Nat) : Nat := (b / 4 &&& 51) + (b &&& 51)
def g2 (b : Nat) : Nat := (b / 16 + b) &&& 15
theorem byte_all : ∀ b : Nat, b < 256 → g0 b < 256 ∧ g1 (g0 b) % 16 ≤ 4 ∧ g1 (g0 b) / 16 ≤ 4 ∧ g2 (g1 (g0 b)) = pop 8 b ∧ pop 8 b ≤ 8 := by decide +kernel

theorem low_and (y z c k : Nat) (hc : c < 2 ^ k) (h : y % 2 ^ k = z % 2 ^ k) : y &&& c = z &&& c := by
  have e : ∀ t : Nat, t &&& c = (t % 2 ^ k) &&& c := by
    intro t
    have h1 : (t &&& c) % 2 ^ k = t &&& c := Nat.mod_eq_of_lt (Nat.lt_of_le_of_lt Nat.and_le_right hc)
    have h2 := Nat.and_mod_two_pow (a := t) (b := c) (n := k)
    rw [h1, Nat.mod_eq_of_lt hc] at h2
    exact h2
  rw [e y, e z, h]

theorem map_sh2 : ∀ ds : List Nat, small ds → (sh 2 ds).map (· &&& 85) = ds.map (fun b => b / 2 &&& 85)
  | [], _ => rfl
  | d :: ds, h => by
    have hd : d < 256 := h d List.mem_cons_self
    simp only [sh, List.map_cons]
    rw [map_sh2 ds (fun y hy => h y (List.mem_cons_of_mem _ hy)), low_and _ (d / 2) 85 7 (by omega) (by omega)]
theorem map_sh4 : ∀ ds : List Nat, small ds → (sh 4 ds).map (· &&& 51) = ds.map (fun b => b / 4 &&& 51)
  | [], _ => rfl
  | d :: ds, h => by
    have hd : d < 256 := h d List.mem_cons_self
    simp only [sh, List.map_cons]
    rw [map_sh4 ds (fun y hy => h y (List.mem_cons_of_mem _ hy)), low_and _ (d / 4) 51 6 (by omega) (by omega)]
theorem val_add (f g : Nat → Nat) : ∀ ds : List Nat, val (ds.map f) + val (ds.map g) = val (ds.map (fun b => f b + g b))
  | [] => rfl
  | d :: ds => by
    have ih := val_add f g ds
    simp only [List.map_cons, val]
    omega

theorem step0 (ds : List Nat) (h : small ds) (m : Nat) (hm : m = val (List.replicate ds.length 85)) : (val ds / 2 &&& m) + (val ds &&& m) = val (ds.map g0) := by
  subst hm
  have e := val_and (sh 2 ds) 85 (sh_small2 ds h) (by omega)
  rw [sh_length] at e
  rw [val_sh2, e, val_and ds 85 h (by omega), map_sh2 ds h, val_add]
  rfl
theorem step1 (ds : List Nat) (h : small ds) (m : Nat) (hm : m = val (List.replicate ds.length 51)) : (val ds / 4 &&& m) + (val ds &&& m) = val (ds.map g1) := by
  subst hm
  have e := val_and (sh 4 ds) 51 (sh_small4 ds h) (by omega)
  rw [sh_length] at e
  rw [val_sh4, e, val_and ds 51 h (by omega), map_sh4 ds h, val_add]
  rfl

/-- The digits of x / 16 + x, where each half of a digit is at most 4. -/
def add16 : List Nat → List Nat
  | [] => []
  | d :: ds => (d / 16 + 16 * (val ds % 16) + d) :: add16 ds
def half (ds : List Nat) : Prop := ∀ d ∈ ds, d % 16 ≤ 4 ∧ d / 16 ≤ 4
theorem val_low : ∀ ds : List Nat, half ds → val ds % 16 ≤ 4
  | [], _ => by simp [val]
  | d :: ds, h => by
    have := h d List.mem_cons_self
    simp only [val]
    omega
theorem val_add16 : ∀ ds : List Nat, half ds → val ds / 16 + val ds = val (add16 ds)
  | [], _ => rfl
  | d :: ds, h => by
    have ih := val_add16 ds (fun y hy => h y (List.mem_cons_of_mem _ hy))
    have hd := h d List.mem_cons_self
    simp only [val, add16]
    rw [← ih]
    omega
theorem add16_small : ∀ ds : List Nat, half ds → small (add16 ds)
  | [], _ => fun _ h => absurd h List.not_mem_nil
  | d :: ds, h => by
    intro x hx
    have hd := h d List.mem_cons_self
    have hv := val_low ds (fun y hy => h y (List.mem_cons_of_mem _ hy))
    rcases List.mem_cons.1 hx with rfl | hx
    · omega
    · exact add16_small ds (fun y hy => h y (List.mem_cons_of_mem _ hy)) x hx
theorem add16_length : ∀ ds : List Nat, (add16 ds).length = ds.length
  | [] => rfl
  | d :: ds => by simp [add16, add16_length ds]
theorem map_add16 : ∀ ds : List Nat, (add16 ds).map (· &&& 15) = ds.map g2
  | [] => rfl
  | d :: ds => by
    simp only [add16, List.map_cons]
    rw [map_add16 ds, low_and _ (d / 16 + d) 15 4 (by omega) (by omega)]
    rfl
theorem step2 (ds : List Nat) (h : half ds) (m : Nat) (hm : m = val (List.replicate ds.length 15)) : (val ds / 16 + val ds) &&& m = val (ds.map g2) := by
  subst hm
  have e := val_and (add16 ds) 15 (add16_small ds h) (by omega)
  rw [add16_length] at e
  rw [val_add16 ds h, e, map_add16]

theorem div_step (r k q : Nat) (h : r < k) : (r + k * q) / k = q := by
  rw [Nat.add_mul_div_left _ _ (by omega), Nat.div_eq_of_lt h, Nat.zero_add]
theorem div2 (r0 r1 z : Nat) (h0 : r0 < 256) (h1 : r1 < 256) : (r0 + 256 * (r1 + 256 * z)) / 65536 = z := by
  have e : r0 + 256 * (r1 + 256 * z) = (r0 + 256 * r1) + 65536 * z := by omega
  rw [e, div_step _ _ _ (by omega)]
theorem div4 (r0 r1 r2 r3 z : Nat) (h0 : r0 < 256) (h1 : r1 < 256) (h2 : r2 < 256) (h3 : r3 < 256) : (r0 + 256 * (r1 + 256 * (r2 + 256 * (r3 + 256 * z)))) / 4294967296 = z := by
  have e : r0 + 256 * (r1 + 256 * (r2 + 256 * (r3 + 256 * z))) = (r0 + 256 * (r1 + 256 * (r2 + 256 * r3))) + 4294967296 * z := by omega
  rw [e, div_step _ _ _ (by omega)]
theorem mod128 (r z : Nat) (h : r < 128) : (r + 256 * z) % 128 = r := by omega
theorem add256 (r r' z z' : Nat) : (r + 256 * z) + (r' + 256 * z') = (r + r') + 256 * (z + z') := by omega
theorem add256' (r r' z : Nat) : (r + 256 * z) + r' = (r + r') + 256 * z := by omega
def s4 (x : Nat) : Nat := x + x / 256
def s5 (x : Nat) : Nat := x + x / 65536
def s6 (x : Nat) : Nat := x + x / 4294967296
theorem fold4 (a b c d e f g i : Nat) (ha : a < 256) :
    s4 (a + 256 * (b + 256 * (c + 256 * (d + 256 * (e + 256 * (f + 256 * (g + 256 * (i + 256 * 0)))))))) =
    (a + b) + 256 * ((b + c) + 256 * ((c + d) + 256 * ((d + e) + 256 * ((e + f) + 256 * ((f + g) + 256 * ((g + i) + 256 * (i + 256 * 0))))))) := by
  unfold s4
  rw [div_step a 256 _ ha, add256, add256, add256, add256, add256, add256, add256']
  simp only [Nat.mul_zero, Nat.add_zero]
theorem fold5 (a b c d e f g i : Nat) (ha : a < 256) (hb : b < 256) :
    s5 (a + 256 * (b + 256 * (c + 256 * (d + 256 * (e + 256 * (f + 256 * (g + 256 * (i + 256 * 0)))))))) =
    (a + c) + 256 * ((b + d) + 256 * ((c + e) + 256 * ((d + f) + 256 * ((e + g) + 256 * ((f + i) + 256 * (g + 256 * i)))))) := by
  unfold s5
  rw [div2 _ _ _ ha hb, add256, add256, add256, add256, add256, add256', Nat.mul_zero]
  rfl
theorem fold6 (a b c d e f g i : Nat) (ha : a < 256) (hb : b < 256) (hc : c < 256) (hd : d < 256) (h : a + e < 128) :
    s6 (a + 256 * (b + 256 * (c + 256 * (d + 256 * (e + 256 * (f + 256 * (g + 256 * i))))))) % 128 = a + e := by
  unfold s6
  rw [div4 _ _ _ _ _ ha hb hc hd, add256, mod128 _ _ h]
theorem fold8 (a b c d e f g i : Nat) (ha : a ≤ 8) (hb : b ≤ 8) (hc : c ≤ 8) (hd : d ≤ 8) (he : e ≤ 8) (hf : f ≤ 8) (hg : g ≤ 8) (hi : i ≤ 8) :
    s6 (s5 (s4 (a + 256 * (b + 256 * (c + 256 * (d + 256 * (e + 256 * (f + 256 * (g + 256 * (i + 256 * 0)))))))))) % 128 = a + b + c + d + e + f + g + i := by
  rw [fold4 _ _ _ _ _ _ _ _ (by omega), fold5 _ _ _ _ _ _ _ _ (by omega) (by omega), fold6 _ _ _ _ _ _ _ _ (by omega) (by omega) (by omega) (by omega) (by omega)]
  omega
/-- What the library's OnesCount64 works out, step by step. -/
def swar (x : Nat) : Nat :=
  let x1 := (x / 2 &&& 6148914691236517205) + (x &&& 6148914691236517205)
  let x2 := (x1 / 4 &&& 3689348814741910323) + (x1 &&& 3689348814741910323)
  let x3 := (x2 / 16 + x2) &&& 1085102592571150095
  s6 (s5 (s4 x3)) % 128

theorem bytes8 (x : Nat) (h : x < 18446744073709551616) : ∃ a b c d e f g i : Nat, a < 256 ∧ b < 256 ∧ c < 256 ∧ d < 256 ∧ e < 256 ∧ f < 256 ∧ g < 256 ∧ i < 256 ∧ x = val [a, b, c, d, e, f, g, i] := by
  refine ⟨x % 256, x / 256 % 256, x / 65536 % 256, x / 16777216 % 256, x / 4294967296 % 256, x / 1099511627776 % 256, x / 281474976710656 % 256, x / 72057594037927936, by omega, by omega, by omega, by omega, by omega, by omega, by omega, by omega, ?_⟩
  simp only [val]
  omega
theorem pop64 (a b c d e f g i : Nat) (ha : a < 256) (hb : b < 256) (hc : c < 256) (hd : d < 256) (he : e < 256) (hf : f < 256) (hg : g < 256) (hi : i < 256) :
    pop 64 (val [a, b, c, d, e, f, g, i]) = pop 8 a + pop 8 b + pop 8 c + pop 8 d + pop 8 e + pop 8 f + pop 8 g + pop 8 i := by
  have step : ∀ (k y v : Nat), y < 256 → pop (8 + k) (y + 256 * v) = pop 8 y + pop k v := by
    intro k y v hy
    rw [pop_split 8 k, pop_mod 8 (y + 256 * v)]
    have e1 : (y + 256 * v) % 2 ^ 8 = y := by omega
    have e2 : (y + 256 * v) / 2 ^ 8 = v := by omega
    rw [e1, e2]
  simp only [val]
  rw [show (64 : Nat) = 8 + (8 + (8 + (8 + (8 + (8 + (8 + (8 + 0))))))) from rfl, step _ a _ ha, step _ b _ hb, step _ c _ hc, step _ d _ hd, step _ e _ he, step _ f _ hf, step _ g _ hg, step _ i _ hi]
  simp only [pop]
  omega
theorem swar_pop (x : Nat) (h : x < 18446744073709551616) : swar x = pop 64 x := by
  obtain ⟨a, b, c, d, e, f, g, i, ha, hb, hc, hd, he, hf, hg, hi, rfl⟩ := bytes8 x h
  rw [pop64 a b c d e f g i ha hb hc hd he hf hg hi]
  have A := byte_all a ha
  have B := byte_all b hb
  have C := byte_all c hc
  have D := byte_all d hd
  have E := byte_all e he
  have F := byte_all f hf
  have G := byte_all g hg
  have I := byte_all i hi
  unfold swar
  have s0 := step0 [a, b, c, d, e, f, g, i] (by intro x hx; simp only [List.mem_cons, List.not_mem_nil, or_false] at hx; omega) 6148914691236517205 (show 6148914691236517205 = val (List.replicate 8 85) by decide +kernel)
  have s1 := step1 ([a, b, c, d, e, f, g, i].map g0) (by intro x hx; simp only [List.map_cons, List.map_nil, List.mem_cons, List.not_mem_nil, or_false] at hx; omega) 3689348814741910323 (show 3689348814741910323 = val (List.replicate 8 51) by decide +kernel)
  have s2 := step2 (([a, b, c, d, e, f, g, i].map g0).map g1) (by intro x hx; simp only [List.map_cons, List.map_nil, List.mem_cons, List.not_mem_nil, or_false] at hx; rcases hx with rfl | rfl | rfl | rfl | rfl | rfl | rfl | rfl <;> omega) 1085102592571150095 (show 1085102592571150095 = val (List.replicate 8 15) by decide +kernel)
  rw [s0]
  dsimp only
  rw [s1, s2]
  simp only [List.map_cons, List.map_nil, val, A.2.2.2.1, B.2.2.2.1, C.2.2.2.1, D.2.2.2.1, E.2.2.2.1, F.2.2.2.1, G.2.2.2.1, I.2.2.2.1]
  exact fold8 _ _ _ _ _ _ _ _ A.2.2.2.2 B.2.2.2.2 C.2.2.2.2 D.2.2.2.2 E.2.2.2.2 F.2.2.2.2 G.2.2.2.2 I.2.2.2.2
end Go.Proofs.YtilhicohfnaclaaDoor

/-
  The set package's calls on words: what And, Or, Minus, All, Not, single, With, Without, Empty, Has return, sets being told as one number.
-/
namespace Go.Proofs.YtilhicohfnaclaaDoor
open Go.RowKit
set_option linter.unusedVariables false

theorem and_any (n m : Nat) (hn : Sq n) (hm : Sq m) (w : World) :
    Calls Tryd.prog 38 #[.agg #[.int .u64 (loW n), .int .u64 (hiW n)], .agg #[.int .u64 (loW m), .int .u64 (hiW m)]] w fun e w' => e = .returned (.agg #[.int .u64 (loW (n &&& m)), .int .u64 (hiW (n &&& m))]) ∧ Below w.heap.size w w' := by
  have e1 := and_lo n m
  have e2 := and_hi n m hn hm
  clear hn hm
  generalize loW (n &&& m) = x at e1 ⊢
  generalize hiW (n &&& m) = y at e2 ⊢
  go_enter Tryd.func38, Tryd.ntmps38
  go_wp2
  exact bodyPost_ret (v := .agg #[.int .u64 x, .int .u64 y]) (by simp [results, Tryd.results38, go_sem]) rfl ⟨rfl, ball (ball (ball (bref _) _) _) _⟩

theorem or_any (n m : Nat) (hn : Sq n) (hm : Sq m) (w : World) :
    Calls Tryd.prog 61 #[.agg #[.int .u64 (loW n), .int .u64 (hiW n)], .agg #[.int .u64 (loW m), .int .u64 (hiW m)]] w fun e w' => e = .returned (.agg #[.int .u64 (loW (n ||| m)), .int .u64 (hiW (n ||| m))]) ∧ Below w.heap.size w w' := by
  have e1 := or_lo n m
  have e2 := or_hi n m hn hm
  clear hn hm
  generalize loW (n ||| m) = x at e1 ⊢
  generalize hiW (n ||| m) = y at e2 ⊢
  go_enter Tryd.func61, Tryd.ntmps61
  go_wp2
  exact bodyPost_ret (v := .agg #[.int .u64 x, .int .u64 y]) (by simp [results, Tryd.results61, go_sem]) rfl ⟨rfl, ball (ball (ball (bref _) _) _) _⟩

theorem minus_any (n m : Nat) (hn : Sq n) (hm : Sq m) (w : World) :
    Calls Tryd.prog 36 #[.agg #[.int .u64 (loW n), .int .u64 (hiW n)], .agg #[.int .u64 (loW m), .int .u64 (hiW m)]] w fun e w' => e = .returned (.agg #[.int .u64 (loW (minusN n m)), .int .u64 (hiW (minusN n m))]) ∧ Below w.heap.size w w' := by
  have e1 := minus_lo n m
  have e2 := minus_hi n m hn hm
  clear hn hm
  generalize loW (minusN n m) = x at e1 ⊢
  generalize hiW (minusN n m) = y at e2 ⊢
  go_enter Tryd.func36, Tryd.ntmps36
  go_wp2
  exact bodyPost_ret (v := .agg #[.int .u64 x, .int .u64 y]) (by simp [results, Tryd.results36, go_sem]) rfl ⟨rfl, ball (ball (ball (bref _) _) _) _⟩

theorem all_any (w : World) :
    Calls Tryd.prog 84 #[] w fun e w' => e = .returned (.agg #[.int .u64 (loW full), .int .u64 (hiW full)]) ∧ Below w.heap.size w w' := by
  rw [lo_full, hi_full]
  go_enter Tryd.func84, Tryd.ntmps84
  go_wp2
  exact bodyPost_ret (v := .agg #[.int .u64 9223372036854775807, .int .u64 262143]) (by simp [results, Tryd.results84, go_sem]) rfl ⟨rfl, ball (bref _) _⟩

theorem empty_any (n : Nat) (w : World) :
    Calls Tryd.prog 20 #[.agg #[.int .u64 (loW n), .int .u64 (hiW n)]] w fun e w' => e = .returned (.bool (decide (n = 0))) ∧ Below w.heap.size w w' := by
  by_cases h : n = 0
  · subst h
    rw [lo_zero, hi_zero]
    go_enter Tryd.func20, Tryd.ntmps20
    go_wp2
    go_ret
    exact ⟨rfl, ball (bref _) _⟩
  · have hd : decide (n = 0) = false := by simpa using h
    have hw := words_ne h
    rw [lo_zero, hi_zero] at hw
    rw [hd]
    clear hd h
    generalize loW n = x at hw ⊢
    generalize hiW n = y at hw ⊢
    by_cases hx : x = 0
    · subst hx
      have hy : (y == 0) = false := by simpa using hw
      clear hw
      go_enter Tryd.func20, Tryd.ntmps20
      go_wp2
      go_ret
      exact ⟨rfl, ball (bref _) _⟩
    · have hx' : (x == 0) = false := by simpa using hx
      clear hw hx
      go_enter Tryd.func20, Tryd.ntmps20
      go_wp2
      go_ret
      exact ⟨rfl, ball (bref _) _⟩

/-- The set of one square, or none. -/
def oneN (q : Int) : Nat := if 0 ≤ q ∧ q < 81 then 2 ^ q.toNat else 0
theorem oneN_sq (q : Int) : Sq (oneN q) := by
  unfold oneN
  split
  · exact Sq.pow (by omega)
  · exact Sq.zero
theorem wrap_pow (q : Nat) (h : q < 63) : IntKind.u64.wrap ((2 : Int) ^ q) = (2 : Int) ^ q := by
  have h1 : (2 : Nat) ^ q < 2 ^ 63 := Nat.pow_lt_pow_right (by omega) h
  have h2 : ((2 : Int) ^ q) = ((2 ^ q : Nat) : Int) := by rw [Int.natCast_pow]; rfl
  rw [h2, IntKind.wrap_u64]
  generalize (2 : Nat) ^ q = x at h1
  omega

theorem single_any (q : Int) (w : World) :
    Calls Tryd.prog 68 #[.int .i64 q] w fun e w' => e = .returned (.agg #[.int .u64 (loW (oneN q)), .int .u64 (hiW (oneN q))]) ∧ Below w.heap.size w w' := by
  by_cases h : q < 0 ∨ 81 ≤ q
  · rw [show oneN q = 0 from if_neg (by omega), lo_zero, hi_zero]
    rcases h with h | h
    all_goals
      go_enter Tryd.func68, Tryd.ntmps68
      go_wp2
      exact bodyPost_ret (v := .agg #[.int .u64 0, .int .u64 0]) (by simp [results, Tryd.results68, go_sem]) rfl ⟨rfl, ball (bref _) _⟩
  · rw [show oneN q = 2 ^ q.toNat from if_pos (by omega)]
    by_cases h63 : q < 63
    · obtain ⟨k, rfl⟩ : ∃ k : Nat, q = k := ⟨q.toNat, by omega⟩
      have hk : k < 63 := by omega
      rw [Int.toNat_natCast, (lo_pow_lo k hk).1, (lo_pow_lo k hk).2]
      have hwr := wrap_pow k hk
      have d0 : ¬ (k : Int) < 0 := by omega
      have d1 : ¬ 81 ≤ (k : Int) := by omega
      clear h
      go_enter Tryd.func68, Tryd.ntmps68
      go_wp2
      exact bodyPost_ret (v := .agg #[.int .u64 (2 ^ k), .int .u64 0]) (by simp [results, Tryd.results68, go_sem]) rfl ⟨rfl, ball (bref _) _⟩
    · obtain ⟨k, rfl⟩ : ∃ k : Nat, q = (k : Int) + 63 := ⟨(q - 63).toNat, by omega⟩
      have hk : k < 63 := by omega
      have ht : ((k : Int) + 63).toNat = k + 63 := by omega
      rw [ht, (lo_pow_hi (k + 63) (by omega)).1, (lo_pow_hi (k + 63) (by omega)).2, Nat.add_sub_cancel]
      have hwr := wrap_pow k hk
      have d0 : ¬ (k : Int) + 63 < 0 := by omega
      have d1 : ¬ 81 ≤ (k : Int) + 63 := by omega
      clear h ht
      go_enter Tryd.func68, Tryd.ntmps68
      go_wp2
      trace_state
      exact bodyPost_ret (v := .agg #[.int .u64 0, .int .u64 (2 ^ k)]) (by simp [results, Tryd.results68, go_sem]) rfl ⟨rfl, ball (bref _) _⟩
end Go.Proofs.YtilhicohfnaclaaDoor

/-
  The set package's With, Without, Has, Not.
-/
namespace Go.Proofs.YtilhicohfnaclaaDoor
open Go.RowKit
set_option linter.unusedVariables false

theorem with_any (n : Nat) (q : Int) (hn : Sq n) (w : World) :
    Calls Tryd.prog 65 #[.agg #[.int .u64 (loW n), .int .u64 (hiW n)], .int .i64 q] w fun e w' => e = .returned (.agg #[.int .u64 (loW (n ||| oneN q)), .int .u64 (hiW (n ||| oneN q))]) ∧ Below w.heap.size w w' := by
  have C := Lib.hid (fun W => or_any n (oneN q) hn (oneN_sq q) W)
  have S := Lib.hid (fun W => single_any q W)
  clear hn
  generalize loW (n ||| oneN q) = x at C ⊢
  generalize hiW (n ||| oneN q) = y at C ⊢
  generalize loW (oneN q) = s at C S
  generalize hiW (oneN q) = t at C S
  generalize loW n = a at C ⊢
  generalize hiW n = b at C ⊢
  go_enter Tryd.func65, Tryd.ntmps65
  go_wp2
  go_region_with (first
    | (go_at_call 68; refine (S.out _).mono ?_; rintro e w1 ⟨rfl, hb1⟩; obtain ⟨hc1, hf1⟩ := bcells hb1; have hz1 : w.heap.size + 1 < w1.heap.size := by (have := hb1.size; simp at this; omega))
    | (go_at_call 61; refine (C.out _).mono ?_; rintro e w2 ⟨rfl, hb2⟩; obtain ⟨hc2, hf2⟩ := bcells hb2; have hz2 : w1.heap.size ≤ w2.heap.size := hb2.size))
  all_goals
    go_wp2
    exact bodyPost_ret (v := .agg #[.int .u64 x, .int .u64 y]) (by simp [results, Tryd.results65, go_sem, hc1, hc2, hz1]) rfl
      ⟨rfl, ((bthen (bthen (ball (ball (bref w) _) _).drew hb1) hb2).setCell (by simp) _).setCell (by simp) _⟩

theorem without_any (n : Nat) (q : Int) (hn : Sq n) (w : World) :
    Calls Tryd.prog 113 #[.agg #[.int .u64 (loW n), .int .u64 (hiW n)], .int .i64 q] w fun e w' => e = .returned (.agg #[.int .u64 (loW (minusN n (oneN q))), .int .u64 (hiW (minusN n (oneN q)))]) ∧ Below w.heap.size w w' := by
  have C := Lib.hid (fun W => minus_any n (oneN q) hn (oneN_sq q) W)
  have S := Lib.hid (fun W => single_any q W)
  clear hn
  generalize loW (minusN n (oneN q)) = x at C ⊢
  generalize hiW (minusN n (oneN q)) = y at C ⊢
  generalize loW (oneN q) = s at C S
  generalize hiW (oneN q) = t at C S
  generalize loW n = a at C ⊢
  generalize hiW n = b at C ⊢
  go_enter Tryd.func113, Tryd.ntmps113
  go_wp2
  go_region_with (first
    | (go_at_call 68; refine (S.out _).mono ?_; rintro e w1 ⟨rfl, hb1⟩; obtain ⟨hc1, hf1⟩ := bcells hb1; have hz1 : w.heap.size + 1 < w1.heap.size := by (have := hb1.size; simp at this; omega))
    | (go_at_call 36; refine (C.out _).mono ?_; rintro e w2 ⟨rfl, hb2⟩; obtain ⟨hc2, hf2⟩ := bcells hb2; have hz2 : w1.heap.size ≤ w2.heap.size := hb2.size))
  all_goals
    go_wp2
    exact bodyPost_ret (v := .agg #[.int .u64 x, .int .u64 y]) (by simp [results, Tryd.results113, go_sem, hc1, hc2, hz1]) rfl
      ⟨rfl, ((bthen (bthen (ball (ball (bref w) _) _).drew hb1) hb2).setCell (by simp) _).setCell (by simp) _⟩

theorem not_any (n : Nat) (hn : Sq n) (w : World) :
    Calls Tryd.prog 93 #[.agg #[.int .u64 (loW n), .int .u64 (hiW n)]] w fun e w' => e = .returned (.agg #[.int .u64 (loW (minusN full n)), .int .u64 (hiW (minusN full n))]) ∧ Below w.heap.size w w' := by
  have C := Lib.hid (fun W => minus_any full n Sq.full hn W)
  have S := Lib.hid (fun W => all_any W)
  clear hn
  generalize loW (minusN full n) = x at C ⊢
  generalize hiW (minusN full n) = y at C ⊢
  generalize loW full = s at C S
  generalize hiW full = t at C S
  generalize loW n = a at C ⊢
  generalize hiW n = b at C ⊢
  go_enter Tryd.func93, Tryd.ntmps93
  go_wp2
  go_region_with (first
    | (go_at_call 84; refine (S.out _).mono ?_; rintro e w1 ⟨rfl, hb1⟩; obtain ⟨hc1, hf1⟩ := bcells hb1; have hz1 : w.heap.size + 1 < w1.heap.size := by (have := hb1.size; simp at this; omega))
    | (go_at_call 36; refine (C.out _).mono ?_; rintro e w2 ⟨rfl, hb2⟩; obtain ⟨hc2, hf2⟩ := bcells hb2; have hz2 : w1.heap.size ≤ w2.heap.size := hb2.size))
  all_goals
    go_wp2
    exact bodyPost_ret (v := .agg #[.int .u64 x, .int .u64 y]) (by simp [results, Tryd.results93, go_sem, hc1, hc2, hz1]) rfl
      ⟨rfl, ((bthen (bthen (ball (ball (bref w) _) _).drew hb1) hb2).setCell (by simp) _).setCell (by simp) _⟩

theorem has_any (n : Nat) (q : Int) (hn : Sq n) (w : World) :
    Calls Tryd.prog 26 #[.agg #[.int .u64 (loW n), .int .u64 (hiW n)], .int .i64 q] w fun e w' => e = .returned (.bool (!decide (n &&& oneN q = 0))) ∧ Below w.heap.size w w' := by
  have C := Lib.hid (fun W => and_any n (oneN q) hn (oneN_sq q) W)
  have S := Lib.hid (fun W => single_any q W)
  have E := Lib.hid (fun W => empty_any (n &&& oneN q) W)
  clear hn
  generalize decide (n &&& oneN q = 0) = z at E ⊢
  generalize loW (n &&& oneN q) = x at C E
  generalize hiW (n &&& oneN q) = y at C E
  generalize loW (oneN q) = s at C S
  generalize hiW (oneN q) = t at C S
  generalize loW n = a at C ⊢
  generalize hiW n = b at C ⊢
  go_enter Tryd.func26, Tryd.ntmps26
  go_wp2
  go_region_with (first
    | (go_at_call 68; refine (S.out _).mono ?_; rintro e w1 ⟨rfl, hb1⟩; obtain ⟨hc1, hf1⟩ := bcells hb1; have hz1 : w.heap.size < w1.heap.size := by (have := hb1.size; simp at this; omega))
    | (go_at_call 38; refine (C.out _).mono ?_; rintro e w2 ⟨rfl, hb2⟩)
    | (go_at_call 20; refine (E.out _).mono ?_; rintro e w3 ⟨rfl, hb3⟩))
  all_goals
    go_wp2
    go_ret
    exact ⟨rfl, bthen (bthen (bthen (ball (bref w) _).drew hb1) hb2) hb3⟩
end Go.Proofs.YtilhicohfnaclaaDoor

/-
  The library's counts of bits, and the set package's Count.
-/
namespace Go.Proofs.YtilhicohfnaclaaDoor
open Go.RowKit
set_option linter.unusedVariables false

theorem and_i64 (a b : Nat) (ha : a < 2 ^ 63) (hb : b < 2 ^ 63) : bits .and .i64 (a : Int) (b : Int) = ((a &&& b : Nat) : Int) :=
  (bits_nat .i64 63 (by decide) (fun n h0 h1 => by rw [IntKind.wrap_i64]; omega) a b ha hb).1
theorem wrap_nat (n : Nat) (h : n < 18446744073709551616) : IntKind.u64.wrap (n : Int) = n := by
  rw [IntKind.wrap_u64]
  omega
theorem r1 (x s m : Nat) (hx : x < 18446744073709551616) (hm : m < 9223372036854775808) :
    IntKind.u64.wrap (bits .and .u64 ((x : Int) / (s : Int)) (m : Int) + bits .and .u64 (x : Int) (m : Int)) = (((x / s &&& m) + (x &&& m) : Nat) : Int) := by
  have hd : x / s ≤ x := Nat.div_le_self _ _
  rw [← Int.natCast_ediv, u64_and_nat _ _ (by omega) (by omega), u64_and_nat _ _ hx (by omega), ← Int.natCast_add]
  apply wrap_nat
  have h1 : (x / s &&& m) ≤ m := Nat.and_le_right
  have h2 : (x &&& m) ≤ m := Nat.and_le_right
  omega
theorem r3 (x m : Nat) (hm : m < 18446744073709551616) :
    bits .and .u64 (IntKind.u64.wrap ((x : Int) / 16 + (x : Int))) (m : Int) = (((x / 16 + x) &&& m : Nat) : Int) := by
  have e : ((x : Int) / 16 + (x : Int)) = ((x / 16 + x : Nat) : Int) := by omega
  rw [e, IntKind.wrap_u64]
  have e2 : (((x / 16 + x : Nat) : Int)) % 18446744073709551616 = (((x / 16 + x) % 18446744073709551616 : Nat) : Int) := by omega
  rw [e2, u64_and_nat _ _ (Nat.mod_lt _ (by omega)) hm]
  congr 1
  exact low_and _ _ m 64 (by omega) (by rw [show (2 : Nat) ^ 64 = 18446744073709551616 from by decide, Nat.mod_mod])
theorem r4 (x s : Nat) (hx : x < 4611686018427387904) : IntKind.u64.wrap ((x : Int) + (x : Int) / (s : Int)) = ((x + x / s : Nat) : Int) := by
  have hd : x / s ≤ x := Nat.div_le_self _ _
  rw [← Int.natCast_ediv, ← Int.natCast_add]
  apply wrap_nat
  omega

theorem ones_any (x : Nat) (hx : x < 18446744073709551616) (w : World) :
    Calls Tryd.prog 77 #[.int .u64 x] w fun e w' => e = .returned (.int .i64 (pop 64 x)) ∧ w = w' := by
  have e1 : IntKind.u64.wrap (bits .and .u64 ((x : Int) / 2) 6148914691236517205 + bits .and .u64 (x : Int) 6148914691236517205) = _ := r1 x 2 6148914691236517205 hx (by omega)
  have b1 : (x / 2 &&& 6148914691236517205) + (x &&& 6148914691236517205) < 18446744073709551616 := by
    have h1 : (x / 2 &&& 6148914691236517205) ≤ 6148914691236517205 := Nat.and_le_right
    have h2 : (x &&& 6148914691236517205) ≤ 6148914691236517205 := Nat.and_le_right
    omega
  rw [← swar_pop x hx]
  have hs : swar x = s6 (s5 (s4 ((((((x / 2 &&& 6148914691236517205) + (x &&& 6148914691236517205)) / 4 &&& 3689348814741910323) + (((x / 2 &&& 6148914691236517205) + (x &&& 6148914691236517205)) &&& 3689348814741910323)) / 16 + ((((x / 2 &&& 6148914691236517205) + (x &&& 6148914691236517205)) / 4 &&& 3689348814741910323) + (((x / 2 &&& 6148914691236517205) + (x &&& 6148914691236517205)) &&& 3689348814741910323))) &&& 1085102592571150095))) % 128 := rfl
  rw [hs]
  clear hs
  generalize (x / 2 &&& 6148914691236517205) + (x &&& 6148914691236517205) = x1 at e1 b1 ⊢
  have e2 : IntKind.u64.wrap (bits .and .u64 ((x1 : Int) / 4) 3689348814741910323 + bits .and .u64 (x1 : Int) 3689348814741910323) = _ := r1 x1 4 3689348814741910323 b1 (by omega)
  generalize (x1 / 4 &&& 3689348814741910323) + (x1 &&& 3689348814741910323) = x2 at e2 ⊢
  have e3 : bits .and .u64 (IntKind.u64.wrap ((x2 : Int) / 16 + (x2 : Int))) 1085102592571150095 = _ := r3 x2 1085102592571150095 (by omega)
  have b3 : (x2 / 16 + x2) &&& 1085102592571150095 ≤ 1085102592571150095 := Nat.and_le_right
  generalize (x2 / 16 + x2) &&& 1085102592571150095 = x3 at e3 b3 ⊢
  have e4 := r4 x3 256 (by omega)
  have b4 : s4 x3 ≤ 1090000000000000000 := by unfold s4; omega
  change IntKind.u64.wrap ((x3 : Int) + (x3 : Int) / 256) = ((s4 x3 : Nat) : Int) at e4
  generalize s4 x3 = x4 at e4 b4 ⊢
  have e5 := r4 x4 65536 (by omega)
  have b5 : s5 x4 ≤ 1091000000000000000 := by unfold s5; omega
  change IntKind.u64.wrap ((x4 : Int) + (x4 : Int) / 65536) = ((s5 x4 : Nat) : Int) at e5
  generalize s5 x4 = x5 at e5 b5 ⊢
  have e6 := r4 x5 4294967296 (by omega)
  have b6 : s6 x5 ≤ 1092000000000000000 := by unfold s6; omega
  change IntKind.u64.wrap ((x5 : Int) + (x5 : Int) / 4294967296) = ((s6 x5 : Nat) : Int) at e6
  generalize s6 x5 = x6 at e6 b6 ⊢
  have e7 : bits .and .i64 (x6 : Int) 127 = ((x6 % 128 : Nat) : Int) := by
    rw [← Nat.and_two_pow_sub_one_eq_mod x6 7]
    exact and_i64 x6 127 (by omega) (by omega)
  have e8 : wrap64 (x6 : Int) = x6 := by unfold wrap64; omega
  generalize x6 % 128 = r at e7 ⊢
  clear b1 b3 b4 b5 b6 hx
  go_enter Tryd.func77, Tryd.ntmps77
  go_wp2
  go_ret
  exact ⟨rfl, rfl⟩
end Go.Proofs.YtilhicohfnaclaaDoor

/-
  The library's TrailingZeros64 and Len64, and the set package's Count, First, Last.
-/
namespace Go.Proofs.YtilhicohfnaclaaDoor
open Go.RowKit
set_option linter.unusedVariables false

/-- The library's table lies where it was laid. -/
def Tab (w : World) : Prop := ∀ j, j < 64 → w.cell? ⟨1, j, none⟩ = some (.int .u8 (Lib.deBruijn64tab.getD j 0))

theorem tz_key (x a : Nat) (hx : x < 18446744073709551616) (hx0 : x ≠ 0) (hlow : x &&& (18446744073709551616 - x) = a) :
    IntKind.u64.wrap (bits BinOp.and IntKind.u64 (x : Int) (IntKind.u64.wrap (-(x : Int))) * 285870213051353865) / 288230376151711744 = ((a * 285870213051353865 % 18446744073709551616 / 288230376151711744 : Nat) : Int) := by
  have e1 : IntKind.u64.wrap (-(x : Int)) = ((18446744073709551616 - x : Nat) : Int) := by rw [IntKind.wrap_u64]; omega
  rw [e1, u64_and_nat x _ hx (by omega), hlow, IntKind.wrap_u64]
  omega

theorem tz_core (x k idx : Nat) (w : World) (hb : ((x : Int) == 0) = false)
    (key : IntKind.u64.wrap (bits BinOp.and IntKind.u64 (x : Int) (IntKind.u64.wrap (-(x : Int))) * 285870213051353865) / 288230376151711744 = (idx : Int))
    (hi : idx < 64) (hk : k < 64) (hcell : w.cell? ⟨1, idx, none⟩ = some (.int .u8 k)) :
    Calls Tryd.prog 112 #[.int .u64 x] w fun e w' => e = .returned (.int .i64 k) ∧ w = w' := by
  go_enter Tryd.func112, Tryd.ntmps112
  go_wp2_with (simp only [key])
  go_ret
  exact ⟨rfl, rfl⟩
theorem tz_any (x : Nat) (hx : x < 18446744073709551616) (h0 : x ≠ 0) (w : World) (hT : Tab w) :
    Calls Tryd.prog 112 #[.int .u64 x] w fun e w' => e = .returned (.int .i64 (Lib.ctz 64 x)) ∧ w = w' := by
  obtain ⟨hlow, hk⟩ := Lib.lowest_bit 64 x h0 hx
  obtain ⟨hi, htab⟩ := Lib.deBruijn64_at _ hk
  have hcell := hT _ hi
  rw [htab] at hcell
  exact tz_core x _ _ w (by simp; omega) (tz_key x _ hx h0 hlow) hi hk hcell

theorem len_close (x s : Nat) (y z : Int) (hx : x < 18446744073709551616) (hy : y = ((x / 2 ^ s : Nat) : Int)) (hs : 2 ^ s ≤ x) (hl : x / 2 ^ s < 256) (hz : z = (s : Int) + Lib.len8 y) : z = (Lib.bitLen x : Int) := by
  subst hy hz
  generalize hq : x / 2 ^ s = q at hl
  rw [Lib.len8_of _ (by omega) (by omega), Int.toNat_natCast, ← hq, Lib.bitLen_shift s x hs (by rw [show (2 : Nat) ^ 64 = 18446744073709551616 from by decide]; exact hx)]
  omega
theorem len_close0 (x : Nat) (y z : Int) (hl : x < 256) (hy : y = (x : Int)) (hz : z = Lib.len8 y) : z = (Lib.bitLen x : Int) := by
  subst hy hz
  rw [Lib.len8_of _ (by omega) (by omega), Int.toNat_natCast]

theorem len8_bd (y : Int) (h0 : 0 ≤ y) (h1 : y < 256) : 0 ≤ Lib.len8 y ∧ Lib.len8 y ≤ 8 := by
  have h := Lib.len8_of y h0 (by omega)
  have h2 := Lib.bitLen_le8' y h0 (by omega)
  omega
end Go.Proofs.YtilhicohfnaclaaDoor

/-
  The set package's Count, First, Last, Has, Without, Not, Square.
-/
namespace Go.Proofs.YtilhicohfnaclaaDoor
open Go.RowKit
set_option linter.unusedVariables false

theorem bdrewN {B : Nat} {a w : World} (h : Below B a w) (n : Nat) : Below B a (w.drewN n) := ⟨h.os, h.tape, h.output, h.size, h.block⟩
theorem pop_zero : ∀ k, pop k 0 = 0
  | 0 => rfl
  | k + 1 => by simp [pop, pop_zero k]
theorem pop_words (n : Nat) (h : Sq n) : pop 64 (n % 9223372036854775808) + pop 64 (n / 9223372036854775808) = pop 81 n := by
  have e1 : pop 64 (n % 9223372036854775808) = pop 63 n := by
    rw [show (64 : Nat) = 63 + 1 from rfl, pop_split 63 1, pow63, ← pop_mod, Nat.div_eq_of_lt (Nat.mod_lt _ (by decide)), pop_zero, Nat.add_zero]
  have e2 : pop 64 (n / 9223372036854775808) = pop 18 (n / 9223372036854775808) := by
    rw [show (64 : Nat) = 18 + 46 from rfl, pop_split 18 46]
    have : n / 9223372036854775808 / 2 ^ 18 = 0 := Nat.div_eq_of_lt h.hi
    rw [this, pop_zero, Nat.add_zero]
  rw [e1, e2, show (81 : Nat) = 63 + 18 from rfl, pop_split 63 18, ← pow63]

theorem count_any (n : Nat) (hn : Sq n) (w : World) :
    Calls Tryd.prog 37 #[.agg #[.int .u64 (loW n), .int .u64 (hiW n)]] w fun e w' => e = .returned (.int .i64 (pop 81 n)) ∧ Below w.heap.size w w' := by
  have A := (fun W => ones_any (n % 9223372036854775808) (by omega) W)
  have B := (fun W => ones_any (n / 9223372036854775808) (by have := hn.hi; omega) W)
  have b1 := pop_le 64 (n % 9223372036854775808)
  have b2 := pop_le 64 (n / 9223372036854775808)
  rw [← pop_words n hn]
  generalize pop 64 (n % 9223372036854775808) = x at A b1 ⊢
  generalize pop 64 (n / 9223372036854775808) = y at B b2 ⊢
  change (∀ W, Calls Tryd.prog 77 #[.int .u64 (loW n)] W _) at A
  change (∀ W, Calls Tryd.prog 77 #[.int .u64 (hiW n)] W _) at B
  generalize loW n = l at A ⊢
  generalize hiW n = h at B ⊢
  have HA := Lib.hid A
  have HB := Lib.hid B
  clear A B
  clear hn
  go_enter Tryd.func37, Tryd.ntmps37
  go_wp2
  go_quiet ((first | (go_at_call_of 77 (Value.int .u64 l); exact Calls.quiet_of_same ((HA.out _).mono fun _ _ h => ⟨h.1, h.2.symm⟩)) | (go_at_call_of 77 (Value.int .u64 h); exact Calls.quiet_of_same ((HB.out _).mono fun _ _ h => ⟨h.1, h.2.symm⟩))))
  go_wp2
  go_ret
  exact ⟨by rw [Int.natCast_add]; rfl, bdrewN (ball (bref _) _) _⟩

theorem Tab.grow {w w' : World} (h : Tab w) (hb : Below w.heap.size w w') : Tab w' := by
  intro j hj
  have h1 := h j hj
  have hlt := block_lt_of_cell h1
  rw [← h1]
  exact hb.cell (p := ⟨1, j, none⟩) hlt

def firstF (n : Nat) : Int := if n % 9223372036854775808 ≠ 0 then (Lib.ctz 64 (n % 9223372036854775808) : Int) else if n / 9223372036854775808 ≠ 0 then 63 + (Lib.ctz 64 (n / 9223372036854775808) : Int) else -1
def lastF (n : Nat) : Int := if n / 9223372036854775808 ≠ 0 then 63 + (Lib.bitLen (n / 9223372036854775808) : Int) - 1 else (Lib.bitLen (n % 9223372036854775808) : Int) - 1

theorem ctz_lt (x : Nat) (h0 : x ≠ 0) (hx : x < 18446744073709551616) : Lib.ctz 64 x < 64 := (Lib.lowest_bit 64 x h0 hx).2

theorem first_any (n : Nat) (hn : Sq n) (w : World) (hT : Tab w) :
    Calls Tryd.prog 76 #[.agg #[.int .u64 (loW n), .int .u64 (hiW n)]] w fun e w' => e = .returned (.int .i64 (firstF n)) ∧ Below w.heap.size w w' := by
  have hh := hn.hi
  have hl := lo_lt n
  unfold firstF loW hiW
  generalize n % 9223372036854775808 = l at hl ⊢
  generalize n / 9223372036854775808 = h at hh ⊢
  by_cases c : l = 0
  · subst c
    rw [if_neg (by simp)]
    by_cases d : h = 0
    · subst d
      rw [if_neg (by simp)]
      clear hh hl hT hn
      go_enter Tryd.func76, Tryd.ntmps76
      go_wp2
      go_ret
      exact ⟨rfl, ball (bref _) _⟩
    · rw [if_pos d]
      have H := Lib.hid (fun (W : World) (t : Tab W) => tz_any h (by omega) d W t)
      have b := ctz_lt h d (by omega)
      have HT := Lib.hid hT
      have d1 : ((h : Int) == 0) = false := by simpa using d
      have d2 : ((h : Int) != 0) = true := by simpa using d
      generalize Lib.ctz 64 h = k at H b ⊢
      clear hh hl hT hn d
      go_enter Tryd.func76, Tryd.ntmps76
      go_wp2_with (go_at_call 112; refine (H.out _ (HT.out.grow (ball (bref _) _))).mono ?_; rintro e w' ⟨rfl, rfl⟩)
      go_ret
      exact ⟨rfl, ball (bref _) _⟩
  · rw [if_pos c]
    have H := Lib.hid (fun (W : World) (t : Tab W) => tz_any l (by omega) c W t)
    have HT := Lib.hid hT
    have d1 : ((l : Int) == 0) = false := by simpa using c
    have d2 : ((l : Int) != 0) = true := by simpa using c
    generalize Lib.ctz 64 l = k at H ⊢
    clear hh hl hT hn c
    go_enter Tryd.func76, Tryd.ntmps76
    go_wp2_with (go_at_call 112; refine (H.out _ (HT.out.grow (ball (bref _) _))).mono ?_; rintro e w' ⟨rfl, rfl⟩)
    go_ret
    exact ⟨rfl, ball (bref _) _⟩

theorem bitLen_le64 (x : Nat) : Lib.bitLen x ≤ 64 := by
  have : ∀ f x, Lib.bitLenAux f x ≤ f := by
    intro f
    induction f with
    | zero => intro x; simp [Lib.bitLenAux]
    | succ f ih =>
      intro x
      unfold Lib.bitLenAux
      have := ih (x / 2)
      split <;> omega
  exact this 64 x

theorem file_any (q : Int) (w : World) (h0 : 0 ≤ q) (h1 : q ≤ 80) :
    Calls Tryd.prog 119 #[.int .i64 q] w fun e w' => e = .returned (.int .i64 (q / 9)) ∧ w = w' := by
  go_enter Tryd.func119, Tryd.ntmps119
  go_wp2
  go_ret
  exact ⟨rfl, rfl⟩
theorem rank_any (q : Int) (w : World) (h0 : 0 ≤ q) (h1 : q ≤ 80) :
    Calls Tryd.prog 126 #[.int .i64 q] w fun e w' => e = .returned (.int .i64 (q % 9)) ∧ w = w' := by
  go_enter Tryd.func126, Tryd.ntmps126
  go_wp2
  go_ret
  exact ⟨rfl, rfl⟩
def squareF (f r : Int) : Int := if 0 ≤ f ∧ f ≤ 8 ∧ 0 ≤ r ∧ r ≤ 8 then f * 9 + r else -1
theorem square_any (f r : Int) (w : World) :
    Calls Tryd.prog 116 #[.int .i64 f, .int .i64 r] w fun e w' => e = .returned (.int .i64 (squareF f r)) ∧ w = w' := by
  unfold squareF
  by_cases a : f < 0
  · rw [if_neg (by omega)]
    go_enter Tryd.func116, Tryd.ntmps116
    go_wp2
    go_ret
    exact ⟨rfl, rfl⟩
  · by_cases b : 9 ≤ f
    · rw [if_neg (by omega)]
      go_enter Tryd.func116, Tryd.ntmps116
      go_wp2
      go_ret
      exact ⟨rfl, rfl⟩
    · by_cases c : r < 0
      · rw [if_neg (by omega)]
        go_enter Tryd.func116, Tryd.ntmps116
        go_wp2
        go_ret
        exact ⟨rfl, rfl⟩
      · by_cases d : 9 ≤ r
        · rw [if_neg (by omega)]
          go_enter Tryd.func116, Tryd.ntmps116
          go_wp2
          go_ret
          exact ⟨rfl, rfl⟩
        · rw [if_pos (by omega)]
          go_enter Tryd.func116, Tryd.ntmps116
          go_wp2
          go_ret
          exact ⟨rfl, rfl⟩
end Go.Proofs.YtilhicohfnaclaaDoor

/-
  The set package's Of, InFile, InRank: loops that put squares into a set.
-/
namespace Go.Proofs.YtilhicohfnaclaaDoor
open Go.RowKit
set_option linter.unusedVariables false

/-- The set of a list of numbers. -/
def ofN (l : List Int) : Nat := l.foldl (fun n q => n ||| oneN q) 0
theorem ofN_snoc (l : List Int) (q : Int) : ofN (l ++ [q]) = ofN l ||| oneN q := by
  unfold ofN
  rw [List.foldl_append]
  rfl
theorem foldl_sq : ∀ (l : List Int) (n : Nat), Sq n → Sq (l.foldl (fun n q => n ||| oneN q) n)
  | [], _, h => h
  | q :: l, n, h => foldl_sq l (n ||| oneN q) (h.or (oneN_sq q))
theorem ofN_sq (l : List Int) : Sq (ofN l) := foldl_sq l 0 Sq.zero

/-- A set's variable in the call's own memory. -/
structure Var (w : World) (k : Nat) (x y : Int) : Prop where
  lt : k < w.heap.size
  lo : w.cell? ⟨k, 0, none⟩ = some (.int .u64 x)
  hi : w.cell? ⟨k, 1, none⟩ = some (.int .u64 y)
  f0 : w.frozen? ⟨k, 0, none⟩ = false
  f1 : w.frozen? ⟨k, 1, none⟩ = false
theorem Var.grow {w w' : World} {k : Nat} {x y : Int} (h : Var w k x y) (hb : Below w.heap.size w w') : Var w' k x y :=
  ⟨Nat.lt_of_lt_of_le h.lt hb.size, (hb.cell (p := ⟨k, 0, none⟩) h.lt).trans h.lo, (hb.cell (p := ⟨k, 1, none⟩) h.lt).trans h.hi, (hb.frozen (p := ⟨k, 0, none⟩) h.lt).trans h.f0, (hb.frozen (p := ⟨k, 1, none⟩) h.lt).trans h.f1⟩
theorem Var.put {w : World} {k : Nat} {x y : Int} (h : Var w k x y) (x' y' : Int) : Var ((w.setCell ⟨k, 0, none⟩ (.int .u64 x')).setCell ⟨k, 1, none⟩ (.int .u64 y')) k x' y' := by
  obtain ⟨h1, h2, h3, h4, h5⟩ := h
  refine ⟨by simpa using h1, ?_, ?_, ?_, ?_⟩
  · go_simp
  · go_simp
  · go_simp
  · go_simp
theorem Var.other {w : World} {k j : Nat} {x y : Int} (h : Var w k x y) (hj : j ≠ k) (x' y' : Value) : Var ((w.setCell ⟨j, 0, none⟩ x').setCell ⟨j, 1, none⟩ y') k x y := by
  obtain ⟨h1, h2, h3, h4, h5⟩ := h
  refine ⟨by simpa using h1, ?_, ?_, ?_, ?_⟩
  · go_simp
  · go_simp
  · go_simp
  · go_simp

theorem take_step (l : List Int) (k : Nat) (h : k < l.length) : ofN (l.take (k + 1)) = ofN (l.take k) ||| oneN l[k] := by
  rw [List.take_succ_eq_append_getElem h, ofN_snoc]

theorem of_any (b off cap : Nat) (l : List Int) (w : World) (hlen : l.length ≤ 140737488351232) (hb : b < w.heap.size)
    (hc : ∀ (j : Nat) (hj : j < l.length), w.cell? ⟨b, off + j, none⟩ = some (.int .i64 l[j])) :
    Calls Tryd.prog 21 #[.slice (some ⟨b, off, none⟩) l.length cap] w fun e w' => e = .returned (.agg #[.int .u64 (loW (ofN l)), .int .u64 (hiW (ofN l))]) ∧ Below w.heap.size w w' := by
  have HC := Lib.hid hc
  clear hc
  go_enter Tryd.func21, Tryd.ntmps21
  go_wp2
  go_loopw [5, 8] (fun _ i wr => ∃ k : Nat, k ≤ l.length ∧ i = .int .i64 k ∧ Below w.heap.size w wr ∧ Var wr w.heap.size 0 0 ∧ Var wr (w.heap.size + 1) (loW (ofN (l.take k))) (hiW (ofN (l.take k)))) (fun _ i _ => l.length - (intOf i).toNat)
  case atStart =>
    refine ⟨0, Nat.zero_le _, rfl, ball (ball (bref _) _) _, ⟨?_, ?_, ?_, ?_, ?_⟩, ⟨?_, ?_, ?_, ?_, ?_⟩⟩
    case refine_7 => rw [List.take_zero, show ofN [] = 0 from rfl, lo_zero]; go_simp
    case refine_8 => rw [List.take_zero, show ofN [] = 0 from rfl, hi_zero]; go_simp
    all_goals first | (go_simp; done) | (simp; done)
  case round =>
    obtain ⟨k, hk, rfl, hB, hR, hV⟩ := hrel
    have HB := Lib.hid hB
    have HR := Lib.hid hR
    have HV := Lib.hid hV
    have hz := hV.lt
    by_cases hlt : k < l.length
    · have hcell : wr.cell? ⟨b, off + k, none⟩ = some (.int .i64 l[k]) := (hB.cell (p := ⟨b, off + k, none⟩) hb).trans (HC.out k hlt)
      have C := Lib.hid (fun W => with_any (ofN (l.take k)) l[k] (ofN_sq _) W)
      rw [← take_step l k hlt] at C
      have l0 := hV.lo
      have l1 := hV.hi
      have l2 := hV.f0
      have l3 := hV.f1
      clear hB hR hV HC
      generalize l[k] = q at C hcell
      generalize loW (ofN (l.take k)) = x at C l0 HV
      generalize hiW (ofN (l.take k)) = y at C l1 HV
      generalize hx : loW (ofN (l.take (k + 1))) = x2 at C
      generalize hy : hiW (ofN (l.take (k + 1))) = y2 at C
      have HX := Lib.hid hx
      have HY := Lib.hid hy
      clear hx hy
      go_wp2_with (go_at_call 65; refine (C.out _).mono ?_; rintro e w2 ⟨rfl, hb2⟩; obtain ⟨hc2, hf2⟩ := bcells hb2; have hz2 : wr.heap.size ≤ w2.heap.size := hb2.size)
      go_roundw
      case rel =>
        refine ⟨k + 1, by omega, by go_num, ?_, ?_, ?_⟩
        · exact ((HB.out.trans (hb2.mono HB.out.size)).setCell (by simp) _).setCell (by simp) _
        · exact (HR.out.grow hb2).other (by omega) _ _
        · rw [HX.out, HY.out]
          exact (HV.out.grow hb2).put _ _
      case measure => simp [intOf]; omega
    · obtain rfl : k = l.length := by omega
      rw [List.take_length] at HV hV
      have l0 := hV.lo
      have l1 := hV.hi
      have r0 := hR.lo
      have r1 := hR.hi
      have r2 := hR.f0
      have r3 := hR.f1
      clear hB hR hV HC
      generalize hx : loW (ofN l) = x at l0 HV
      generalize hy : hiW (ofN l) = y at l1 HV
      have HX := Lib.hid hx
      have HY := Lib.hid hy
      clear hx hy
      go_wp2
      rw [HX.out, HY.out]
      exact bodyPost_ret (v := .agg #[.int .u64 x, .int .u64 y]) (by simp [results, Tryd.results21, go_sem, r0, r1]) rfl
        ⟨rfl, (HB.out.setCell (Nat.le_refl _) _).setCell (Nat.le_refl _) _⟩

theorem of_empty (a : Option Addr) (cap : Nat) (w : World) :
    Calls Tryd.prog 21 #[.slice a 0 cap] w fun e w' => e = .returned (.agg #[.int .u64 (loW 0), .int .u64 (hiW 0)]) ∧ Below w.heap.size w w' := by
  rw [lo_zero, hi_zero]
  go_enter Tryd.func21, Tryd.ntmps21
  go_wp2
  go_loop [8] (fun i => i = .int .i64 0) (fun _ => 0)
  case atStart => rfl
  case round =>
    subst hrel
    go_wp2
    exact bodyPost_ret (v := .agg #[.int .u64 0, .int .u64 0]) (by simp [results, Tryd.results21, go_sem]) rfl
      ⟨rfl, ball (ball (bref _) _) _⟩

/-- The squares of a file, and of a rank. -/
def fileL (f : Int) (k : Nat) : List Int := (List.range k).map (fun (r : Nat) => squareF f r)
def rankL (r : Int) (k : Nat) : List Int := (List.range k).map (fun (f : Nat) => squareF f r)
theorem fileL_step (f : Int) (k : Nat) : ofN (fileL f (k + 1)) = ofN (fileL f k) ||| oneN (squareF f k) := by
  unfold fileL
  rw [List.range_succ, List.map_append, List.map_singleton, ofN_snoc]
theorem rankL_step (r : Int) (k : Nat) : ofN (rankL r (k + 1)) = ofN (rankL r k) ||| oneN (squareF k r) := by
  unfold rankL
  rw [List.range_succ, List.map_append, List.map_singleton, ofN_snoc]

theorem inFile_any (f : Int) (w : World) :
    Calls Tryd.prog 118 #[.int .i64 f] w fun e w' => e = .returned (.agg #[.int .u64 (loW (ofN (fileL f 9))), .int .u64 (hiW (ofN (fileL f 9)))]) ∧ Below w.heap.size w w' := by
  go_enter Tryd.func118, Tryd.ntmps118
  go_wp2
  go_loopw [4, 5] (fun _ i wr => ∃ k : Nat, k ≤ 9 ∧ i = .int .i64 k ∧ Below w.heap.size w wr ∧ Var wr w.heap.size 0 0 ∧ Var wr (w.heap.size + 1) (loW (ofN (fileL f k))) (hiW (ofN (fileL f k)))) (fun _ i _ => 9 - (intOf i).toNat)
  case atStart =>
    refine ⟨0, Nat.zero_le _, rfl, ball (ball (bref _) _) _, ⟨?_, ?_, ?_, ?_, ?_⟩, ⟨?_, ?_, ?_, ?_, ?_⟩⟩
    case refine_7 => rw [show ofN (fileL f 0) = 0 from rfl, lo_zero]; go_simp
    case refine_8 => rw [show ofN (fileL f 0) = 0 from rfl, hi_zero]; go_simp
    all_goals first | (go_simp; done) | (simp; done)
  case round =>
    obtain ⟨k, hk, rfl, hB, hR, hV⟩ := hrel
    have HB := Lib.hid hB
    have HR := Lib.hid hR
    have HV := Lib.hid hV
    have hz := hV.lt
    by_cases hlt : k < 9
    · have C := Lib.hid (fun W => with_any (ofN (fileL f k)) (squareF f k) (ofN_sq _) W)
      have Q := Lib.hid (fun W => square_any f k W)
      rw [← fileL_step f k] at C
      have l0 := hV.lo
      have l1 := hV.hi
      have l2 := hV.f0
      have l3 := hV.f1
      clear hB hR hV
      generalize squareF f k = q at C Q
      generalize loW (ofN (fileL f k)) = x at C l0 HV
      generalize hiW (ofN (fileL f k)) = y at C l1 HV
      generalize hx : loW (ofN (fileL f (k + 1))) = x2 at C
      generalize hy : hiW (ofN (fileL f (k + 1))) = y2 at C
      have HX := Lib.hid hx
      have HY := Lib.hid hy
      clear hx hy
      go_wp2
      go_region_with (first
        | (go_at_call 116; refine (Q.out _).mono ?_; rintro e w1 ⟨rfl, rfl⟩)
        | (go_at_call 65; refine (C.out _).mono ?_; rintro e w2 ⟨rfl, hb2⟩; have c0 : w2.cell? ⟨w.heap.size + 1, 0, none⟩ = some (.int .u64 x) := (hb2.cell (p := ⟨w.heap.size + 1, 0, none⟩) hz).trans l0; have c1 : w2.cell? ⟨w.heap.size + 1, 1, none⟩ = some (.int .u64 y) := (hb2.cell (p := ⟨w.heap.size + 1, 1, none⟩) hz).trans l1; have g0 : w2.frozen? ⟨w.heap.size + 1, 0, none⟩ = false := (hb2.frozen (p := ⟨w.heap.size + 1, 0, none⟩) hz).trans l2; have g1 : w2.frozen? ⟨w.heap.size + 1, 1, none⟩ = false := (hb2.frozen (p := ⟨w.heap.size + 1, 1, none⟩) hz).trans l3))
      all_goals
        go_wp2
        go_roundw
        case rel =>
          have hd : Below wr.heap.size wr w2 := (bref wr).drew.trans hb2
          refine ⟨k + 1, by omega, by go_num, ?_, ?_, ?_⟩
          · exact ((HB.out.trans (hd.mono HB.out.size)).setCell (by simp) _).setCell (by simp) _
          · exact (HR.out.grow hd).other (by omega) _ _
          · rw [HX.out, HY.out]
            exact (HV.out.grow hd).put _ _
        case measure => simp [intOf]; omega
    · obtain rfl : k = 9 := by omega
      have l0 := hV.lo
      have l1 := hV.hi
      have r0 := hR.lo
      have r1 := hR.hi
      have r2 := hR.f0
      have r3 := hR.f1
      clear hB hR hV
      generalize hx : loW (ofN (fileL f 9)) = x at l0 HV
      generalize hy : hiW (ofN (fileL f 9)) = y at l1 HV
      have HX := Lib.hid hx
      have HY := Lib.hid hy
      clear hx hy
      go_wp2
      rw [HX.out, HY.out]
      exact bodyPost_ret (v := .agg #[.int .u64 x, .int .u64 y]) (by simp [results, Tryd.results118, go_sem, r0, r1]) rfl
        ⟨rfl, (HB.out.setCell (Nat.le_refl _) _).setCell (Nat.le_refl _) _⟩

end Go.Proofs.YtilhicohfnaclaaDoor
