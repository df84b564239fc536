/-
  How many bits a number has, and that the program's library counts them so: plain facts on numbers; no program is named here.
-/
import Derived.WalkKit
import Derived.Laws.BitsAllLaws
namespace Go.Proofs.YtbopbekehccdmaaDoor

/-- How many of the lowest k bits of x are set. -/
def pop : Nat → Nat → Nat
  | 0, _ => 0
  | k + 1, x => x % 2 + pop k (x / 2)

theorem pop_split : ∀ (j k x : Nat), pop (j + k) x = pop j x + pop k (x / 2 ^ j)
  | 0, k, x => by simp [pop]
  | j + 1, k, x => by
    have h := pop_split j k (x / 2)
    rw [Nat.succ_add]
    simp only [pop]
    have e : x / 2 / 2 ^ j = x / 2 ^ (j + 1) := by rw [Nat.div_div_eq_div_mul, Nat.pow_succ, Nat.mul_comm]
    rw [h, e]
    omega
theorem pop_mod : ∀ (k x : Nat), pop k x = pop k (x % 2 ^ k)
  | 0, x => rfl
  | k + 1, x => by
    simp only [pop]
    rw [pop_mod k (x / 2), pop_mod k (x % 2 ^ (k + 1) / 2)]
    have e1 : x % 2 ^ (k + 1) / 2 = x / 2 % 2 ^ k := by
      rw [Nat.pow_succ, Nat.mul_comm, Nat.mod_mul_right_div_self]
    have e2 : x % 2 ^ (k + 1) % 2 = x % 2 := Nat.mod_mod_of_dvd x ⟨2 ^ k, by rw [Nat.pow_succ, Nat.mul_comm]⟩
    rw [e1, e2, Nat.mod_mod]
theorem pop_succ (k x : Nat) : pop (k + 1) x = pop k x + (if x.testBit k = true then 1 else 0) := by
  rw [pop_split k 1 x]
  have : pop 1 (x / 2 ^ k) = x / 2 ^ k % 2 := by simp [pop]
  rw [this, Nat.testBit_eq_decide_div_mod_eq]
  have h := Nat.mod_two_eq_zero_or_one (x / 2 ^ k)
  rcases h with h | h <;> simp [h]
theorem pop_le : ∀ (k x : Nat), pop k x ≤ k
  | 0, x => Nat.le_refl _
  | k + 1, x => by
    have := pop_le k (x / 2)
    simp only [pop]
    omega
theorem pop_list (x : Nat) : ∀ k, pop k x = ((List.range k).filter (fun i => x.testBit i)).length
  | 0 => rfl
  | k + 1 => by
    rw [pop_succ, pop_list x k, List.range_succ, List.filter_append, List.length_append]
    congr 1
    by_cases h : x.testBit k = true <;> simp [h]

/-- The number of some digits to the base 256, the lowest first. -/
def val : List Nat → Nat
  | [] => 0
  | d :: ds => d + 256 * val ds
def small (ds : List Nat) : Prop := ∀ d ∈ ds, d < 256

theorem val_and : ∀ (ds : List Nat) (c : Nat), small ds → c < 256 → val ds &&& val (List.replicate ds.length c) = val (ds.map (· &&& c))
  | [], c, _, _ => by simp [val]
  | d :: ds, c, h, hc => by
    have ih := val_and ds c (fun x hx => h x (List.mem_cons_of_mem _ hx)) hc
    have hd : d < 256 := h d List.mem_cons_self
    simp only [List.length_cons, List.replicate_succ, List.map_cons, val]
    rw [← ih]
    generalize val ds = v
    generalize val (List.replicate ds.length c) = u
    have e1 : ((d + 256 * v) &&& (c + 256 * u)) % 2 ^ 8 = d &&& c := by
      rw [Nat.and_mod_two_pow]
      congr 1 <;> omega
    have e2 : ((d + 256 * v) &&& (c + 256 * u)) / 2 ^ 8 = v &&& u := by
      rw [Nat.and_div_two_pow]
      congr 1 <;> omega
    have := Nat.div_add_mod ((d + 256 * v) &&& (c + 256 * u)) (2 ^ 8)
    rw [e1, e2] at this
    omega

/-- The digits of a number shifted by one, two or four bits. -/
def sh (s : Nat) : List Nat → List Nat
  | [] => []
  | d :: ds => (d / s + 256 / s * (val ds % s)) :: sh s ds
theorem val_sh2 : ∀ ds : List Nat, val ds / 2 = val (sh 2 ds)
  | [] => rfl
  | d :: ds => by
    have ih := val_sh2 ds
    simp only [val, sh]
    rw [← ih]
    omega
theorem val_sh4 : ∀ ds : List Nat, val ds / 4 = val (sh 4 ds)
  | [] => rfl
  | d :: ds => by
    have ih := val_sh4 ds
    simp only [val, sh]
    rw [← ih]
    omega
theorem val_sh16 : ∀ ds : List Nat, val ds / 16 = val (sh 16 ds)
  | [] => rfl
  | d :: ds => by
    have ih := val_sh16 ds
    simp only [val, sh]
    rw [← ih]
    omega
theorem sh_length (s : Nat) : ∀ ds : List Nat, (sh s ds).length = ds.length
  | [] => rfl
  | d :: ds => by simp [sh, sh_length s ds]
theorem sh_small2 : ∀ ds : List Nat, small ds → small (sh 2 ds)
  | [], _ => fun _ h => absurd h List.not_mem_nil
  | d :: ds, h => by
    intro x hx
    have hd : d < 256 := h d List.mem_cons_self
    rcases List.mem_cons.1 hx with rfl | hx
    · omega
    · exact sh_small2 ds (fun y hy => h y (List.mem_cons_of_mem _ hy)) x hx
theorem sh_small4 : ∀ ds : List Nat, small ds → small (sh 4 ds)
  | [], _ => fun _ h => absurd h List.not_mem_nil
  | d :: ds, h => by
    intro x hx
    have hd : d < 256 := h d List.mem_cons_self
    rcases List.mem_cons.1 hx with rfl | hx
    · omega
    · exact sh_small4 ds (fun y hy => h y (List.mem_cons_of_mem _ hy)) x hx

def g0 (b : Nat) : Nat := (b / 2 &&& 85) + (b &&& 85)
def g1 (b : Nat) : Nat := (b / 4 &&& 51) + (b &&& 51)
def g2 (b : Nat) : Nat := (b / 16 + b) &&& 15
theorem byte_all : ∀ b : Nat, b < 256 → g0 b < 256 ∧ g1 (g0 b) % 16 ≤ 4 ∧ g1 (g0 b) / 16 ≤ 4 ∧ g2 (g1 (g0 b)) = pop 8 b ∧ pop 8 b ≤ 8 := by decide +kernel

theorem low_and (y z c k : Nat) (hc : c < 2 ^ k) (h : y % 2 ^ k = z % 2 ^ k) : y &&& c = z &&& c := by
  have e : ∀ t : Nat, t &&& c = (t % 2 ^ k) &&& c := by
    intro t
    have h1 : (t &&& c) % 2 ^ k = t &&& c := Nat.mod_eq_of_lt (Nat.lt_of_le_of_lt Nat.and_le_right hc)
    have h2 := Nat.and_mod_two_pow (a := t) (b := c) (n := k)
    rw [h1, Nat.mod_eq_of_lt hc] at h2
    exact h2
  rw [e y, e z, h]

theorem map_sh2 : ∀ ds : List Nat, small ds → (sh 2 ds).map (· &&& 85) = ds.map (fun b => b / 2 &&& 85)
  | [], _ => rfl
  | d :: ds, h => by
    have hd : d < 256 := h d List.mem_cons_self
    simp only [sh, List.map_cons]
    rw [map_sh2 ds (fun y hy => h y (List.mem_cons_of_mem _ hy)), low_and _ (d / 2) 85 7 (by omega) (by omega)]
theorem map_sh4 : ∀ ds : List Nat, small ds → (sh 4 ds).map (· &&& 51) = ds.map (fun b => b / 4 &&& 51)
  | [], _ => rfl
  | d :: ds, h => by
    have hd : d < 256 := h d List.mem_cons_self
    simp only [sh, List.map_cons]
    rw [map_sh4 ds (fun y hy => h y (List.mem_cons_of_mem _ hy)), low_and _ (d / 4) 51 6 (by omega) (by omega)]
theorem val_add (f g : Nat → Nat) : ∀ ds : List Nat, val (ds.map f) + val (ds.map g) = val (ds.map (fun b => f b + g b))
  | [] => rfl
  | d :: ds => by
    have ih := val_add f g ds
    simp only [List.map_cons, val]
    omega

theorem step0 (ds : List Nat) (h : small ds) (m : Nat) (hm : m = val (List.replicate ds.length 85)) : (val ds / 2 &&& m) + (val ds &&& m) = val (ds.map g0) := by
  subst hm
  have e := val_and (sh 2 ds) 85 (sh_small2 ds h) (by omega)
  rw [sh_length] at e
  rw [val_sh2, e, val_and ds 85 h (by omega), map_sh2 ds h, val_add]
  rfl
theorem step1 (ds : List Nat) (h : small ds) (m : Nat) (hm : m = val (List.replicate ds.length 51)) : (val ds / 4 &&& m) + (val ds &&& m) = val (ds.map g1) := by
  subst hm
  have e := val_and (sh 4 ds) 51 (sh_small4 ds h) (by omega)
  rw [sh_length] at e
  rw [val_sh4, e, val_and ds 51 h (by omega), map_sh4 ds h, val_add]
  rfl

/-- The digits of x / 16 + x, where each half of a digit is at most 4. -/
def add16 : List Nat → List Nat
  | [] => []
  | d :: ds => (d / 16 + 16 * (val ds % 16) + d) :: add16 ds
def half (ds : List Nat) : Prop := ∀ d ∈ ds, d % 16 ≤ 4 ∧ d / 16 ≤ 4
theorem val_low : ∀ ds : List Nat, half ds → val ds % 16 ≤ 4
  | [], _ => by simp [val]
  | d :: ds, h => by
    have := h d List.mem_cons_self
    simp only [val]
    omega
theorem val_add16 : ∀ ds : List Nat, half ds → val ds / 16 + val ds = val (add16 ds)
  | [], _ => rfl
  | d :: ds, h => by
    have ih := val_add16 ds (fun y hy => h y (List.mem_cons_of_mem _ hy))
    have hd := h d List.mem_cons_self
    simp only [val, add16]
    rw [← ih]
    omega
theorem add16_small : ∀ ds : List Nat, half ds → small (add16 ds)
  | [], _ => fun _ h => absurd h List.not_mem_nil
  | d :: ds, h => by
    intro x hx
    have hd := h d List.mem_cons_self
    have hv := val_low ds (fun y hy => h y (List.mem_cons_of_mem _ hy))
    rcases List.mem_cons.1 hx with rfl | hx
    · omega
    · exact add16_small ds (fun y hy => h y (List.mem_cons_of_mem _ hy)) x hx
theorem add16_length : ∀ ds : List Nat, (add16 ds).length = ds.length
  | [] => rfl
  | d :: ds => by simp [add16, add16_length ds]
theorem map_add16 : ∀ ds : List Nat, (add16 ds).map (· &&& 15) = ds.map g2
  | [] => rfl
  | d :: ds => by
    simp only [add16, List.map_cons]
    rw [map_add16 ds, low_and _ (d / 16 + d) 15 4 (by omega) (by omega)]
    rfl
theorem step2 (ds : List Nat) (h : half ds) (m : Nat) (hm : m = val (List.replicate ds.length 15)) : (val ds / 16 + val ds) &&& m = val (ds.map g2) := by
  subst hm
  have e := val_and (add16 ds) 15 (add16_small ds h) (by omega)
  rw [add16_length] at e
  rw [val_add16 ds h, e, map_add16]

theorem div_step (r k q : Nat) (h : r < k) : (r + k * q) / k = q := by
  rw [Nat.add_mul_div_left _ _ (by omega), Nat.div_eq_of_lt h, Nat.zero_add]
theorem div2 (r0 r1 z : Nat) (h0 : r0 < 256) (h1 : r1 < 256) : (r0 + 256 * (r1 + 256 * z)) / 65536 = z := by
  have e : r0 + 256 * (r1 + 256 * z) = (r0 + 256 * r1) + 65536 * z := by omega
  rw [e, div_step _ _ _ (by omega)]
theorem div4 (r0 r1 r2 r3 z : Nat) (h0 : r0 < 256) (h1 : r1 < 256) (h2 : r2 < 256) (h3 : r3 < 256) : (r0 + 256 * (r1 + 256 * (r2 + 256 * (r3 + 256 * z)))) / 4294967296 = z := by
  have e : r0 + 256 * (r1 + 256 * (r2 + 256 * (r3 + 256 * z))) = (r0 + 256 * (r1 + 256 * (r2 + 256 * r3))) + 4294967296 * z := by omega
  rw [e, div_step _ _ _ (by omega)]
theorem mod128 (r z : Nat) (h : r < 128) : (r + 256 * z) % 128 = r := by omega
theorem add256 (r r' z z' : Nat) : (r + 256 * z) + (r' + 256 * z') = (r + r') + 256 * (z + z') := by omega
theorem add256' (r r' z : Nat) : (r + 256 * z) + r' = (r + r') + 256 * z := by omega
def s4 (x : Nat) : Nat := x + x / 256
def s5 (x : Nat) : Nat := x + x / 65536
def s6 (x : Nat) : Nat := x + x / 4294967296
theorem fold4 (a b c d e f g i : Nat) (ha : a < 256) :
    s4 (a + 256 * (b + 256 * (c + 256 * (d + 256 * (e + 256 * (f + 256 * (g + 256 * (i + 256 * 0)))))))) =
    (a + b) + 256 * ((b + c) + 256 * ((c + d) + 256 * ((d + e) + 256 * ((e + f) + 256 * ((f + g) + 256 * ((g + i) + 256 * (i + 256 * 0))))))) := by
  unfold s4
  rw [div_step a 256 _ ha, add256, add256, add256, add256, add256, add256, add256']
  simp only [Nat.mul_zero, Nat.add_zero]
theorem fold5 (a b c d e f g i : Nat) (ha : a < 256) (hb : b < 256) :
    s5 (a + 256 * (b + 256 * (c + 256 * (d + 256 * (e + 256 * (f + 256 * (g + 256 * (i + 256 * 0)))))))) =
    (a + c) + 256 * ((b + d) + 256 * ((c + e) + 256 * ((d + f) + 256 * ((e + g) + 256 * ((f + i) + 256 * (g + 256 * i)))))) := by
  unfold s5
  rw [div2 _ _ _ ha hb, add256, add256, add256, add256, add256, add256', Nat.mul_zero]
  rfl
theorem fold6 (a b c d e f g i : Nat) (ha : a < 256) (hb : b < 256) (hc : c < 256) (hd : d < 256) (h : a + e < 128) :
    s6 (a + 256 * (b + 256 * (c + 256 * (d + 256 * (e + 256 * (f + 256 * (g + 256 * i))))))) % 128 = a + e := by
  unfold s6
  rw [div4 _ _ _ _ _ ha hb hc hd, add256, mod128 _ _ h]
theorem fold8 (a b c d e f g i : Nat) (ha : a ≤ 8) (hb : b ≤ 8) (hc : c ≤ 8) (hd : d ≤ 8) (he : e ≤ 8) (hf : f ≤ 8) (hg : g ≤ 8) (hi : i ≤ 8) :
    s6 (s5 (s4 (a + 256 * (b + 256 * (c + 256 * (d + 256 * (e + 256 * (f + 256 * (g + 256 * (i + 256 * 0)))))))))) % 128 = a + b + c + d + e + f + g + i := by
  rw [fold4 _ _ _ _ _ _ _ _ (by omega), fold5 _ _ _ _ _ _ _ _ (by omega) (by omega), fold6 _ _ _ _ _ _ _ _ (by omega) (by omega) (by omega) (by omega) (by omega)]
  omega
/-- What the library's OnesCount64 works out, step by step. -/
def swar (x : Nat) : Nat :=
  let x1 := (x / 2 &&& 6148914691236517205) + (x &&& 6148914691236517205)
  let x2 := (x1 / 4 &&& 3689348814741910323) + (x1 &&& 3689348814741910323)
  let x3 := (x2 / 16 + x2) &&& 1085102592571150095
  s6 (s5 (s4 x3)) % 128

theorem bytes8 (x : Nat) (h : x < 18446744073709551616) : ∃ a b c d e f g i : Nat, a < 256 ∧ b < 256 ∧ c < 256 ∧ d < 256 ∧ e < 256 ∧ f < 256 ∧ g < 256 ∧ i < 256 ∧ x = val [a, b, c, d, e, f, g, i] := by
  refine ⟨x % 256, x / 256 % 256, x / 65536 % 256, x / 16777216 % 256, x / 4294967296 % 256, x / 1099511627776 % 256, x / 281474976710656 % 256, x / 72057594037927936, by omega, by omega, by omega, by omega, by omega, by omega, by omega, by omega, ?_⟩
  simp only [val]
  omega
theorem pop64 (a b c d e f g i : Nat) (ha : a < 256) (hb : b < 256) (hc : c < 256) (hd : d < 256) (he : e < 256) (hf : f < 256) (hg : g < 256) (hi : i < 256) :
    pop 64 (val [a, b, c, d, e, f, g, i]) = pop 8 a + pop 8 b + pop 8 c + pop 8 d + pop 8 e + pop 8 f + pop 8 g + pop 8 i := by
  have step : ∀ (k y v : Nat), y < 256 → pop (8 + k) (y + 256 * v) = pop 8 y + pop k v := by
    intro k y v hy
    rw [pop_split 8 k, pop_mod 8 (y + 256 * v)]
    have e1 : (y + 256 * v) % 2 ^ 8 = y := by omega
    have e2 : (y + 256 * v) / 2 ^ 8 = v := by omega
    rw [e1, e2]
  simp only [val]
  rw [show (64 : Nat) = 8 + (8 + (8 + (8 + (8 + (8 + (8 + (8 + 0))))))) from rfl, step _ a _ ha, step _ b _ hb, step _ c _ hc, step _ d _ hd, step _ e _ he, step _ f _ hf, step _ g _ hg, step _ i _ hi]
  simp only [pop]
  omega
theorem swar_pop (x : Nat) (h : x < 18446744073709551616) : swar x = pop 64 x := by
  obtain ⟨a, b, c, d, e, f, g, i, ha, hb, hc, hd, he, hf, hg, hi, rfl⟩ := bytes8 x h
  rw [pop64 a b c d e f g i ha hb hc hd he hf hg hi]
  have A := byte_all a ha
  have B := byte_all b hb
  have C := byte_all c hc
  have D := byte_all d hd
  have E := byte_all e he
  have F := byte_all f hf
  have G := byte_all g hg
  have I := byte_all i hi
  unfold swar
  have s0 := step0 [a, b, c, d, e, f, g, i] (by intro x hx; simp only [List.mem_cons, List.not_mem_nil, or_false] at hx; omega) 6148914691236517205 (show 6148914691236517205 = val (List.replicate 8 85) by decide +kernel)
  have s1 := step1 ([a, b, c, d, e, f, g, i].map g0) (by intro x hx; simp only [List.map_cons, List.map_nil, List.mem_cons, List.not_mem_nil, or_false] at hx; omega) 3689348814741910323 (show 3689348814741910323 = val (List.replicate 8 51) by decide +kernel)
  have s2 := step2 (([a, b, c, d, e, f, g, i].map g0).map g1) (by intro x hx; simp only [List.map_cons, List.map_nil, List.mem_cons, List.not_mem_nil, or_false] at hx; rcases hx with rfl | rfl | rfl | rfl | rfl | rfl | rfl | rfl <;> omega) 1085102592571150095 (show 1085102592571150095 = val (List.replicate 8 15) by decide +kernel)
  rw [s0]
  dsimp only
  rw [s1, s2]
  simp only [List.map_cons, List.map_nil, val, A.2.2.2.1, B.2.2.2.1, C.2.2.2.1, D.2.2.2.1, E.2.2.2.1, F.2.2.2.1, G.2.2.2.1, I.2.2.2.1]
  exact fold8 _ _ _ _ _ _ _ _ A.2.2.2.2 B.2.2.2.2 C.2.2.2.2 D.2.2.2.2 E.2.2.2.2 F.2.2.2.2 G.2.2.2.2 I.2.2.2.2
end Go.Proofs.YtbopbekehccdmaaDoor
