/-
  The closure of the law WholeReach; its head's facts.
-/
import Derived.Test.YtnmekghjkajhcaaDoorRayHead
import Derived.Test.YtnmekghjkajhcaaDoorReachMore
import Derived.Test.YtnmekghjkajhcaaDoorReal
import Derived.Test.YtnmekghjkajhcaaDoorLists2
import Derived.Test.YtnmekghjkajhcaaDoorName
import Derived.Test.YtnmekghjkajhcaaDoorBetIn
import Derived.Test.YtnmekghjkajhcaaDoorTable
import Derived.OpenShut
import Derived.Deep.RegionHeld3
namespace Go.Proofs.YtnmekghjkajhcaaDoor.wholeReach
open Go.RowKit
set_option linter.unusedVariables false
set_option linter.unusedSimpArgs false

set_option maxHeartbeats 1000000 in
theorem of_fn (s q k : Int) (n : Nat) (hn : Sq n) (hk : 1 ≤ k ∧ k ≤ 15) (b0 b1 b2 : Nat) (w : World) (h0 : w.cell? ⟨b0, 0, none⟩ = some (.int .i64 s)) (h1 : w.cell? ⟨b1, 0, none⟩ = some (.int .i64 q))
    (h2 : w.cell? ⟨b2, 0, none⟩ = some (.int .u64 (loW n))) (h3 : w.cell? ⟨b2, 1, none⟩ = some (.int .u64 (hiW n))) (z0 : b0 < w.heap.size) (z1 : b1 < w.heap.size) (z2 : b2 < w.heap.size) :
    Calls Tryd.prog 21 #[.int .i64 k, .pointer (some ⟨b0, 0, none⟩), .pointer (some ⟨b1, 0, none⟩), .pointer (some ⟨b2, 0, none⟩)] w fun e w' => e = .returned (.agg #[.int .u64 (loW (rayN (ofF s k) q n)), .int .u64 (hiW (rayN (ofF s k) q n))]) ∧ Below w.heap.size w w' := by
  have PO := Lib.hid (fun W => pof_any s k W (by omega) (by omega))
  have hb : -128 ≤ ofF s k ∧ ofF s k ≤ 127 := by
    have h := rawF_cases k
    unfold ofF
    split
    · omega
    · split
      · omega
      · split <;> omega
  have RA := Lib.hid (fun W => rayOf_any (ofF s k) q n hb.1 hb.2 hn W)
  clear hb hk hn
  generalize loW (rayN (ofF s k) q n) = x at RA ⊢
  generalize hiW (rayN (ofF s k) q n) = y at RA ⊢
  generalize loW n = l at RA h2
  generalize hiW n = h at RA h3
  generalize ofF s k = p at PO RA
  go_enter Tryd.func21, Tryd.ntmps21
  go_wp2
  go_region_with (first
    | (go_at_call 17; refine (PO.out _).mono ?_; rintro e w1 ⟨rfl, rfl⟩)
    | (go_at_call 20; refine (RA.out _).mono ?_; rintro e w2 ⟨rfl, hb2⟩; obtain ⟨hc2, hf2⟩ := bcells hb2; have hz2 : w.heap.size < w2.heap.size := by (have := hb2.size; simp at this; omega)))
  all_goals
    go_wp2
    exact bodyPost_ret (v := .agg #[.int .u64 x, .int .u64 y]) (by simp [results, Tryd.results21, go_sem, hc2, hz2]) rfl ⟨rfl, ((bthen ((ball (bref w) _).drew) hb2).setCell (by simp) _).setCell (by simp) _⟩
end Go.Proofs.YtnmekghjkajhcaaDoor.wholeReach
