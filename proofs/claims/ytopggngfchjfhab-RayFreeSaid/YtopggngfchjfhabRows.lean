/-
  No cell of these rows narrows 'for every input' (looked for: loops, veiled, ifaces, maps, wideKeys, modest, calm, conditions, laid).
  DERIVED. THE GIVEN ROWS OF THIS SEAT. 3 by the template 'for every input the law returns true; each argument reads behind the call as it read before'; 0 by the template 'total and deterministic' (their statements: YtopggngfchjfhabTotals.lean).
  GIVEN WITH THE SEED: the statements are not yours to turn. If you find one false, say at which input.
  Laid BY PROGRAM, IN A SANDBOX (cutbox-rows.mjs): the forced cells as the released guide's own fill.sh prints them over the translation 5e4556553fcb8894… (all of the seat's roots in one cut). By AI agents, Wed Nov 11 2026. No macro, syntax, notation, axiom, sorry.
-/
import Derived.Test.YtopggngfchjfhabChecked
import GoSem.Claim
import GoSem.ClaimJoined
import GoSem.ClaimMapViews
import Derived.JoinedTies
import Derived.KernelRfl
namespace Go.Proofs.Ytopggngfchjfhab
/- THE CELL 'sum', in the pinned program and in every row, IS THE sha256 OF THE DUMP (.gsa) THAT YtopggngfchjfhabProg.lean LOADS. Nothing in Lean hashes anything: it is a label: what it is worth is what the hold of that sum in a sandbox is worth. -/
noncomputable def Try.pinned : Pinned := { name := "ytopggngfchjfhab", sum := "5e4556553fcb88945ebb3b3bd8e9f803be171713caef51ec26182845d7b14fae", checked := Try.checked }
namespace Rows
def none {H : Type} : Left H := { results := [], args := [] }

/-- 'kakugyolaw04.RayOf': WHATEVER THE INPUT: true; the input reads as it did. -/
def rayOfSpec : ChangeSpec := { name := "rayOf", fn := fun _ => fun
  | [d1, d2, d3] => { results := [.lit (.bool true)], args := [d1, d2, d3] }
  | _ => none }
def rayOfRow : OpenClaim := { program := "ytopggngfchjfhab", sum := "5e4556553fcb88945ebb3b3bd8e9f803be171713caef51ec26182845d7b14fae", func := "kakugyo/kakugyolaw04.RayOf", spec := "rayOf", apart := false }
def RayOfSaid : Prop := rayOfRow.holds Try.pinned (OpenSpec.ofChange rayOfSpec)

/-- ITS FALSE NEIGHBOUR: 'it returns false'. Refute it at one input. -/
def rayOfWrong : ChangeSpec := { name := "rayOf", fn := fun _ => fun
  | [d1, d2, d3] => { results := [.lit (.bool false)], args := [d1, d2, d3] }
  | _ => none }
def RayOfWrongFalsely : Prop := rayOfRow.holds Try.pinned (OpenSpec.ofChange rayOfWrong)

/-- 'kakugyolaw04.RayBetween': WHATEVER THE INPUT: true; the input reads as it did. -/
def rayBetweenSpec : ChangeSpec := { name := "rayBetween", fn := fun _ => fun
  | [d1, d2] => { results := [.lit (.bool true)], args := [d1, d2] }
  | _ => none }
def rayBetweenRow : OpenClaim := { program := "ytopggngfchjfhab", sum := "5e4556553fcb88945ebb3b3bd8e9f803be171713caef51ec26182845d7b14fae", func := "kakugyo/kakugyolaw04.RayBetween", spec := "rayBetween", apart := false }
def RayBetweenSaid : Prop := rayBetweenRow.holds Try.pinned (OpenSpec.ofChange rayBetweenSpec)

/-- ITS FALSE NEIGHBOUR: 'it returns false'. Refute it at one input. -/
def rayBetweenWrong : ChangeSpec := { name := "rayBetween", fn := fun _ => fun
  | [d1, d2] => { results := [.lit (.bool false)], args := [d1, d2] }
  | _ => none }
def RayBetweenWrongFalsely : Prop := rayBetweenRow.holds Try.pinned (OpenSpec.ofChange rayBetweenWrong)

/-- 'kakugyolaw04.RayFree': WHATEVER THE INPUT: true; the input reads as it did. -/
def rayFreeSpec : ChangeSpec := { name := "rayFree", fn := fun _ => fun
  | [d1, d2, d3] => { results := [.lit (.bool true)], args := [d1, d2, d3] }
  | _ => none }
def rayFreeRow : OpenClaim := { program := "ytopggngfchjfhab", sum := "5e4556553fcb88945ebb3b3bd8e9f803be171713caef51ec26182845d7b14fae", func := "kakugyo/kakugyolaw04.RayFree", spec := "rayFree", apart := false }
def RayFreeSaid : Prop := rayFreeRow.holds Try.pinned (OpenSpec.ofChange rayFreeSpec)

/-- ITS FALSE NEIGHBOUR: 'it returns false'. Refute it at one input. -/
def rayFreeWrong : ChangeSpec := { name := "rayFree", fn := fun _ => fun
  | [d1, d2, d3] => { results := [.lit (.bool false)], args := [d1, d2, d3] }
  | _ => none }
def RayFreeWrongFalsely : Prop := rayFreeRow.holds Try.pinned (OpenSpec.ofChange rayFreeWrong)

/- THE SECOND FORM. 'bulk': how many values and letters a reading holds, each counted each time it is reached (what is shared counts as often as it is met; a slice's spare places count too). A statement '..UptoSaid' is the law's where the arguments, and the package variables that the reading takes, are together of bulk at most 1048576: NARROWER than '..Said'. Prove '..Said' where nothing that the law and all that it calls make is longer than what came in: it says more and counts as full. Else prove '..UptoSaid'. A law counts once. -/
mutual
def uptoBulk {H : Type} : DataW H → Nat
  | .lit (.string bytes) => bytes.length + 1
  | .lit _ => 1
  | .nil => 1
  | .ptr d => uptoBulk d + 1
  | .slice elems spare => uptoBulkAll elems + uptoBulkAll spare + 1
  | .agg parts => uptoBulkAll parts + 1
  | .iface _ d => uptoBulk d + 1
  | .map entries => uptoBulkEntries entries + 1
  | .held _ => 1
def uptoBulkAll {H : Type} : List (DataW H) → Nat
  | [] => 0
  | d :: r => uptoBulk d + uptoBulkAll r
def uptoBulkEntries {H : Type} : List (Lit × DataW H) → Nat
  | [] => 0
  | x :: r => uptoBulkEntry x + uptoBulkEntries r
def uptoBulkEntry {H : Type} : Lit × DataW H → Nat
  | (.string bytes, d) => bytes.length + uptoBulk d + 1
  | (_, d) => uptoBulk d + 1
 end
def uptoSmall : (H : Type) → List (DataW H) → Bool := fun _ ds => decide (uptoBulkAll ds ≤ 1048576)
def OpenSpec.upto (s : _root_.Go.ChangeSpec) : _root_.Go.OpenSpec := { _root_.Go.OpenSpec.ofChange s with cond := some uptoSmall }

/-- 'kakugyolaw04.RayOf', WHERE WHAT IT READS IS OF BULK AT MOST 1048576: true; the input reads as it did. -/
def rayOfUptoRow : OpenClaim := { program := "ytopggngfchjfhab", sum := "5e4556553fcb88945ebb3b3bd8e9f803be171713caef51ec26182845d7b14fae", func := "kakugyo/kakugyolaw04.RayOf", spec := "rayOf", apart := false, narrowed := true }
def RayOfUptoSaid : Prop := rayOfUptoRow.holds Try.pinned (OpenSpec.upto rayOfSpec)

/-- 'kakugyolaw04.RayBetween', WHERE WHAT IT READS IS OF BULK AT MOST 1048576: true; the input reads as it did. -/
def rayBetweenUptoRow : OpenClaim := { program := "ytopggngfchjfhab", sum := "5e4556553fcb88945ebb3b3bd8e9f803be171713caef51ec26182845d7b14fae", func := "kakugyo/kakugyolaw04.RayBetween", spec := "rayBetween", apart := false, narrowed := true }
def RayBetweenUptoSaid : Prop := rayBetweenUptoRow.holds Try.pinned (OpenSpec.upto rayBetweenSpec)

/-- 'kakugyolaw04.RayFree', WHERE WHAT IT READS IS OF BULK AT MOST 1048576: true; the input reads as it did. -/
def rayFreeUptoRow : OpenClaim := { program := "ytopggngfchjfhab", sum := "5e4556553fcb88945ebb3b3bd8e9f803be171713caef51ec26182845d7b14fae", func := "kakugyo/kakugyolaw04.RayFree", spec := "rayFree", apart := false, narrowed := true }
def RayFreeUptoSaid : Prop := rayFreeUptoRow.holds Try.pinned (OpenSpec.upto rayFreeSpec)

end Rows
end Go.Proofs.Ytopggngfchjfhab
