/-
  No cell of these rows narrows 'for every input' (looked for: loops, veiled, ifaces, maps, wideKeys, modest, calm, conditions, laid).
  DERIVED. THE GIVEN ROWS OF THIS SEAT. 5 by the template 'for every input the law returns true; each argument reads behind the call as it read before'; 0 by the template 'total and deterministic' (their statements: YtfemicpfkgecbaaTotals.lean).
  GIVEN WITH THE SEED: the statements are not yours to turn. If you find one false, say at which input.
  Laid BY PROGRAM, IN A SANDBOX (cutbox-rows.mjs): the forced cells as the released guide's own fill.sh prints them over the translation 44fd6b0e30fac133… (all of the seat's roots in one cut). By AI agents, Wed Nov 11 2026. No macro, syntax, notation, axiom, sorry.
-/
import Derived.Test.YtfemicpfkgecbaaChecked
import GoSem.Claim
import GoSem.ClaimJoined
import GoSem.ClaimMapViews
import Derived.JoinedTies
import Derived.KernelRfl
namespace Go.Proofs.Ytfemicpfkgecbaa
/- THE CELL 'sum', in the pinned program and in every row, IS THE sha256 OF THE DUMP (.gsa) THAT YtfemicpfkgecbaaProg.lean LOADS. Nothing in Lean hashes anything: it is a label: what it is worth is what the hold of that sum in a sandbox is worth. -/
noncomputable def Try.pinned : Pinned := { name := "ytfemicpfkgecbaa", sum := "44fd6b0e30fac133af1cae78164618fd211c6053769d2203551d8122c935db4e", checked := Try.checked }
namespace Rows
def none {H : Type} : Left H := { results := [], args := [] }

/-- 'kakugyolaw07.MoveTexts': WHATEVER THE INPUT: true; the input reads as it did. -/
def moveTextsSpec : ChangeSpec := { name := "moveTexts", fn := fun _ => fun
  | [d] => { results := [.lit (.bool true)], args := [d] }
  | _ => none }
def moveTextsRow : OpenClaim := { program := "ytfemicpfkgecbaa", sum := "44fd6b0e30fac133af1cae78164618fd211c6053769d2203551d8122c935db4e", func := "kakugyo/kakugyolaw07.MoveTexts", spec := "moveTexts", apart := false }
def MoveTextsSaid : Prop := moveTextsRow.holds Try.pinned (OpenSpec.ofChange moveTextsSpec)

/-- ITS FALSE NEIGHBOUR: 'it returns false'. Refute it at one input. -/
def moveTextsWrong : ChangeSpec := { name := "moveTexts", fn := fun _ => fun
  | [d] => { results := [.lit (.bool false)], args := [d] }
  | _ => none }
def MoveTextsWrongFalsely : Prop := moveTextsRow.holds Try.pinned (OpenSpec.ofChange moveTextsWrong)

/-- 'kakugyolaw07.MoveParses': WHATEVER THE INPUT: true; the input reads as it did. -/
def moveParsesSpec : ChangeSpec := { name := "moveParses", fn := fun _ => fun
  | [d] => { results := [.lit (.bool true)], args := [d] }
  | _ => none }
def moveParsesRow : OpenClaim := { program := "ytfemicpfkgecbaa", sum := "44fd6b0e30fac133af1cae78164618fd211c6053769d2203551d8122c935db4e", func := "kakugyo/kakugyolaw07.MoveParses", spec := "moveParses", apart := false }
def MoveParsesSaid : Prop := moveParsesRow.holds Try.pinned (OpenSpec.ofChange moveParsesSpec)

/-- ITS FALSE NEIGHBOUR: 'it returns false'. Refute it at one input. -/
def moveParsesWrong : ChangeSpec := { name := "moveParses", fn := fun _ => fun
  | [d] => { results := [.lit (.bool false)], args := [d] }
  | _ => none }
def MoveParsesWrongFalsely : Prop := moveParsesRow.holds Try.pinned (OpenSpec.ofChange moveParsesWrong)

/-- 'kakugyolaw07.MoveSquares': WHATEVER THE INPUT: true; the input reads as it did. -/
def moveSquaresSpec : ChangeSpec := { name := "moveSquares", fn := fun _ => fun
  | [d1, d2] => { results := [.lit (.bool true)], args := [d1, d2] }
  | _ => none }
def moveSquaresRow : OpenClaim := { program := "ytfemicpfkgecbaa", sum := "44fd6b0e30fac133af1cae78164618fd211c6053769d2203551d8122c935db4e", func := "kakugyo/kakugyolaw07.MoveSquares", spec := "moveSquares", apart := false }
def MoveSquaresSaid : Prop := moveSquaresRow.holds Try.pinned (OpenSpec.ofChange moveSquaresSpec)

/-- ITS FALSE NEIGHBOUR: 'it returns false'. Refute it at one input. -/
def moveSquaresWrong : ChangeSpec := { name := "moveSquares", fn := fun _ => fun
  | [d1, d2] => { results := [.lit (.bool false)], args := [d1, d2] }
  | _ => none }
def MoveSquaresWrongFalsely : Prop := moveSquaresRow.holds Try.pinned (OpenSpec.ofChange moveSquaresWrong)

/-- 'kakugyolaw07.MoveOrder': WHATEVER THE INPUT: true; the input reads as it did. -/
def moveOrderSpec : ChangeSpec := { name := "moveOrder", fn := fun _ => fun
  | [d1, d2, d3] => { results := [.lit (.bool true)], args := [d1, d2, d3] }
  | _ => none }
def moveOrderRow : OpenClaim := { program := "ytfemicpfkgecbaa", sum := "44fd6b0e30fac133af1cae78164618fd211c6053769d2203551d8122c935db4e", func := "kakugyo/kakugyolaw07.MoveOrder", spec := "moveOrder", unfollowed := true, recurses := true, apart := false }
def MoveOrderSaid : Prop := moveOrderRow.holds Try.pinned (OpenSpec.ofChange moveOrderSpec)

/-- ITS FALSE NEIGHBOUR: 'it returns false'. Refute it at one input. -/
def moveOrderWrong : ChangeSpec := { name := "moveOrder", fn := fun _ => fun
  | [d1, d2, d3] => { results := [.lit (.bool false)], args := [d1, d2, d3] }
  | _ => none }
def MoveOrderWrongFalsely : Prop := moveOrderRow.holds Try.pinned (OpenSpec.ofChange moveOrderWrong)

/-- 'kakugyolaw07.MoveLonger': WHATEVER THE INPUT: true; the input reads as it did. -/
def moveLongerSpec : ChangeSpec := { name := "moveLonger", fn := fun _ => fun
  | [d1, d2] => { results := [.lit (.bool true)], args := [d1, d2] }
  | _ => none }
def moveLongerRow : OpenClaim := { program := "ytfemicpfkgecbaa", sum := "44fd6b0e30fac133af1cae78164618fd211c6053769d2203551d8122c935db4e", func := "kakugyo/kakugyolaw07.MoveLonger", spec := "moveLonger", apart := false }
def MoveLongerSaid : Prop := moveLongerRow.holds Try.pinned (OpenSpec.ofChange moveLongerSpec)

/-- ITS FALSE NEIGHBOUR: 'it returns false'. Refute it at one input. -/
def moveLongerWrong : ChangeSpec := { name := "moveLonger", fn := fun _ => fun
  | [d1, d2] => { results := [.lit (.bool false)], args := [d1, d2] }
  | _ => none }
def MoveLongerWrongFalsely : Prop := moveLongerRow.holds Try.pinned (OpenSpec.ofChange moveLongerWrong)

/- THE SECOND FORM. 'bulk': how many values and letters a reading holds, each counted each time it is reached (what is shared counts as often as it is met; a slice's spare places count too). A statement '..UptoSaid' is the law's where the arguments, and the package variables that the reading takes, are together of bulk at most 1048576: NARROWER than '..Said'. Prove '..Said' where nothing that the law and all that it calls make is longer than what came in: it says more and counts as full. Else prove '..UptoSaid'. A law counts once. -/
mutual
def uptoBulk {H : Type} : DataW H → Nat
  | .lit (.string bytes) => bytes.length + 1
  | .lit _ => 1
  | .nil => 1
  | .ptr d => uptoBulk d + 1
  | .slice elems spare => uptoBulkAll elems + uptoBulkAll spare + 1
  | .agg parts => uptoBulkAll parts + 1
  | .iface _ d => uptoBulk d + 1
  | .map entries => uptoBulkEntries entries + 1
  | .held _ => 1
def uptoBulkAll {H : Type} : List (DataW H) → Nat
  | [] => 0
  | d :: r => uptoBulk d + uptoBulkAll r
def uptoBulkEntries {H : Type} : List (Lit × DataW H) → Nat
  | [] => 0
  | x :: r => uptoBulkEntry x + uptoBulkEntries r
def uptoBulkEntry {H : Type} : Lit × DataW H → Nat
  | (.string bytes, d) => bytes.length + uptoBulk d + 1
  | (_, d) => uptoBulk d + 1
 end
def uptoSmall : (H : Type) → List (DataW H) → Bool := fun _ ds => decide (uptoBulkAll ds ≤ 1048576)
def OpenSpec.upto (s : _root_.Go.ChangeSpec) : _root_.Go.OpenSpec := { _root_.Go.OpenSpec.ofChange s with cond := some uptoSmall }

/-- 'kakugyolaw07.MoveTexts', WHERE WHAT IT READS IS OF BULK AT MOST 1048576: true; the input reads as it did. -/
def moveTextsUptoRow : OpenClaim := { program := "ytfemicpfkgecbaa", sum := "44fd6b0e30fac133af1cae78164618fd211c6053769d2203551d8122c935db4e", func := "kakugyo/kakugyolaw07.MoveTexts", spec := "moveTexts", apart := false, narrowed := true }
def MoveTextsUptoSaid : Prop := moveTextsUptoRow.holds Try.pinned (OpenSpec.upto moveTextsSpec)

/-- 'kakugyolaw07.MoveParses', WHERE WHAT IT READS IS OF BULK AT MOST 1048576: true; the input reads as it did. -/
def moveParsesUptoRow : OpenClaim := { program := "ytfemicpfkgecbaa", sum := "44fd6b0e30fac133af1cae78164618fd211c6053769d2203551d8122c935db4e", func := "kakugyo/kakugyolaw07.MoveParses", spec := "moveParses", apart := false, narrowed := true }
def MoveParsesUptoSaid : Prop := moveParsesUptoRow.holds Try.pinned (OpenSpec.upto moveParsesSpec)

/-- 'kakugyolaw07.MoveSquares', WHERE WHAT IT READS IS OF BULK AT MOST 1048576: true; the input reads as it did. -/
def moveSquaresUptoRow : OpenClaim := { program := "ytfemicpfkgecbaa", sum := "44fd6b0e30fac133af1cae78164618fd211c6053769d2203551d8122c935db4e", func := "kakugyo/kakugyolaw07.MoveSquares", spec := "moveSquares", apart := false, narrowed := true }
def MoveSquaresUptoSaid : Prop := moveSquaresUptoRow.holds Try.pinned (OpenSpec.upto moveSquaresSpec)

/-- 'kakugyolaw07.MoveOrder', WHERE WHAT IT READS IS OF BULK AT MOST 1048576: true; the input reads as it did. -/
def moveOrderUptoRow : OpenClaim := { program := "ytfemicpfkgecbaa", sum := "44fd6b0e30fac133af1cae78164618fd211c6053769d2203551d8122c935db4e", func := "kakugyo/kakugyolaw07.MoveOrder", spec := "moveOrder", unfollowed := true, recurses := true, apart := false, narrowed := true }
def MoveOrderUptoSaid : Prop := moveOrderUptoRow.holds Try.pinned (OpenSpec.upto moveOrderSpec)

/-- 'kakugyolaw07.MoveLonger', WHERE WHAT IT READS IS OF BULK AT MOST 1048576: true; the input reads as it did. -/
def moveLongerUptoRow : OpenClaim := { program := "ytfemicpfkgecbaa", sum := "44fd6b0e30fac133af1cae78164618fd211c6053769d2203551d8122c935db4e", func := "kakugyo/kakugyolaw07.MoveLonger", spec := "moveLonger", apart := false, narrowed := true }
def MoveLongerUptoSaid : Prop := moveLongerUptoRow.holds Try.pinned (OpenSpec.upto moveLongerSpec)

end Rows
end Go.Proofs.Ytfemicpfkgecbaa
