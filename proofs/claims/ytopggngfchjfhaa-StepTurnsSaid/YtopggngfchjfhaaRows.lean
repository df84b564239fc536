/-
  No cell of these rows narrows 'for every input' (looked for: loops, veiled, ifaces, maps, wideKeys, modest, calm, conditions, laid).
  DERIVED. THE GIVEN ROWS OF THIS SEAT. 5 by the template 'for every input the law returns true; each argument reads behind the call as it read before'; 0 by the template 'total and deterministic' (their statements: YtopggngfchjfhaaTotals.lean).
  GIVEN WITH THE SEED: the statements are not yours to turn. If you find one false, say at which input.
  Laid BY PROGRAM, IN A SANDBOX (cutbox-rows.mjs): the forced cells as the released guide's own fill.sh prints them over the translation 5d5701715065467a… (all of the seat's roots in one cut). By AI agents, Wed Nov 11 2026. No macro, syntax, notation, axiom, sorry.
-/
import Derived.Test.YtopggngfchjfhaaChecked
import GoSem.Claim
import GoSem.ClaimJoined
import GoSem.ClaimMapViews
import Derived.JoinedTies
import Derived.KernelRfl
namespace Go.Proofs.Ytopggngfchjfhaa
/- THE CELL 'sum', in the pinned program and in every row, IS THE sha256 OF THE DUMP (.gsa) THAT YtopggngfchjfhaaProg.lean LOADS. Nothing in Lean hashes anything: it is a label: what it is worth is what the hold of that sum in a sandbox is worth. -/
noncomputable def Try.pinned : Pinned := { name := "ytopggngfchjfhaa", sum := "5d5701715065467a0b8848502d879271f835b115fc8042f9421e23d7487f9e6e", checked := Try.checked }
namespace Rows
def none {H : Type} : Left H := { results := [], args := [] }

/-- 'kakugyolaw03.StepOf': WHATEVER THE INPUT: true; the input reads as it did. -/
def stepOfSpec : ChangeSpec := { name := "stepOf", fn := fun _ => fun
  | [d1, d2] => { results := [.lit (.bool true)], args := [d1, d2] }
  | _ => none }
def stepOfRow : OpenClaim := { program := "ytopggngfchjfhaa", sum := "5d5701715065467a0b8848502d879271f835b115fc8042f9421e23d7487f9e6e", func := "kakugyo/kakugyolaw03.StepOf", spec := "stepOf", apart := false }
def StepOfSaid : Prop := stepOfRow.holds Try.pinned (OpenSpec.ofChange stepOfSpec)

/-- ITS FALSE NEIGHBOUR: 'it returns false'. Refute it at one input. -/
def stepOfWrong : ChangeSpec := { name := "stepOf", fn := fun _ => fun
  | [d1, d2] => { results := [.lit (.bool false)], args := [d1, d2] }
  | _ => none }
def StepOfWrongFalsely : Prop := stepOfRow.holds Try.pinned (OpenSpec.ofChange stepOfWrong)

/-- 'kakugyolaw03.StepTurns': WHATEVER THE INPUT: true; the input reads as it did. -/
def stepTurnsSpec : ChangeSpec := { name := "stepTurns", fn := fun _ => fun
  | [d1, d2] => { results := [.lit (.bool true)], args := [d1, d2] }
  | _ => none }
def stepTurnsRow : OpenClaim := { program := "ytopggngfchjfhaa", sum := "5d5701715065467a0b8848502d879271f835b115fc8042f9421e23d7487f9e6e", func := "kakugyo/kakugyolaw03.StepTurns", spec := "stepTurns", apart := false }
def StepTurnsSaid : Prop := stepTurnsRow.holds Try.pinned (OpenSpec.ofChange stepTurnsSpec)

/-- ITS FALSE NEIGHBOUR: 'it returns false'. Refute it at one input. -/
def stepTurnsWrong : ChangeSpec := { name := "stepTurns", fn := fun _ => fun
  | [d1, d2] => { results := [.lit (.bool false)], args := [d1, d2] }
  | _ => none }
def StepTurnsWrongFalsely : Prop := stepTurnsRow.holds Try.pinned (OpenSpec.ofChange stepTurnsWrong)

/-- 'kakugyolaw03.StepZone': WHATEVER THE INPUT: true; the input reads as it did. -/
def stepZoneSpec : ChangeSpec := { name := "stepZone", fn := fun _ => fun
  | [d1, d2] => { results := [.lit (.bool true)], args := [d1, d2] }
  | _ => none }
def stepZoneRow : OpenClaim := { program := "ytopggngfchjfhaa", sum := "5d5701715065467a0b8848502d879271f835b115fc8042f9421e23d7487f9e6e", func := "kakugyo/kakugyolaw03.StepZone", spec := "stepZone", apart := false }
def StepZoneSaid : Prop := stepZoneRow.holds Try.pinned (OpenSpec.ofChange stepZoneSpec)

/-- ITS FALSE NEIGHBOUR: 'it returns false'. Refute it at one input. -/
def stepZoneWrong : ChangeSpec := { name := "stepZone", fn := fun _ => fun
  | [d1, d2] => { results := [.lit (.bool false)], args := [d1, d2] }
  | _ => none }
def StepZoneWrongFalsely : Prop := stepZoneRow.holds Try.pinned (OpenSpec.ofChange stepZoneWrong)

/-- 'kakugyolaw03.StepDirs': WHATEVER THE INPUT: true; the input reads as it did. -/
def stepDirsSpec : ChangeSpec := { name := "stepDirs", fn := fun _ => fun
  | [d1, d2] => { results := [.lit (.bool true)], args := [d1, d2] }
  | _ => none }
def stepDirsRow : OpenClaim := { program := "ytopggngfchjfhaa", sum := "5d5701715065467a0b8848502d879271f835b115fc8042f9421e23d7487f9e6e", func := "kakugyo/kakugyolaw03.StepDirs", spec := "stepDirs", apart := false }
def StepDirsSaid : Prop := stepDirsRow.holds Try.pinned (OpenSpec.ofChange stepDirsSpec)

/-- ITS FALSE NEIGHBOUR: 'it returns false'. Refute it at one input. -/
def stepDirsWrong : ChangeSpec := { name := "stepDirs", fn := fun _ => fun
  | [d1, d2] => { results := [.lit (.bool false)], args := [d1, d2] }
  | _ => none }
def StepDirsWrongFalsely : Prop := stepDirsRow.holds Try.pinned (OpenSpec.ofChange stepDirsWrong)

/-- 'kakugyolaw03.StepKings': WHATEVER THE INPUT: true; the input reads as it did. -/
def stepKingsSpec : ChangeSpec := { name := "stepKings", fn := fun _ => fun
  | [d1, d2, d3] => { results := [.lit (.bool true)], args := [d1, d2, d3] }
  | _ => none }
def stepKingsRow : OpenClaim := { program := "ytopggngfchjfhaa", sum := "5d5701715065467a0b8848502d879271f835b115fc8042f9421e23d7487f9e6e", func := "kakugyo/kakugyolaw03.StepKings", spec := "stepKings", apart := false }
def StepKingsSaid : Prop := stepKingsRow.holds Try.pinned (OpenSpec.ofChange stepKingsSpec)

/-- ITS FALSE NEIGHBOUR: 'it returns false'. Refute it at one input. -/
def stepKingsWrong : ChangeSpec := { name := "stepKings", fn := fun _ => fun
  | [d1, d2, d3] => { results := [.lit (.bool false)], args := [d1, d2, d3] }
  | _ => none }
def StepKingsWrongFalsely : Prop := stepKingsRow.holds Try.pinned (OpenSpec.ofChange stepKingsWrong)

/- THE SECOND FORM. 'bulk': how many values and letters a reading holds, each counted each time it is reached (what is shared counts as often as it is met; a slice's spare places count too). A statement '..UptoSaid' is the law's where the arguments, and the package variables that the reading takes, are together of bulk at most 1048576: NARROWER than '..Said'. Prove '..Said' where nothing that the law and all that it calls make is longer than what came in: it says more and counts as full. Else prove '..UptoSaid'. A law counts once. -/
mutual
def uptoBulk {H : Type} : DataW H → Nat
  | .lit (.string bytes) => bytes.length + 1
  | .lit _ => 1
  | .nil => 1
  | .ptr d => uptoBulk d + 1
  | .slice elems spare => uptoBulkAll elems + uptoBulkAll spare + 1
  | .agg parts => uptoBulkAll parts + 1
  | .iface _ d => uptoBulk d + 1
  | .map entries => uptoBulkEntries entries + 1
  | .held _ => 1
def uptoBulkAll {H : Type} : List (DataW H) → Nat
  | [] => 0
  | d :: r => uptoBulk d + uptoBulkAll r
def uptoBulkEntries {H : Type} : List (Lit × DataW H) → Nat
  | [] => 0
  | x :: r => uptoBulkEntry x + uptoBulkEntries r
def uptoBulkEntry {H : Type} : Lit × DataW H → Nat
  | (.string bytes, d) => bytes.length + uptoBulk d + 1
  | (_, d) => uptoBulk d + 1
 end
def uptoSmall : (H : Type) → List (DataW H) → Bool := fun _ ds => decide (uptoBulkAll ds ≤ 1048576)
def OpenSpec.upto (s : _root_.Go.ChangeSpec) : _root_.Go.OpenSpec := { _root_.Go.OpenSpec.ofChange s with cond := some uptoSmall }

/-- 'kakugyolaw03.StepOf', WHERE WHAT IT READS IS OF BULK AT MOST 1048576: true; the input reads as it did. -/
def stepOfUptoRow : OpenClaim := { program := "ytopggngfchjfhaa", sum := "5d5701715065467a0b8848502d879271f835b115fc8042f9421e23d7487f9e6e", func := "kakugyo/kakugyolaw03.StepOf", spec := "stepOf", apart := false, narrowed := true }
def StepOfUptoSaid : Prop := stepOfUptoRow.holds Try.pinned (OpenSpec.upto stepOfSpec)

/-- 'kakugyolaw03.StepTurns', WHERE WHAT IT READS IS OF BULK AT MOST 1048576: true; the input reads as it did. -/
def stepTurnsUptoRow : OpenClaim := { program := "ytopggngfchjfhaa", sum := "5d5701715065467a0b8848502d879271f835b115fc8042f9421e23d7487f9e6e", func := "kakugyo/kakugyolaw03.StepTurns", spec := "stepTurns", apart := false, narrowed := true }
def StepTurnsUptoSaid : Prop := stepTurnsUptoRow.holds Try.pinned (OpenSpec.upto stepTurnsSpec)

/-- 'kakugyolaw03.StepZone', WHERE WHAT IT READS IS OF BULK AT MOST 1048576: true; the input reads as it did. -/
def stepZoneUptoRow : OpenClaim := { program := "ytopggngfchjfhaa", sum := "5d5701715065467a0b8848502d879271f835b115fc8042f9421e23d7487f9e6e", func := "kakugyo/kakugyolaw03.StepZone", spec := "stepZone", apart := false, narrowed := true }
def StepZoneUptoSaid : Prop := stepZoneUptoRow.holds Try.pinned (OpenSpec.upto stepZoneSpec)

/-- 'kakugyolaw03.StepDirs', WHERE WHAT IT READS IS OF BULK AT MOST 1048576: true; the input reads as it did. -/
def stepDirsUptoRow : OpenClaim := { program := "ytopggngfchjfhaa", sum := "5d5701715065467a0b8848502d879271f835b115fc8042f9421e23d7487f9e6e", func := "kakugyo/kakugyolaw03.StepDirs", spec := "stepDirs", apart := false, narrowed := true }
def StepDirsUptoSaid : Prop := stepDirsUptoRow.holds Try.pinned (OpenSpec.upto stepDirsSpec)

/-- 'kakugyolaw03.StepKings', WHERE WHAT IT READS IS OF BULK AT MOST 1048576: true; the input reads as it did. -/
def stepKingsUptoRow : OpenClaim := { program := "ytopggngfchjfhaa", sum := "5d5701715065467a0b8848502d879271f835b115fc8042f9421e23d7487f9e6e", func := "kakugyo/kakugyolaw03.StepKings", spec := "stepKings", apart := false, narrowed := true }
def StepKingsUptoSaid : Prop := stepKingsUptoRow.holds Try.pinned (OpenSpec.upto stepKingsSpec)

end Rows
end Go.Proofs.Ytopggngfchjfhaa
