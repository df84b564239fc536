/-
  No cell of these rows narrows 'for every input' (looked for: loops, veiled, ifaces, maps, wideKeys, modest, calm, conditions, laid).
  DERIVED. THE GIVEN ROWS OF THIS SEAT. 8 by the template 'for every input the law returns true; each argument reads behind the call as it read before'; 0 by the template 'total and deterministic' (their statements: YtmpjjdlohneiiaaTotals.lean).
  GIVEN WITH THE SEED: the statements are not yours to turn. If you find one false, say at which input.
  Laid BY PROGRAM, IN A SANDBOX (cutbox-rows.mjs): the forced cells as the released guide's own fill.sh prints them over the translation 4f687e3ee0b9f3a7… (all of the seat's roots in one cut). By AI agents, Wed Nov 11 2026. No macro, syntax, notation, axiom, sorry.
-/
import Derived.Test.YtmpjjdlohneiiaaChecked
import GoSem.Claim
import GoSem.ClaimJoined
import GoSem.ClaimMapViews
import Derived.JoinedTies
import Derived.KernelRfl
namespace Go.Proofs.Ytmpjjdlohneiiaa
/- THE CELL 'sum', in the pinned program and in every row, IS THE sha256 OF THE DUMP (.gsa) THAT YtmpjjdlohneiiaaProg.lean LOADS. Nothing in Lean hashes anything: it is a label: what it is worth is what the hold of that sum in a sandbox is worth. -/
noncomputable def Try.pinned : Pinned := { name := "ytmpjjdlohneiiaa", sum := "4f687e3ee0b9f3a71a49bb9e451550c1d8eabdfc2c8dc7ff4a611fa56fa97cad", checked := Try.checked }
namespace Rows
def none {H : Type} : Left H := { results := [], args := [] }

/-- 'kakugyolaw04.RayOf': WHATEVER THE INPUT: true; the input reads as it did. -/
def rayOfSpec : ChangeSpec := { name := "rayOf", fn := fun _ => fun
  | [d1, d2, d3] => { results := [.lit (.bool true)], args := [d1, d2, d3] }
  | _ => none }
def rayOfRow : OpenClaim := { program := "ytmpjjdlohneiiaa", sum := "4f687e3ee0b9f3a71a49bb9e451550c1d8eabdfc2c8dc7ff4a611fa56fa97cad", func := "kakugyo/kakugyolaw04.RayOf", spec := "rayOf", apart := false }
def RayOfSaid : Prop := rayOfRow.holds Try.pinned (OpenSpec.ofChange rayOfSpec)

/-- ITS FALSE NEIGHBOUR: 'it returns false'. Refute it at one input. -/
def rayOfWrong : ChangeSpec := { name := "rayOf", fn := fun _ => fun
  | [d1, d2, d3] => { results := [.lit (.bool false)], args := [d1, d2, d3] }
  | _ => none }
def RayOfWrongFalsely : Prop := rayOfRow.holds Try.pinned (OpenSpec.ofChange rayOfWrong)

/-- 'kakugyolaw04.RayBetween': WHATEVER THE INPUT: true; the input reads as it did. -/
def rayBetweenSpec : ChangeSpec := { name := "rayBetween", fn := fun _ => fun
  | [d1, d2] => { results := [.lit (.bool true)], args := [d1, d2] }
  | _ => none }
def rayBetweenRow : OpenClaim := { program := "ytmpjjdlohneiiaa", sum := "4f687e3ee0b9f3a71a49bb9e451550c1d8eabdfc2c8dc7ff4a611fa56fa97cad", func := "kakugyo/kakugyolaw04.RayBetween", spec := "rayBetween", apart := false }
def RayBetweenSaid : Prop := rayBetweenRow.holds Try.pinned (OpenSpec.ofChange rayBetweenSpec)

/-- ITS FALSE NEIGHBOUR: 'it returns false'. Refute it at one input. -/
def rayBetweenWrong : ChangeSpec := { name := "rayBetween", fn := fun _ => fun
  | [d1, d2] => { results := [.lit (.bool false)], args := [d1, d2] }
  | _ => none }
def RayBetweenWrongFalsely : Prop := rayBetweenRow.holds Try.pinned (OpenSpec.ofChange rayBetweenWrong)

/-- 'kakugyolaw06.KeyOf': WHATEVER THE INPUT: true; the input reads as it did. -/
def keyOfSpec : ChangeSpec := { name := "keyOf", fn := fun _ => fun
  | [d] => { results := [.lit (.bool true)], args := [d] }
  | _ => none }
def keyOfRow : OpenClaim := { program := "ytmpjjdlohneiiaa", sum := "4f687e3ee0b9f3a71a49bb9e451550c1d8eabdfc2c8dc7ff4a611fa56fa97cad", func := "kakugyo/kakugyolaw06.KeyOf", spec := "keyOf", apart := false }
def KeyOfSaid : Prop := keyOfRow.holds Try.pinned (OpenSpec.ofChange keyOfSpec)

/-- ITS FALSE NEIGHBOUR: 'it returns false'. Refute it at one input. -/
def keyOfWrong : ChangeSpec := { name := "keyOf", fn := fun _ => fun
  | [d] => { results := [.lit (.bool false)], args := [d] }
  | _ => none }
def KeyOfWrongFalsely : Prop := keyOfRow.holds Try.pinned (OpenSpec.ofChange keyOfWrong)

/-- 'kakugyolaw06.KeyNone': WHATEVER THE INPUT: true; the input reads as it did. -/
def keyNoneSpec : ChangeSpec := { name := "keyNone", fn := fun _ => fun
  | [d1, d2, d3] => { results := [.lit (.bool true)], args := [d1, d2, d3] }
  | _ => none }
def keyNoneRow : OpenClaim := { program := "ytmpjjdlohneiiaa", sum := "4f687e3ee0b9f3a71a49bb9e451550c1d8eabdfc2c8dc7ff4a611fa56fa97cad", func := "kakugyo/kakugyolaw06.KeyNone", spec := "keyNone", apart := false }
def KeyNoneSaid : Prop := keyNoneRow.holds Try.pinned (OpenSpec.ofChange keyNoneSpec)

/-- ITS FALSE NEIGHBOUR: 'it returns false'. Refute it at one input. -/
def keyNoneWrong : ChangeSpec := { name := "keyNone", fn := fun _ => fun
  | [d1, d2, d3] => { results := [.lit (.bool false)], args := [d1, d2, d3] }
  | _ => none }
def KeyNoneWrongFalsely : Prop := keyNoneRow.holds Try.pinned (OpenSpec.ofChange keyNoneWrong)

/-- 'kakugyolaw06.KeyMoves': WHATEVER THE INPUT: true; the input reads as it did. -/
def keyMovesSpec : ChangeSpec := { name := "keyMoves", fn := fun _ => fun
  | [d1, d2, d3] => { results := [.lit (.bool true)], args := [d1, d2, d3] }
  | _ => none }
def keyMovesRow : OpenClaim := { program := "ytmpjjdlohneiiaa", sum := "4f687e3ee0b9f3a71a49bb9e451550c1d8eabdfc2c8dc7ff4a611fa56fa97cad", func := "kakugyo/kakugyolaw06.KeyMoves", spec := "keyMoves", apart := false }
def KeyMovesSaid : Prop := keyMovesRow.holds Try.pinned (OpenSpec.ofChange keyMovesSpec)

/-- ITS FALSE NEIGHBOUR: 'it returns false'. Refute it at one input. -/
def keyMovesWrong : ChangeSpec := { name := "keyMoves", fn := fun _ => fun
  | [d1, d2, d3] => { results := [.lit (.bool false)], args := [d1, d2, d3] }
  | _ => none }
def KeyMovesWrongFalsely : Prop := keyMovesRow.holds Try.pinned (OpenSpec.ofChange keyMovesWrong)

/-- 'kakugyolaw06.KeyApart': WHATEVER THE INPUT: true; the input reads as it did. -/
def keyApartSpec : ChangeSpec := { name := "keyApart", fn := fun _ => fun
  | [d1, d2] => { results := [.lit (.bool true)], args := [d1, d2] }
  | _ => none }
def keyApartRow : OpenClaim := { program := "ytmpjjdlohneiiaa", sum := "4f687e3ee0b9f3a71a49bb9e451550c1d8eabdfc2c8dc7ff4a611fa56fa97cad", func := "kakugyo/kakugyolaw06.KeyApart", spec := "keyApart", apart := false }
def KeyApartSaid : Prop := keyApartRow.holds Try.pinned (OpenSpec.ofChange keyApartSpec)

/-- ITS FALSE NEIGHBOUR: 'it returns false'. Refute it at one input. -/
def keyApartWrong : ChangeSpec := { name := "keyApart", fn := fun _ => fun
  | [d1, d2] => { results := [.lit (.bool false)], args := [d1, d2] }
  | _ => none }
def KeyApartWrongFalsely : Prop := keyApartRow.holds Try.pinned (OpenSpec.ofChange keyApartWrong)

/-- 'kakugyolaw06.KeyHands': WHATEVER THE INPUT: true; the input reads as it did. -/
def keyHandsSpec : ChangeSpec := { name := "keyHands", fn := fun _ => fun
  | [d1, d2] => { results := [.lit (.bool true)], args := [d1, d2] }
  | _ => none }
def keyHandsRow : OpenClaim := { program := "ytmpjjdlohneiiaa", sum := "4f687e3ee0b9f3a71a49bb9e451550c1d8eabdfc2c8dc7ff4a611fa56fa97cad", func := "kakugyo/kakugyolaw06.KeyHands", spec := "keyHands", apart := false }
def KeyHandsSaid : Prop := keyHandsRow.holds Try.pinned (OpenSpec.ofChange keyHandsSpec)

/-- ITS FALSE NEIGHBOUR: 'it returns false'. Refute it at one input. -/
def keyHandsWrong : ChangeSpec := { name := "keyHands", fn := fun _ => fun
  | [d1, d2] => { results := [.lit (.bool false)], args := [d1, d2] }
  | _ => none }
def KeyHandsWrongFalsely : Prop := keyHandsRow.holds Try.pinned (OpenSpec.ofChange keyHandsWrong)

/-- 'kakugyolaw06.KeyTwice': WHATEVER THE INPUT: true; the input reads as it did. -/
def keyTwiceSpec : ChangeSpec := { name := "keyTwice", fn := fun _ => fun
  | [d1, d2, d3] => { results := [.lit (.bool true)], args := [d1, d2, d3] }
  | _ => none }
def keyTwiceRow : OpenClaim := { program := "ytmpjjdlohneiiaa", sum := "4f687e3ee0b9f3a71a49bb9e451550c1d8eabdfc2c8dc7ff4a611fa56fa97cad", func := "kakugyo/kakugyolaw06.KeyTwice", spec := "keyTwice", apart := false }
def KeyTwiceSaid : Prop := keyTwiceRow.holds Try.pinned (OpenSpec.ofChange keyTwiceSpec)

/-- ITS FALSE NEIGHBOUR: 'it returns false'. Refute it at one input. -/
def keyTwiceWrong : ChangeSpec := { name := "keyTwice", fn := fun _ => fun
  | [d1, d2, d3] => { results := [.lit (.bool false)], args := [d1, d2, d3] }
  | _ => none }
def KeyTwiceWrongFalsely : Prop := keyTwiceRow.holds Try.pinned (OpenSpec.ofChange keyTwiceWrong)

/- THE SECOND FORM. 'bulk': how many values and letters a reading holds, each counted each time it is reached (what is shared counts as often as it is met; a slice's spare places count too). A statement '..UptoSaid' is the law's where the arguments, and the package variables that the reading takes, are together of bulk at most 1048576: NARROWER than '..Said'. Prove '..Said' where nothing that the law and all that it calls make is longer than what came in: it says more and counts as full. Else prove '..UptoSaid'. A law counts once. -/
mutual
def uptoBulk {H : Type} : DataW H → Nat
  | .lit (.string bytes) => bytes.length + 1
  | .lit _ => 1
  | .nil => 1
  | .ptr d => uptoBulk d + 1
  | .slice elems spare => uptoBulkAll elems + uptoBulkAll spare + 1
  | .agg parts => uptoBulkAll parts + 1
  | .iface _ d => uptoBulk d + 1
  | .map entries => uptoBulkEntries entries + 1
  | .held _ => 1
def uptoBulkAll {H : Type} : List (DataW H) → Nat
  | [] => 0
  | d :: r => uptoBulk d + uptoBulkAll r
def uptoBulkEntries {H : Type} : List (Lit × DataW H) → Nat
  | [] => 0
  | x :: r => uptoBulkEntry x + uptoBulkEntries r
def uptoBulkEntry {H : Type} : Lit × DataW H → Nat
  | (.string bytes, d) => bytes.length + uptoBulk d + 1
  | (_, d) => uptoBulk d + 1
 end
def uptoSmall : (H : Type) → List (DataW H) → Bool := fun _ ds => decide (uptoBulkAll ds ≤ 1048576)
def OpenSpec.upto (s : _root_.Go.ChangeSpec) : _root_.Go.OpenSpec := { _root_.Go.OpenSpec.ofChange s with cond := some uptoSmall }

/-- 'kakugyolaw04.RayOf', WHERE WHAT IT READS IS OF BULK AT MOST 1048576: true; the input reads as it did. -/
def rayOfUptoRow : OpenClaim := { program := "ytmpjjdlohneiiaa", sum := "4f687e3ee0b9f3a71a49bb9e451550c1d8eabdfc2c8dc7ff4a611fa56fa97cad", func := "kakugyo/kakugyolaw04.RayOf", spec := "rayOf", apart := false, narrowed := true }
def RayOfUptoSaid : Prop := rayOfUptoRow.holds Try.pinned (OpenSpec.upto rayOfSpec)

/-- 'kakugyolaw04.RayBetween', WHERE WHAT IT READS IS OF BULK AT MOST 1048576: true; the input reads as it did. -/
def rayBetweenUptoRow : OpenClaim := { program := "ytmpjjdlohneiiaa", sum := "4f687e3ee0b9f3a71a49bb9e451550c1d8eabdfc2c8dc7ff4a611fa56fa97cad", func := "kakugyo/kakugyolaw04.RayBetween", spec := "rayBetween", apart := false, narrowed := true }
def RayBetweenUptoSaid : Prop := rayBetweenUptoRow.holds Try.pinned (OpenSpec.upto rayBetweenSpec)

/-- 'kakugyolaw06.KeyOf', WHERE WHAT IT READS IS OF BULK AT MOST 1048576: true; the input reads as it did. -/
def keyOfUptoRow : OpenClaim := { program := "ytmpjjdlohneiiaa", sum := "4f687e3ee0b9f3a71a49bb9e451550c1d8eabdfc2c8dc7ff4a611fa56fa97cad", func := "kakugyo/kakugyolaw06.KeyOf", spec := "keyOf", apart := false, narrowed := true }
def KeyOfUptoSaid : Prop := keyOfUptoRow.holds Try.pinned (OpenSpec.upto keyOfSpec)

/-- 'kakugyolaw06.KeyNone', WHERE WHAT IT READS IS OF BULK AT MOST 1048576: true; the input reads as it did. -/
def keyNoneUptoRow : OpenClaim := { program := "ytmpjjdlohneiiaa", sum := "4f687e3ee0b9f3a71a49bb9e451550c1d8eabdfc2c8dc7ff4a611fa56fa97cad", func := "kakugyo/kakugyolaw06.KeyNone", spec := "keyNone", apart := false, narrowed := true }
def KeyNoneUptoSaid : Prop := keyNoneUptoRow.holds Try.pinned (OpenSpec.upto keyNoneSpec)

/-- 'kakugyolaw06.KeyMoves', WHERE WHAT IT READS IS OF BULK AT MOST 1048576: true; the input reads as it did. -/
def keyMovesUptoRow : OpenClaim := { program := "ytmpjjdlohneiiaa", sum := "4f687e3ee0b9f3a71a49bb9e451550c1d8eabdfc2c8dc7ff4a611fa56fa97cad", func := "kakugyo/kakugyolaw06.KeyMoves", spec := "keyMoves", apart := false, narrowed := true }
def KeyMovesUptoSaid : Prop := keyMovesUptoRow.holds Try.pinned (OpenSpec.upto keyMovesSpec)

/-- 'kakugyolaw06.KeyApart', WHERE WHAT IT READS IS OF BULK AT MOST 1048576: true; the input reads as it did. -/
def keyApartUptoRow : OpenClaim := { program := "ytmpjjdlohneiiaa", sum := "4f687e3ee0b9f3a71a49bb9e451550c1d8eabdfc2c8dc7ff4a611fa56fa97cad", func := "kakugyo/kakugyolaw06.KeyApart", spec := "keyApart", apart := false, narrowed := true }
def KeyApartUptoSaid : Prop := keyApartUptoRow.holds Try.pinned (OpenSpec.upto keyApartSpec)

/-- 'kakugyolaw06.KeyHands', WHERE WHAT IT READS IS OF BULK AT MOST 1048576: true; the input reads as it did. -/
def keyHandsUptoRow : OpenClaim := { program := "ytmpjjdlohneiiaa", sum := "4f687e3ee0b9f3a71a49bb9e451550c1d8eabdfc2c8dc7ff4a611fa56fa97cad", func := "kakugyo/kakugyolaw06.KeyHands", spec := "keyHands", apart := false, narrowed := true }
def KeyHandsUptoSaid : Prop := keyHandsUptoRow.holds Try.pinned (OpenSpec.upto keyHandsSpec)

/-- 'kakugyolaw06.KeyTwice', WHERE WHAT IT READS IS OF BULK AT MOST 1048576: true; the input reads as it did. -/
def keyTwiceUptoRow : OpenClaim := { program := "ytmpjjdlohneiiaa", sum := "4f687e3ee0b9f3a71a49bb9e451550c1d8eabdfc2c8dc7ff4a611fa56fa97cad", func := "kakugyo/kakugyolaw06.KeyTwice", spec := "keyTwice", apart := false, narrowed := true }
def KeyTwiceUptoSaid : Prop := keyTwiceUptoRow.holds Try.pinned (OpenSpec.upto keyTwiceSpec)

end Rows
end Go.Proofs.Ytmpjjdlohneiiaa
