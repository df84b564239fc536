/-
  DERIVED. GIVEN WITH THE SEED: THE CARDS: each row of YtnmekghjkajhcaaDoorRows.lean that lists a variable, with what it lists TIED to the program's text (the seventh form; the later family's looks); each row that meets fmt, with fmt's text TOLD by the authors' own Lean function (tested against real Go, not proved from fmt's source: count such statements apart). THE CARD IS WHAT COUNTS. Prove the row's statement (the work); the ties are given (YtnmekghjkajhcaaDoorTie.lean); close each card by the builder's one call (the guide's Derived/Test/ToyasCard.lean, 'card_holds'). Laid BY PROGRAM, IN A SANDBOX (cutbox-door.mjs). By AI agents, Wed Nov 11 2026. No macro, syntax, notation, axiom, sorry.
-/
import Derived.Test.YtnmekghjkajhcaaDoorRows
import GoSem.ClaimSeven
namespace Go.Proofs.YtnmekghjkajhcaaDoor
namespace Rows

/-- THE TIED CARD OF 'kakugyolaw04.RayWays'. -/
def rayWaysCard : Claim7 := { stood := { row := rayWaysRow, standIns := [], harness := (true, "cc14ec32f827d20168f9f485fab91932d672368d89211fa4bedafbde805e63b5"), looks := false }, kinds := [], alts := [], laidByText := true, laidKinds := [.data], laidTests := true, laidLooks := .later }
def RayWaysCardSaid : Prop := Claim7.holds Tryd.pinned (.plain (OpenSpec.ofChange rayWaysSpec)) rayWaysCard

/-- THE TIED CARD OF 'kakugyotop.WholeReach'. -/
def wholeReachCard : Claim7 := { stood := { row := wholeReachRow, standIns := [], harness := (true, "cc14ec32f827d20168f9f485fab91932d672368d89211fa4bedafbde805e63b5"), looks := false }, kinds := [], alts := [], laidByText := true, laidKinds := [.data], laidTests := true, laidLooks := .later }
def WholeReachCardSaid : Prop := Claim7.holds Tryd.pinned (.plain (OpenSpec.ofChange wholeReachSpec)) wholeReachCard

/-- THE SECOND FORM's CARD OF 'kakugyolaw04.RayWays'. -/
def rayWaysUptoCard : Claim7 := { stood := { row := rayWaysUptoRow, standIns := [], harness := (true, "cc14ec32f827d20168f9f485fab91932d672368d89211fa4bedafbde805e63b5"), looks := false }, kinds := [], alts := [], laidByText := true, laidKinds := [.data], laidTests := true, laidLooks := .later }
def RayWaysUptoCardSaid : Prop := Claim7.holds Tryd.pinned (.plain (OpenSpec.upto rayWaysSpec)) rayWaysUptoCard

/-- THE SECOND FORM's CARD OF 'kakugyotop.WholeReach'. -/
def wholeReachUptoCard : Claim7 := { stood := { row := wholeReachUptoRow, standIns := [], harness := (true, "cc14ec32f827d20168f9f485fab91932d672368d89211fa4bedafbde805e63b5"), looks := false }, kinds := [], alts := [], laidByText := true, laidKinds := [.data], laidTests := true, laidLooks := .later }
def WholeReachUptoCardSaid : Prop := Claim7.holds Tryd.pinned (.plain (OpenSpec.upto wholeReachSpec)) wholeReachUptoCard
end Rows
end Go.Proofs.YtnmekghjkajhcaaDoor
