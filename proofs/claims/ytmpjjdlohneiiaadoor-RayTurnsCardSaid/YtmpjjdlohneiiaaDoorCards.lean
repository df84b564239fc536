/-
  DERIVED. GIVEN WITH THE SEED: THE CARDS: each row of YtmpjjdlohneiiaaDoorRows.lean that lists a variable, with what it lists TIED to the program's text (the seventh form; the later family's looks); each row that meets fmt, with fmt's text TOLD by the authors' own Lean function (tested against real Go, not proved from fmt's source: count such statements apart). THE CARD IS WHAT COUNTS. Prove the row's statement (the work); the ties are given (YtmpjjdlohneiiaaDoorTie.lean); close each card by the builder's one call (the guide's Derived/Test/ToyasCard.lean, 'card_holds'). Laid BY PROGRAM, IN A SANDBOX (cutbox-door.mjs). By AI agents, Wed Nov 11 2026. No macro, syntax, notation, axiom, sorry.
-/
import Derived.Test.YtmpjjdlohneiiaaDoorRows
import GoSem.ClaimSeven
namespace Go.Proofs.YtmpjjdlohneiiaaDoor
namespace Rows

/-- THE TIED CARD OF 'kakugyolaw01.SetAlgebra'. -/
def setAlgebraCard : Claim7 := { stood := { row := setAlgebraRow, standIns := [], harness := (true, "ae3fc32cabf0d2243307fdff5f934e92d4704d214107dc96e915da72b73f04a5"), looks := false }, kinds := [], alts := [], laidByText := true, laidKinds := [.data], laidTests := true, laidLooks := .later }
def SetAlgebraCardSaid : Prop := Claim7.holds Tryd.pinned (.plain (OpenSpec.ofChange setAlgebraSpec)) setAlgebraCard

/-- THE TIED CARD OF 'kakugyolaw04.RayWays'. -/
def rayWaysCard : Claim7 := { stood := { row := rayWaysRow, standIns := [], harness := (true, "ae3fc32cabf0d2243307fdff5f934e92d4704d214107dc96e915da72b73f04a5"), looks := false }, kinds := [], alts := [], laidByText := true, laidKinds := [.data], laidTests := true, laidLooks := .later }
def RayWaysCardSaid : Prop := Claim7.holds Tryd.pinned (.plain (OpenSpec.ofChange rayWaysSpec)) rayWaysCard

/-- THE TIED CARD OF 'kakugyolaw04.RayTurns'. -/
def rayTurnsCard : Claim7 := { stood := { row := rayTurnsRow, standIns := [], harness := (true, "ae3fc32cabf0d2243307fdff5f934e92d4704d214107dc96e915da72b73f04a5"), looks := false }, kinds := [], alts := [], laidByText := true, laidKinds := [.data], laidTests := true, laidLooks := .later }
def RayTurnsCardSaid : Prop := Claim7.holds Tryd.pinned (.plain (OpenSpec.ofChange rayTurnsSpec)) rayTurnsCard

/-- THE TIED CARD OF 'kakugyotop.WholeReach'. -/
def wholeReachCard : Claim7 := { stood := { row := wholeReachRow, standIns := [], harness := (true, "ae3fc32cabf0d2243307fdff5f934e92d4704d214107dc96e915da72b73f04a5"), looks := false }, kinds := [], alts := [], laidByText := true, laidKinds := [.data], laidTests := true, laidLooks := .later }
def WholeReachCardSaid : Prop := Claim7.holds Tryd.pinned (.plain (OpenSpec.ofChange wholeReachSpec)) wholeReachCard

/-- THE SECOND FORM's CARD OF 'kakugyolaw01.SetAlgebra'. -/
def setAlgebraUptoCard : Claim7 := { stood := { row := setAlgebraUptoRow, standIns := [], harness := (true, "ae3fc32cabf0d2243307fdff5f934e92d4704d214107dc96e915da72b73f04a5"), looks := false }, kinds := [], alts := [], laidByText := true, laidKinds := [.data], laidTests := true, laidLooks := .later }
def SetAlgebraUptoCardSaid : Prop := Claim7.holds Tryd.pinned (.plain (OpenSpec.upto setAlgebraSpec)) setAlgebraUptoCard

/-- THE SECOND FORM's CARD OF 'kakugyolaw04.RayWays'. -/
def rayWaysUptoCard : Claim7 := { stood := { row := rayWaysUptoRow, standIns := [], harness := (true, "ae3fc32cabf0d2243307fdff5f934e92d4704d214107dc96e915da72b73f04a5"), looks := false }, kinds := [], alts := [], laidByText := true, laidKinds := [.data], laidTests := true, laidLooks := .later }
def RayWaysUptoCardSaid : Prop := Claim7.holds Tryd.pinned (.plain (OpenSpec.upto rayWaysSpec)) rayWaysUptoCard

/-- THE SECOND FORM's CARD OF 'kakugyolaw04.RayTurns'. -/
def rayTurnsUptoCard : Claim7 := { stood := { row := rayTurnsUptoRow, standIns := [], harness := (true, "ae3fc32cabf0d2243307fdff5f934e92d4704d214107dc96e915da72b73f04a5"), looks := false }, kinds := [], alts := [], laidByText := true, laidKinds := [.data], laidTests := true, laidLooks := .later }
def RayTurnsUptoCardSaid : Prop := Claim7.holds Tryd.pinned (.plain (OpenSpec.upto rayTurnsSpec)) rayTurnsUptoCard

/-- THE SECOND FORM's CARD OF 'kakugyotop.WholeReach'. -/
def wholeReachUptoCard : Claim7 := { stood := { row := wholeReachUptoRow, standIns := [], harness := (true, "ae3fc32cabf0d2243307fdff5f934e92d4704d214107dc96e915da72b73f04a5"), looks := false }, kinds := [], alts := [], laidByText := true, laidKinds := [.data], laidTests := true, laidLooks := .later }
def WholeReachUptoCardSaid : Prop := Claim7.holds Tryd.pinned (.plain (OpenSpec.upto wholeReachSpec)) wholeReachUptoCard
end Rows
end Go.Proofs.YtmpjjdlohneiiaaDoor
