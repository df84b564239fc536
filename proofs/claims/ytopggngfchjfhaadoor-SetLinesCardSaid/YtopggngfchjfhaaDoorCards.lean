/-
  DERIVED. GIVEN WITH THE SEED: THE CARDS: each row of YtopggngfchjfhaaDoorRows.lean that lists a variable, with what it lists TIED to the program's text (the seventh form; the later family's looks); each row that meets fmt, with fmt's text TOLD by the authors' own Lean function (tested against real Go, not proved from fmt's source: count such statements apart). THE CARD IS WHAT COUNTS. Prove the row's statement (the work); the ties are given (YtopggngfchjfhaaDoorTie.lean); close each card by the builder's one call (the guide's Derived/Test/ToyasCard.lean, 'card_holds'). Laid BY PROGRAM, IN A SANDBOX (cutbox-door.mjs). By AI agents, Wed Nov 11 2026. No macro, syntax, notation, axiom, sorry.
-/
import Derived.Test.YtopggngfchjfhaaDoorRows
import GoSem.ClaimSeven
namespace Go.Proofs.YtopggngfchjfhaaDoor
namespace Rows

/-- THE TIED CARD OF 'kakugyolaw01.SetPuts'. -/
def setPutsCard : Claim7 := { stood := { row := setPutsRow, standIns := [], harness := (true, "88e4854faeb74e721c4298ee1d296e73cc63650149b9535a14201ba5ff94299b"), looks := false }, kinds := [], alts := [], laidByText := true, laidKinds := [.data], laidTests := true, laidLooks := .later }
def SetPutsCardSaid : Prop := Claim7.holds Tryd.pinned (.plain (OpenSpec.ofChange setPutsSpec)) setPutsCard

/-- THE TIED CARD OF 'kakugyolaw01.SetAlgebra'. -/
def setAlgebraCard : Claim7 := { stood := { row := setAlgebraRow, standIns := [], harness := (true, "88e4854faeb74e721c4298ee1d296e73cc63650149b9535a14201ba5ff94299b"), looks := false }, kinds := [], alts := [], laidByText := true, laidKinds := [.data], laidTests := true, laidLooks := .later }
def SetAlgebraCardSaid : Prop := Claim7.holds Tryd.pinned (.plain (OpenSpec.ofChange setAlgebraSpec)) setAlgebraCard

/-- THE TIED CARD OF 'kakugyolaw01.SetLists'. -/
def setListsCard : Claim7 := { stood := { row := setListsRow, standIns := [], harness := (true, "88e4854faeb74e721c4298ee1d296e73cc63650149b9535a14201ba5ff94299b"), looks := false }, kinds := [], alts := [], laidByText := true, laidKinds := [.data], laidTests := true, laidLooks := .later }
def SetListsCardSaid : Prop := Claim7.holds Tryd.pinned (.plain (OpenSpec.ofChange setListsSpec)) setListsCard

/-- THE TIED CARD OF 'kakugyolaw01.SetSquares'. -/
def setSquaresCard : Claim7 := { stood := { row := setSquaresRow, standIns := [], harness := (true, "88e4854faeb74e721c4298ee1d296e73cc63650149b9535a14201ba5ff94299b"), looks := false }, kinds := [], alts := [], laidByText := true, laidKinds := [.data], laidTests := true, laidLooks := .later }
def SetSquaresCardSaid : Prop := Claim7.holds Tryd.pinned (.plain (OpenSpec.ofChange setSquaresSpec)) setSquaresCard

/-- THE TIED CARD OF 'kakugyolaw01.SetLines'. -/
def setLinesCard : Claim7 := { stood := { row := setLinesRow, standIns := [], harness := (true, "88e4854faeb74e721c4298ee1d296e73cc63650149b9535a14201ba5ff94299b"), looks := false }, kinds := [], alts := [], laidByText := true, laidKinds := [.data], laidTests := true, laidLooks := .later }
def SetLinesCardSaid : Prop := Claim7.holds Tryd.pinned (.plain (OpenSpec.ofChange setLinesSpec)) setLinesCard

/-- THE TIED CARD OF 'kakugyolaw01.SetCounts'. -/
def setCountsCard : Claim7 := { stood := { row := setCountsRow, standIns := [], harness := (true, "88e4854faeb74e721c4298ee1d296e73cc63650149b9535a14201ba5ff94299b"), looks := false }, kinds := [], alts := [], laidByText := true, laidKinds := [.data], laidTests := true, laidLooks := .later }
def SetCountsCardSaid : Prop := Claim7.holds Tryd.pinned (.plain (OpenSpec.ofChange setCountsSpec)) setCountsCard

/-- THE TIED CARD OF 'kakugyolaw03.StepEdges'. -/
def stepEdgesCard : Claim7 := { stood := { row := stepEdgesRow, standIns := [], harness := (true, "88e4854faeb74e721c4298ee1d296e73cc63650149b9535a14201ba5ff94299b"), looks := false }, kinds := [], alts := [], laidByText := true, laidKinds := [.data], laidTests := true, laidLooks := .later }
def StepEdgesCardSaid : Prop := Claim7.holds Tryd.pinned (.plain (OpenSpec.ofChange stepEdgesSpec)) stepEdgesCard

/-- THE SECOND FORM's CARD OF 'kakugyolaw01.SetPuts'. -/
def setPutsUptoCard : Claim7 := { stood := { row := setPutsUptoRow, standIns := [], harness := (true, "88e4854faeb74e721c4298ee1d296e73cc63650149b9535a14201ba5ff94299b"), looks := false }, kinds := [], alts := [], laidByText := true, laidKinds := [.data], laidTests := true, laidLooks := .later }
def SetPutsUptoCardSaid : Prop := Claim7.holds Tryd.pinned (.plain (OpenSpec.upto setPutsSpec)) setPutsUptoCard

/-- THE SECOND FORM's CARD OF 'kakugyolaw01.SetAlgebra'. -/
def setAlgebraUptoCard : Claim7 := { stood := { row := setAlgebraUptoRow, standIns := [], harness := (true, "88e4854faeb74e721c4298ee1d296e73cc63650149b9535a14201ba5ff94299b"), looks := false }, kinds := [], alts := [], laidByText := true, laidKinds := [.data], laidTests := true, laidLooks := .later }
def SetAlgebraUptoCardSaid : Prop := Claim7.holds Tryd.pinned (.plain (OpenSpec.upto setAlgebraSpec)) setAlgebraUptoCard

/-- THE SECOND FORM's CARD OF 'kakugyolaw01.SetLists'. -/
def setListsUptoCard : Claim7 := { stood := { row := setListsUptoRow, standIns := [], harness := (true, "88e4854faeb74e721c4298ee1d296e73cc63650149b9535a14201ba5ff94299b"), looks := false }, kinds := [], alts := [], laidByText := true, laidKinds := [.data], laidTests := true, laidLooks := .later }
def SetListsUptoCardSaid : Prop := Claim7.holds Tryd.pinned (.plain (OpenSpec.upto setListsSpec)) setListsUptoCard

/-- THE SECOND FORM's CARD OF 'kakugyolaw01.SetSquares'. -/
def setSquaresUptoCard : Claim7 := { stood := { row := setSquaresUptoRow, standIns := [], harness := (true, "88e4854faeb74e721c4298ee1d296e73cc63650149b9535a14201ba5ff94299b"), looks := false }, kinds := [], alts := [], laidByText := true, laidKinds := [.data], laidTests := true, laidLooks := .later }
def SetSquaresUptoCardSaid : Prop := Claim7.holds Tryd.pinned (.plain (OpenSpec.upto setSquaresSpec)) setSquaresUptoCard

/-- THE SECOND FORM's CARD OF 'kakugyolaw01.SetLines'. -/
def setLinesUptoCard : Claim7 := { stood := { row := setLinesUptoRow, standIns := [], harness := (true, "88e4854faeb74e721c4298ee1d296e73cc63650149b9535a14201ba5ff94299b"), looks := false }, kinds := [], alts := [], laidByText := true, laidKinds := [.data], laidTests := true, laidLooks := .later }
def SetLinesUptoCardSaid : Prop := Claim7.holds Tryd.pinned (.plain (OpenSpec.upto setLinesSpec)) setLinesUptoCard

/-- THE SECOND FORM's CARD OF 'kakugyolaw01.SetCounts'. -/
def setCountsUptoCard : Claim7 := { stood := { row := setCountsUptoRow, standIns := [], harness := (true, "88e4854faeb74e721c4298ee1d296e73cc63650149b9535a14201ba5ff94299b"), looks := false }, kinds := [], alts := [], laidByText := true, laidKinds := [.data], laidTests := true, laidLooks := .later }
def SetCountsUptoCardSaid : Prop := Claim7.holds Tryd.pinned (.plain (OpenSpec.upto setCountsSpec)) setCountsUptoCard

/-- THE SECOND FORM's CARD OF 'kakugyolaw03.StepEdges'. -/
def stepEdgesUptoCard : Claim7 := { stood := { row := stepEdgesUptoRow, standIns := [], harness := (true, "88e4854faeb74e721c4298ee1d296e73cc63650149b9535a14201ba5ff94299b"), looks := false }, kinds := [], alts := [], laidByText := true, laidKinds := [.data], laidTests := true, laidLooks := .later }
def StepEdgesUptoCardSaid : Prop := Claim7.holds Tryd.pinned (.plain (OpenSpec.upto stepEdgesSpec)) stepEdgesUptoCard
end Rows
end Go.Proofs.YtopggngfchjfhaaDoor
