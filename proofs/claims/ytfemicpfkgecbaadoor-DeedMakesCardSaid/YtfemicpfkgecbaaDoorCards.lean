/-
  DERIVED. GIVEN WITH THE SEED: THE CARDS: each row of YtfemicpfkgecbaaDoorRows.lean that lists a variable, with what it lists TIED to the program's text (the seventh form; the later family's looks); each row that meets fmt, with fmt's text TOLD by the authors' own Lean function (tested against real Go, not proved from fmt's source: count such statements apart). THE CARD IS WHAT COUNTS. Prove the row's statement (the work); the ties are given (YtfemicpfkgecbaaDoorTie.lean); close each card by the builder's one call (the guide's Derived/Test/ToyasCard.lean, 'card_holds'). Laid BY PROGRAM, IN A SANDBOX (cutbox-door.mjs). By AI agents, Wed Nov 11 2026. No macro, syntax, notation, axiom, sorry.
-/
import Derived.Test.YtfemicpfkgecbaaDoorRows
import GoSem.ClaimSeven
namespace Go.Proofs.YtfemicpfkgecbaaDoor
namespace Rows

/-- THE TIED CARD OF 'kakugyolaw05.BoardHolds'. -/
def boardHoldsCard : Claim7 := { stood := { row := boardHoldsRow, standIns := [], harness := (true, "23a1ac82e38948e0c9670fb430ace288ab088370c9e19b52ec23be680c555812"), looks := false }, kinds := [], alts := [], laidByText := true, laidKinds := [.data, .data], laidTests := true, laidLooks := .later }
def BoardHoldsCardSaid : Prop := Claim7.holds Tryd.pinned (.plain (OpenSpec.ofChange boardHoldsSpec)) boardHoldsCard

/-- THE TIED CARD OF 'kakugyolaw09.DeedMakes'. -/
def deedMakesCard : Claim7 := { stood := { row := deedMakesRow, standIns := [], harness := (true, "23a1ac82e38948e0c9670fb430ace288ab088370c9e19b52ec23be680c555812"), looks := false }, kinds := [], alts := [], laidByText := true, laidKinds := [.data], laidTests := true, laidLooks := .later }
def DeedMakesCardSaid : Prop := Claim7.holds Tryd.pinned (.plain (OpenSpec.ofChange deedMakesSpec)) deedMakesCard

/-- THE TIED CARD OF 'kakugyolaw09.DeedBack'. -/
def deedBackCard : Claim7 := { stood := { row := deedBackRow, standIns := [], harness := (true, "23a1ac82e38948e0c9670fb430ace288ab088370c9e19b52ec23be680c555812"), looks := false }, kinds := [], alts := [], laidByText := true, laidKinds := [.data, .data], laidTests := true, laidLooks := .later }
def DeedBackCardSaid : Prop := Claim7.holds Tryd.pinned (.plain (OpenSpec.ofChange deedBackSpec)) deedBackCard

/-- THE TIED CARD OF 'kakugyolaw09.DeedKeys'. -/
def deedKeysCard : Claim7 := { stood := { row := deedKeysRow, standIns := [], harness := (true, "23a1ac82e38948e0c9670fb430ace288ab088370c9e19b52ec23be680c555812"), looks := false }, kinds := [], alts := [], laidByText := true, laidKinds := [.data], laidTests := true, laidLooks := .later }
def DeedKeysCardSaid : Prop := Claim7.holds Tryd.pinned (.plain (OpenSpec.ofChange deedKeysSpec)) deedKeysCard

/-- THE TIED CARD OF 'kakugyolaw09.DeedPieces'. -/
def deedPiecesCard : Claim7 := { stood := { row := deedPiecesRow, standIns := [], harness := (true, "23a1ac82e38948e0c9670fb430ace288ab088370c9e19b52ec23be680c555812"), looks := false }, kinds := [], alts := [], laidByText := true, laidKinds := [.data], laidTests := true, laidLooks := .later }
def DeedPiecesCardSaid : Prop := Claim7.holds Tryd.pinned (.plain (OpenSpec.ofChange deedPiecesSpec)) deedPiecesCard

/-- THE TIED CARD OF 'kakugyolaw09.DeedHands'. -/
def deedHandsCard : Claim7 := { stood := { row := deedHandsRow, standIns := [], harness := (true, "23a1ac82e38948e0c9670fb430ace288ab088370c9e19b52ec23be680c555812"), looks := false }, kinds := [], alts := [], laidByText := true, laidKinds := [.data], laidTests := true, laidLooks := .later }
def DeedHandsCardSaid : Prop := Claim7.holds Tryd.pinned (.plain (OpenSpec.ofChange deedHandsSpec)) deedHandsCard

/-- THE TIED CARD OF 'kakugyolaw09.DeedTwice'. -/
def deedTwiceCard : Claim7 := { stood := { row := deedTwiceRow, standIns := [], harness := (true, "23a1ac82e38948e0c9670fb430ace288ab088370c9e19b52ec23be680c555812"), looks := false }, kinds := [], alts := [], laidByText := true, laidKinds := [.data], laidTests := true, laidLooks := .later }
def DeedTwiceCardSaid : Prop := Claim7.holds Tryd.pinned (.plain (OpenSpec.ofChange deedTwiceSpec)) deedTwiceCard

/-- THE SECOND FORM's CARD OF 'kakugyolaw05.BoardHolds'. -/
def boardHoldsUptoCard : Claim7 := { stood := { row := boardHoldsUptoRow, standIns := [], harness := (true, "23a1ac82e38948e0c9670fb430ace288ab088370c9e19b52ec23be680c555812"), looks := false }, kinds := [], alts := [], laidByText := true, laidKinds := [.data, .data], laidTests := true, laidLooks := .later }
def BoardHoldsUptoCardSaid : Prop := Claim7.holds Tryd.pinned (.plain (OpenSpec.upto boardHoldsSpec)) boardHoldsUptoCard

/-- THE SECOND FORM's CARD OF 'kakugyolaw09.DeedMakes'. -/
def deedMakesUptoCard : Claim7 := { stood := { row := deedMakesUptoRow, standIns := [], harness := (true, "23a1ac82e38948e0c9670fb430ace288ab088370c9e19b52ec23be680c555812"), looks := false }, kinds := [], alts := [], laidByText := true, laidKinds := [.data], laidTests := true, laidLooks := .later }
def DeedMakesUptoCardSaid : Prop := Claim7.holds Tryd.pinned (.plain (OpenSpec.upto deedMakesSpec)) deedMakesUptoCard

/-- THE SECOND FORM's CARD OF 'kakugyolaw09.DeedBack'. -/
def deedBackUptoCard : Claim7 := { stood := { row := deedBackUptoRow, standIns := [], harness := (true, "23a1ac82e38948e0c9670fb430ace288ab088370c9e19b52ec23be680c555812"), looks := false }, kinds := [], alts := [], laidByText := true, laidKinds := [.data, .data], laidTests := true, laidLooks := .later }
def DeedBackUptoCardSaid : Prop := Claim7.holds Tryd.pinned (.plain (OpenSpec.upto deedBackSpec)) deedBackUptoCard

/-- THE SECOND FORM's CARD OF 'kakugyolaw09.DeedKeys'. -/
def deedKeysUptoCard : Claim7 := { stood := { row := deedKeysUptoRow, standIns := [], harness := (true, "23a1ac82e38948e0c9670fb430ace288ab088370c9e19b52ec23be680c555812"), looks := false }, kinds := [], alts := [], laidByText := true, laidKinds := [.data], laidTests := true, laidLooks := .later }
def DeedKeysUptoCardSaid : Prop := Claim7.holds Tryd.pinned (.plain (OpenSpec.upto deedKeysSpec)) deedKeysUptoCard

/-- THE SECOND FORM's CARD OF 'kakugyolaw09.DeedPieces'. -/
def deedPiecesUptoCard : Claim7 := { stood := { row := deedPiecesUptoRow, standIns := [], harness := (true, "23a1ac82e38948e0c9670fb430ace288ab088370c9e19b52ec23be680c555812"), looks := false }, kinds := [], alts := [], laidByText := true, laidKinds := [.data], laidTests := true, laidLooks := .later }
def DeedPiecesUptoCardSaid : Prop := Claim7.holds Tryd.pinned (.plain (OpenSpec.upto deedPiecesSpec)) deedPiecesUptoCard

/-- THE SECOND FORM's CARD OF 'kakugyolaw09.DeedHands'. -/
def deedHandsUptoCard : Claim7 := { stood := { row := deedHandsUptoRow, standIns := [], harness := (true, "23a1ac82e38948e0c9670fb430ace288ab088370c9e19b52ec23be680c555812"), looks := false }, kinds := [], alts := [], laidByText := true, laidKinds := [.data], laidTests := true, laidLooks := .later }
def DeedHandsUptoCardSaid : Prop := Claim7.holds Tryd.pinned (.plain (OpenSpec.upto deedHandsSpec)) deedHandsUptoCard

/-- THE SECOND FORM's CARD OF 'kakugyolaw09.DeedTwice'. -/
def deedTwiceUptoCard : Claim7 := { stood := { row := deedTwiceUptoRow, standIns := [], harness := (true, "23a1ac82e38948e0c9670fb430ace288ab088370c9e19b52ec23be680c555812"), looks := false }, kinds := [], alts := [], laidByText := true, laidKinds := [.data], laidTests := true, laidLooks := .later }
def DeedTwiceUptoCardSaid : Prop := Claim7.holds Tryd.pinned (.plain (OpenSpec.upto deedTwiceSpec)) deedTwiceUptoCard
end Rows
end Go.Proofs.YtfemicpfkgecbaaDoor
