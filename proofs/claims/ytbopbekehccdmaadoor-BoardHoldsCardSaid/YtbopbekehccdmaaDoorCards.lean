/-
  DERIVED. GIVEN WITH THE SEED: THE CARDS: each row of YtbopbekehccdmaaDoorRows.lean that lists a variable, with what it lists TIED to the program's text (the seventh form; the later family's looks); each row that meets fmt, with fmt's text TOLD by the authors' own Lean function (tested against real Go, not proved from fmt's source: count such statements apart). THE CARD IS WHAT COUNTS. Prove the row's statement (the work); the ties are given (YtbopbekehccdmaaDoorTie.lean); close each card by the builder's one call (the guide's Derived/Test/ToyasCard.lean, 'card_holds'). Laid BY PROGRAM, IN A SANDBOX (cutbox-door.mjs). By AI agents, Wed Nov 11 2026. No macro, syntax, notation, axiom, sorry.
-/
import Derived.Test.YtbopbekehccdmaaDoorRows
import GoSem.ClaimSeven
namespace Go.Proofs.YtbopbekehccdmaaDoor
namespace Rows

/-- THE TIED CARD OF 'kakugyolaw05.BoardHolds'. -/
def boardHoldsCard : Claim7 := { stood := { row := boardHoldsRow, standIns := [], harness := (true, "61158078ab301bbf22f58de56be9701d9610d34d2daf5506226835df1dfa2bd4"), looks := false }, kinds := [], alts := [], laidByText := true, laidKinds := [.data, .data], laidTests := true, laidLooks := .later }
def BoardHoldsCardSaid : Prop := Claim7.holds Tryd.pinned (.plain (OpenSpec.ofChange boardHoldsSpec)) boardHoldsCard

/-- THE TIED CARD OF 'kakugyolaw09.DeedBack'. -/
def deedBackCard : Claim7 := { stood := { row := deedBackRow, standIns := [], harness := (true, "61158078ab301bbf22f58de56be9701d9610d34d2daf5506226835df1dfa2bd4"), looks := false }, kinds := [], alts := [], laidByText := true, laidKinds := [.data, .data], laidTests := true, laidLooks := .later }
def DeedBackCardSaid : Prop := Claim7.holds Tryd.pinned (.plain (OpenSpec.ofChange deedBackSpec)) deedBackCard

/-- THE TIED CARD OF 'kakugyolaw09.DeedKeys'. -/
def deedKeysCard : Claim7 := { stood := { row := deedKeysRow, standIns := [], harness := (true, "61158078ab301bbf22f58de56be9701d9610d34d2daf5506226835df1dfa2bd4"), looks := false }, kinds := [], alts := [], laidByText := true, laidKinds := [.data], laidTests := true, laidLooks := .later }
def DeedKeysCardSaid : Prop := Claim7.holds Tryd.pinned (.plain (OpenSpec.ofChange deedKeysSpec)) deedKeysCard

/-- THE TIED CARD OF 'kakugyolaw09.DeedPieces'. -/
def deedPiecesCard : Claim7 := { stood := { row := deedPiecesRow, standIns := [], harness := (true, "61158078ab301bbf22f58de56be9701d9610d34d2daf5506226835df1dfa2bd4"), looks := false }, kinds := [], alts := [], laidByText := true, laidKinds := [.data], laidTests := true, laidLooks := .later }
def DeedPiecesCardSaid : Prop := Claim7.holds Tryd.pinned (.plain (OpenSpec.ofChange deedPiecesSpec)) deedPiecesCard

/-- THE TIED CARD OF 'kakugyolaw09.DeedHands'. -/
def deedHandsCard : Claim7 := { stood := { row := deedHandsRow, standIns := [], harness := (true, "61158078ab301bbf22f58de56be9701d9610d34d2daf5506226835df1dfa2bd4"), looks := false }, kinds := [], alts := [], laidByText := true, laidKinds := [.data], laidTests := true, laidLooks := .later }
def DeedHandsCardSaid : Prop := Claim7.holds Tryd.pinned (.plain (OpenSpec.ofChange deedHandsSpec)) deedHandsCard

/-- THE TIED CARD OF 'kakugyolaw09.DeedTwice'. -/
def deedTwiceCard : Claim7 := { stood := { row := deedTwiceRow, standIns := [], harness := (true, "61158078ab301bbf22f58de56be9701d9610d34d2daf5506226835df1dfa2bd4"), looks := false }, kinds := [], alts := [], laidByText := true, laidKinds := [.data], laidTests := true, laidLooks := .later }
def DeedTwiceCardSaid : Prop := Claim7.holds Tryd.pinned (.plain (OpenSpec.ofChange deedTwiceSpec)) deedTwiceCard

/-- THE TIED CARD OF 'kakugyolaw08.AttackOn'. -/
def attackOnCard : Claim7 := { stood := { row := attackOnRow, standIns := [], harness := (true, "61158078ab301bbf22f58de56be9701d9610d34d2daf5506226835df1dfa2bd4"), looks := false }, kinds := [], alts := [], laidByText := true, laidKinds := [.data], laidTests := true, laidLooks := .later }
def AttackOnCardSaid : Prop := Claim7.holds Tryd.pinned (.plain (OpenSpec.ofChange attackOnSpec)) attackOnCard

/-- THE TIED CARD OF 'kakugyolaw08.AttackAll'. -/
def attackAllCard : Claim7 := { stood := { row := attackAllRow, standIns := [], harness := (true, "61158078ab301bbf22f58de56be9701d9610d34d2daf5506226835df1dfa2bd4"), looks := false }, kinds := [], alts := [], laidByText := true, laidKinds := [.data], laidTests := true, laidLooks := .later }
def AttackAllCardSaid : Prop := Claim7.holds Tryd.pinned (.plain (OpenSpec.ofChange attackAllSpec)) attackAllCard

/-- THE TIED CARD OF 'kakugyolaw08.AttackChecks'. -/
def attackChecksCard : Claim7 := { stood := { row := attackChecksRow, standIns := [], harness := (true, "61158078ab301bbf22f58de56be9701d9610d34d2daf5506226835df1dfa2bd4"), looks := false }, kinds := [], alts := [], laidByText := true, laidKinds := [.data], laidTests := true, laidLooks := .later }
def AttackChecksCardSaid : Prop := Claim7.holds Tryd.pinned (.plain (OpenSpec.ofChange attackChecksSpec)) attackChecksCard

/-- THE TIED CARD OF 'kakugyolaw08.AttackPins'. -/
def attackPinsCard : Claim7 := { stood := { row := attackPinsRow, standIns := [], harness := (true, "61158078ab301bbf22f58de56be9701d9610d34d2daf5506226835df1dfa2bd4"), looks := false }, kinds := [], alts := [], laidByText := true, laidKinds := [.data], laidTests := true, laidLooks := .later }
def AttackPinsCardSaid : Prop := Claim7.holds Tryd.pinned (.plain (OpenSpec.ofChange attackPinsSpec)) attackPinsCard

/-- THE TIED CARD OF 'kakugyolaw08.AttackMore'. -/
def attackMoreCard : Claim7 := { stood := { row := attackMoreRow, standIns := [], harness := (true, "61158078ab301bbf22f58de56be9701d9610d34d2daf5506226835df1dfa2bd4"), looks := false }, kinds := [], alts := [], laidByText := true, laidKinds := [.data], laidTests := true, laidLooks := .later }
def AttackMoreCardSaid : Prop := Claim7.holds Tryd.pinned (.plain (OpenSpec.ofChange attackMoreSpec)) attackMoreCard

/-- THE TIED CARD OF 'kakugyolaw08.AttackKings'. -/
def attackKingsCard : Claim7 := { stood := { row := attackKingsRow, standIns := [], harness := (true, "61158078ab301bbf22f58de56be9701d9610d34d2daf5506226835df1dfa2bd4"), looks := false }, kinds := [], alts := [], laidByText := true, laidKinds := [.data], laidTests := true, laidLooks := .later }
def AttackKingsCardSaid : Prop := Claim7.holds Tryd.pinned (.plain (OpenSpec.ofChange attackKingsSpec)) attackKingsCard

/-- THE SECOND FORM's CARD OF 'kakugyolaw05.BoardHolds'. -/
def boardHoldsUptoCard : Claim7 := { stood := { row := boardHoldsUptoRow, standIns := [], harness := (true, "61158078ab301bbf22f58de56be9701d9610d34d2daf5506226835df1dfa2bd4"), looks := false }, kinds := [], alts := [], laidByText := true, laidKinds := [.data, .data], laidTests := true, laidLooks := .later }
def BoardHoldsUptoCardSaid : Prop := Claim7.holds Tryd.pinned (.plain (OpenSpec.upto boardHoldsSpec)) boardHoldsUptoCard

/-- THE SECOND FORM's CARD OF 'kakugyolaw09.DeedBack'. -/
def deedBackUptoCard : Claim7 := { stood := { row := deedBackUptoRow, standIns := [], harness := (true, "61158078ab301bbf22f58de56be9701d9610d34d2daf5506226835df1dfa2bd4"), looks := false }, kinds := [], alts := [], laidByText := true, laidKinds := [.data, .data], laidTests := true, laidLooks := .later }
def DeedBackUptoCardSaid : Prop := Claim7.holds Tryd.pinned (.plain (OpenSpec.upto deedBackSpec)) deedBackUptoCard

/-- THE SECOND FORM's CARD OF 'kakugyolaw09.DeedKeys'. -/
def deedKeysUptoCard : Claim7 := { stood := { row := deedKeysUptoRow, standIns := [], harness := (true, "61158078ab301bbf22f58de56be9701d9610d34d2daf5506226835df1dfa2bd4"), looks := false }, kinds := [], alts := [], laidByText := true, laidKinds := [.data], laidTests := true, laidLooks := .later }
def DeedKeysUptoCardSaid : Prop := Claim7.holds Tryd.pinned (.plain (OpenSpec.upto deedKeysSpec)) deedKeysUptoCard

/-- THE SECOND FORM's CARD OF 'kakugyolaw09.DeedPieces'. -/
def deedPiecesUptoCard : Claim7 := { stood := { row := deedPiecesUptoRow, standIns := [], harness := (true, "61158078ab301bbf22f58de56be9701d9610d34d2daf5506226835df1dfa2bd4"), looks := false }, kinds := [], alts := [], laidByText := true, laidKinds := [.data], laidTests := true, laidLooks := .later }
def DeedPiecesUptoCardSaid : Prop := Claim7.holds Tryd.pinned (.plain (OpenSpec.upto deedPiecesSpec)) deedPiecesUptoCard

/-- THE SECOND FORM's CARD OF 'kakugyolaw09.DeedHands'. -/
def deedHandsUptoCard : Claim7 := { stood := { row := deedHandsUptoRow, standIns := [], harness := (true, "61158078ab301bbf22f58de56be9701d9610d34d2daf5506226835df1dfa2bd4"), looks := false }, kinds := [], alts := [], laidByText := true, laidKinds := [.data], laidTests := true, laidLooks := .later }
def DeedHandsUptoCardSaid : Prop := Claim7.holds Tryd.pinned (.plain (OpenSpec.upto deedHandsSpec)) deedHandsUptoCard

/-- THE SECOND FORM's CARD OF 'kakugyolaw09.DeedTwice'. -/
def deedTwiceUptoCard : Claim7 := { stood := { row := deedTwiceUptoRow, standIns := [], harness := (true, "61158078ab301bbf22f58de56be9701d9610d34d2daf5506226835df1dfa2bd4"), looks := false }, kinds := [], alts := [], laidByText := true, laidKinds := [.data], laidTests := true, laidLooks := .later }
def DeedTwiceUptoCardSaid : Prop := Claim7.holds Tryd.pinned (.plain (OpenSpec.upto deedTwiceSpec)) deedTwiceUptoCard

/-- THE SECOND FORM's CARD OF 'kakugyolaw08.AttackOn'. -/
def attackOnUptoCard : Claim7 := { stood := { row := attackOnUptoRow, standIns := [], harness := (true, "61158078ab301bbf22f58de56be9701d9610d34d2daf5506226835df1dfa2bd4"), looks := false }, kinds := [], alts := [], laidByText := true, laidKinds := [.data], laidTests := true, laidLooks := .later }
def AttackOnUptoCardSaid : Prop := Claim7.holds Tryd.pinned (.plain (OpenSpec.upto attackOnSpec)) attackOnUptoCard

/-- THE SECOND FORM's CARD OF 'kakugyolaw08.AttackAll'. -/
def attackAllUptoCard : Claim7 := { stood := { row := attackAllUptoRow, standIns := [], harness := (true, "61158078ab301bbf22f58de56be9701d9610d34d2daf5506226835df1dfa2bd4"), looks := false }, kinds := [], alts := [], laidByText := true, laidKinds := [.data], laidTests := true, laidLooks := .later }
def AttackAllUptoCardSaid : Prop := Claim7.holds Tryd.pinned (.plain (OpenSpec.upto attackAllSpec)) attackAllUptoCard

/-- THE SECOND FORM's CARD OF 'kakugyolaw08.AttackChecks'. -/
def attackChecksUptoCard : Claim7 := { stood := { row := attackChecksUptoRow, standIns := [], harness := (true, "61158078ab301bbf22f58de56be9701d9610d34d2daf5506226835df1dfa2bd4"), looks := false }, kinds := [], alts := [], laidByText := true, laidKinds := [.data], laidTests := true, laidLooks := .later }
def AttackChecksUptoCardSaid : Prop := Claim7.holds Tryd.pinned (.plain (OpenSpec.upto attackChecksSpec)) attackChecksUptoCard

/-- THE SECOND FORM's CARD OF 'kakugyolaw08.AttackPins'. -/
def attackPinsUptoCard : Claim7 := { stood := { row := attackPinsUptoRow, standIns := [], harness := (true, "61158078ab301bbf22f58de56be9701d9610d34d2daf5506226835df1dfa2bd4"), looks := false }, kinds := [], alts := [], laidByText := true, laidKinds := [.data], laidTests := true, laidLooks := .later }
def AttackPinsUptoCardSaid : Prop := Claim7.holds Tryd.pinned (.plain (OpenSpec.upto attackPinsSpec)) attackPinsUptoCard

/-- THE SECOND FORM's CARD OF 'kakugyolaw08.AttackMore'. -/
def attackMoreUptoCard : Claim7 := { stood := { row := attackMoreUptoRow, standIns := [], harness := (true, "61158078ab301bbf22f58de56be9701d9610d34d2daf5506226835df1dfa2bd4"), looks := false }, kinds := [], alts := [], laidByText := true, laidKinds := [.data], laidTests := true, laidLooks := .later }
def AttackMoreUptoCardSaid : Prop := Claim7.holds Tryd.pinned (.plain (OpenSpec.upto attackMoreSpec)) attackMoreUptoCard

/-- THE SECOND FORM's CARD OF 'kakugyolaw08.AttackKings'. -/
def attackKingsUptoCard : Claim7 := { stood := { row := attackKingsUptoRow, standIns := [], harness := (true, "61158078ab301bbf22f58de56be9701d9610d34d2daf5506226835df1dfa2bd4"), looks := false }, kinds := [], alts := [], laidByText := true, laidKinds := [.data], laidTests := true, laidLooks := .later }
def AttackKingsUptoCardSaid : Prop := Claim7.holds Tryd.pinned (.plain (OpenSpec.upto attackKingsSpec)) attackKingsUptoCard
end Rows
end Go.Proofs.YtbopbekehccdmaaDoor
