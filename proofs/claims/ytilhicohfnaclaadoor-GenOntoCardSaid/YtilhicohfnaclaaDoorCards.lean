/-
  DERIVED. GIVEN WITH THE SEED: THE CARDS: each row of YtilhicohfnaclaaDoorRows.lean that lists a variable, with what it lists TIED to the program's text (the seventh form; the later family's looks); each row that meets fmt, with fmt's text TOLD by the authors' own Lean function (tested against real Go, not proved from fmt's source: count such statements apart). THE CARD IS WHAT COUNTS. Prove the row's statement (the work); the ties are given (YtilhicohfnaclaaDoorTie.lean); close each card by the builder's one call (the guide's Derived/Test/ToyasCard.lean, 'card_holds'). Laid BY PROGRAM, IN A SANDBOX (cutbox-door.mjs). By AI agents, Wed Nov 11 2026. No macro, syntax, notation, axiom, sorry.
-/
import Derived.Test.YtilhicohfnaclaaDoorRows
import GoSem.ClaimSeven
namespace Go.Proofs.YtilhicohfnaclaaDoor
namespace Rows

/-- THE TIED CARD OF 'kakugyolaw08.AttackOn'. -/
def attackOnCard : Claim7 := { stood := { row := attackOnRow, standIns := [], harness := (true, "0776d4176ac7a5c1654bff58d889dde5c9cebcf1173a97d2bffd13716620d23a"), looks := false }, kinds := [], alts := [], laidByText := true, laidKinds := [.data], laidTests := true, laidLooks := .later }
def AttackOnCardSaid : Prop := Claim7.holds Tryd.pinned (.plain (OpenSpec.ofChange attackOnSpec)) attackOnCard

/-- THE TIED CARD OF 'kakugyolaw08.AttackAll'. -/
def attackAllCard : Claim7 := { stood := { row := attackAllRow, standIns := [], harness := (true, "0776d4176ac7a5c1654bff58d889dde5c9cebcf1173a97d2bffd13716620d23a"), looks := false }, kinds := [], alts := [], laidByText := true, laidKinds := [.data], laidTests := true, laidLooks := .later }
def AttackAllCardSaid : Prop := Claim7.holds Tryd.pinned (.plain (OpenSpec.ofChange attackAllSpec)) attackAllCard

/-- THE TIED CARD OF 'kakugyolaw08.AttackChecks'. -/
def attackChecksCard : Claim7 := { stood := { row := attackChecksRow, standIns := [], harness := (true, "0776d4176ac7a5c1654bff58d889dde5c9cebcf1173a97d2bffd13716620d23a"), looks := false }, kinds := [], alts := [], laidByText := true, laidKinds := [.data], laidTests := true, laidLooks := .later }
def AttackChecksCardSaid : Prop := Claim7.holds Tryd.pinned (.plain (OpenSpec.ofChange attackChecksSpec)) attackChecksCard

/-- THE TIED CARD OF 'kakugyolaw08.AttackPins'. -/
def attackPinsCard : Claim7 := { stood := { row := attackPinsRow, standIns := [], harness := (true, "0776d4176ac7a5c1654bff58d889dde5c9cebcf1173a97d2bffd13716620d23a"), looks := false }, kinds := [], alts := [], laidByText := true, laidKinds := [.data], laidTests := true, laidLooks := .later }
def AttackPinsCardSaid : Prop := Claim7.holds Tryd.pinned (.plain (OpenSpec.ofChange attackPinsSpec)) attackPinsCard

/-- THE TIED CARD OF 'kakugyolaw08.AttackMore'. -/
def attackMoreCard : Claim7 := { stood := { row := attackMoreRow, standIns := [], harness := (true, "0776d4176ac7a5c1654bff58d889dde5c9cebcf1173a97d2bffd13716620d23a"), looks := false }, kinds := [], alts := [], laidByText := true, laidKinds := [.data], laidTests := true, laidLooks := .later }
def AttackMoreCardSaid : Prop := Claim7.holds Tryd.pinned (.plain (OpenSpec.ofChange attackMoreSpec)) attackMoreCard

/-- THE TIED CARD OF 'kakugyolaw08.AttackKings'. -/
def attackKingsCard : Claim7 := { stood := { row := attackKingsRow, standIns := [], harness := (true, "0776d4176ac7a5c1654bff58d889dde5c9cebcf1173a97d2bffd13716620d23a"), looks := false }, kinds := [], alts := [], laidByText := true, laidKinds := [.data], laidTests := true, laidLooks := .later }
def AttackKingsCardSaid : Prop := Claim7.holds Tryd.pinned (.plain (OpenSpec.ofChange attackKingsSpec)) attackKingsCard

/-- THE TIED CARD OF 'kakugyolaw10.GenAll'. -/
def genAllCard : Claim7 := { stood := { row := genAllRow, standIns := [], harness := (true, "0776d4176ac7a5c1654bff58d889dde5c9cebcf1173a97d2bffd13716620d23a"), looks := false }, kinds := [], alts := [], laidByText := true, laidKinds := [.data, .data], laidTests := true, laidLooks := .later }
def GenAllCardSaid : Prop := Claim7.holds Tryd.pinned (.plain (OpenSpec.ofChange genAllSpec)) genAllCard

/-- THE TIED CARD OF 'kakugyolaw10.GenOnto'. -/
def genOntoCard : Claim7 := { stood := { row := genOntoRow, standIns := [], harness := (true, "0776d4176ac7a5c1654bff58d889dde5c9cebcf1173a97d2bffd13716620d23a"), looks := false }, kinds := [], alts := [], laidByText := true, laidKinds := [.data, .data], laidTests := true, laidLooks := .later }
def GenOntoCardSaid : Prop := Claim7.holds Tryd.pinned (.plain (OpenSpec.ofChange genOntoSpec)) genOntoCard

/-- THE TIED CARD OF 'kakugyolaw10.GenPromotes'. -/
def genPromotesCard : Claim7 := { stood := { row := genPromotesRow, standIns := [], harness := (true, "0776d4176ac7a5c1654bff58d889dde5c9cebcf1173a97d2bffd13716620d23a"), looks := false }, kinds := [], alts := [], laidByText := true, laidKinds := [.data, .data], laidTests := true, laidLooks := .later }
def GenPromotesCardSaid : Prop := Claim7.holds Tryd.pinned (.plain (OpenSpec.ofChange genPromotesSpec)) genPromotesCard

/-- THE TIED CARD OF 'kakugyolaw10.GenFree'. -/
def genFreeCard : Claim7 := { stood := { row := genFreeRow, standIns := [], harness := (true, "0776d4176ac7a5c1654bff58d889dde5c9cebcf1173a97d2bffd13716620d23a"), looks := false }, kinds := [], alts := [], laidByText := true, laidKinds := [.data, .data], laidTests := true, laidLooks := .later }
def GenFreeCardSaid : Prop := Claim7.holds Tryd.pinned (.plain (OpenSpec.ofChange genFreeSpec)) genFreeCard

/-- THE TIED CARD OF 'kakugyolaw10.GenTurns'. -/
def genTurnsCard : Claim7 := { stood := { row := genTurnsRow, standIns := [], harness := (true, "0776d4176ac7a5c1654bff58d889dde5c9cebcf1173a97d2bffd13716620d23a"), looks := false }, kinds := [], alts := [], laidByText := true, laidKinds := [.data, .data], laidTests := true, laidLooks := .later }
def GenTurnsCardSaid : Prop := Claim7.holds Tryd.pinned (.plain (OpenSpec.ofChange genTurnsSpec)) genTurnsCard

/-- THE TIED CARD OF 'kakugyolaw10.GenOnce'. -/
def genOnceCard : Claim7 := { stood := { row := genOnceRow, standIns := [], harness := (true, "0776d4176ac7a5c1654bff58d889dde5c9cebcf1173a97d2bffd13716620d23a"), looks := false }, kinds := [], alts := [], laidByText := true, laidKinds := [.data, .data], laidTests := true, laidLooks := .later }
def GenOnceCardSaid : Prop := Claim7.holds Tryd.pinned (.plain (OpenSpec.ofChange genOnceSpec)) genOnceCard

/-- THE SECOND FORM's CARD OF 'kakugyolaw08.AttackOn'. -/
def attackOnUptoCard : Claim7 := { stood := { row := attackOnUptoRow, standIns := [], harness := (true, "0776d4176ac7a5c1654bff58d889dde5c9cebcf1173a97d2bffd13716620d23a"), looks := false }, kinds := [], alts := [], laidByText := true, laidKinds := [.data], laidTests := true, laidLooks := .later }
def AttackOnUptoCardSaid : Prop := Claim7.holds Tryd.pinned (.plain (OpenSpec.upto attackOnSpec)) attackOnUptoCard

/-- THE SECOND FORM's CARD OF 'kakugyolaw08.AttackAll'. -/
def attackAllUptoCard : Claim7 := { stood := { row := attackAllUptoRow, standIns := [], harness := (true, "0776d4176ac7a5c1654bff58d889dde5c9cebcf1173a97d2bffd13716620d23a"), looks := false }, kinds := [], alts := [], laidByText := true, laidKinds := [.data], laidTests := true, laidLooks := .later }
def AttackAllUptoCardSaid : Prop := Claim7.holds Tryd.pinned (.plain (OpenSpec.upto attackAllSpec)) attackAllUptoCard

/-- THE SECOND FORM's CARD OF 'kakugyolaw08.AttackChecks'. -/
def attackChecksUptoCard : Claim7 := { stood := { row := attackChecksUptoRow, standIns := [], harness := (true, "0776d4176ac7a5c1654bff58d889dde5c9cebcf1173a97d2bffd13716620d23a"), looks := false }, kinds := [], alts := [], laidByText := true, laidKinds := [.data], laidTests := true, laidLooks := .later }
def AttackChecksUptoCardSaid : Prop := Claim7.holds Tryd.pinned (.plain (OpenSpec.upto attackChecksSpec)) attackChecksUptoCard

/-- THE SECOND FORM's CARD OF 'kakugyolaw08.AttackPins'. -/
def attackPinsUptoCard : Claim7 := { stood := { row := attackPinsUptoRow, standIns := [], harness := (true, "0776d4176ac7a5c1654bff58d889dde5c9cebcf1173a97d2bffd13716620d23a"), looks := false }, kinds := [], alts := [], laidByText := true, laidKinds := [.data], laidTests := true, laidLooks := .later }
def AttackPinsUptoCardSaid : Prop := Claim7.holds Tryd.pinned (.plain (OpenSpec.upto attackPinsSpec)) attackPinsUptoCard

/-- THE SECOND FORM's CARD OF 'kakugyolaw08.AttackMore'. -/
def attackMoreUptoCard : Claim7 := { stood := { row := attackMoreUptoRow, standIns := [], harness := (true, "0776d4176ac7a5c1654bff58d889dde5c9cebcf1173a97d2bffd13716620d23a"), looks := false }, kinds := [], alts := [], laidByText := true, laidKinds := [.data], laidTests := true, laidLooks := .later }
def AttackMoreUptoCardSaid : Prop := Claim7.holds Tryd.pinned (.plain (OpenSpec.upto attackMoreSpec)) attackMoreUptoCard

/-- THE SECOND FORM's CARD OF 'kakugyolaw08.AttackKings'. -/
def attackKingsUptoCard : Claim7 := { stood := { row := attackKingsUptoRow, standIns := [], harness := (true, "0776d4176ac7a5c1654bff58d889dde5c9cebcf1173a97d2bffd13716620d23a"), looks := false }, kinds := [], alts := [], laidByText := true, laidKinds := [.data], laidTests := true, laidLooks := .later }
def AttackKingsUptoCardSaid : Prop := Claim7.holds Tryd.pinned (.plain (OpenSpec.upto attackKingsSpec)) attackKingsUptoCard

/-- THE SECOND FORM's CARD OF 'kakugyolaw10.GenAll'. -/
def genAllUptoCard : Claim7 := { stood := { row := genAllUptoRow, standIns := [], harness := (true, "0776d4176ac7a5c1654bff58d889dde5c9cebcf1173a97d2bffd13716620d23a"), looks := false }, kinds := [], alts := [], laidByText := true, laidKinds := [.data, .data], laidTests := true, laidLooks := .later }
def GenAllUptoCardSaid : Prop := Claim7.holds Tryd.pinned (.plain (OpenSpec.upto genAllSpec)) genAllUptoCard

/-- THE SECOND FORM's CARD OF 'kakugyolaw10.GenOnto'. -/
def genOntoUptoCard : Claim7 := { stood := { row := genOntoUptoRow, standIns := [], harness := (true, "0776d4176ac7a5c1654bff58d889dde5c9cebcf1173a97d2bffd13716620d23a"), looks := false }, kinds := [], alts := [], laidByText := true, laidKinds := [.data, .data], laidTests := true, laidLooks := .later }
def GenOntoUptoCardSaid : Prop := Claim7.holds Tryd.pinned (.plain (OpenSpec.upto genOntoSpec)) genOntoUptoCard

/-- THE SECOND FORM's CARD OF 'kakugyolaw10.GenPromotes'. -/
def genPromotesUptoCard : Claim7 := { stood := { row := genPromotesUptoRow, standIns := [], harness := (true, "0776d4176ac7a5c1654bff58d889dde5c9cebcf1173a97d2bffd13716620d23a"), looks := false }, kinds := [], alts := [], laidByText := true, laidKinds := [.data, .data], laidTests := true, laidLooks := .later }
def GenPromotesUptoCardSaid : Prop := Claim7.holds Tryd.pinned (.plain (OpenSpec.upto genPromotesSpec)) genPromotesUptoCard

/-- THE SECOND FORM's CARD OF 'kakugyolaw10.GenFree'. -/
def genFreeUptoCard : Claim7 := { stood := { row := genFreeUptoRow, standIns := [], harness := (true, "0776d4176ac7a5c1654bff58d889dde5c9cebcf1173a97d2bffd13716620d23a"), looks := false }, kinds := [], alts := [], laidByText := true, laidKinds := [.data, .data], laidTests := true, laidLooks := .later }
def GenFreeUptoCardSaid : Prop := Claim7.holds Tryd.pinned (.plain (OpenSpec.upto genFreeSpec)) genFreeUptoCard

/-- THE SECOND FORM's CARD OF 'kakugyolaw10.GenTurns'. -/
def genTurnsUptoCard : Claim7 := { stood := { row := genTurnsUptoRow, standIns := [], harness := (true, "0776d4176ac7a5c1654bff58d889dde5c9cebcf1173a97d2bffd13716620d23a"), looks := false }, kinds := [], alts := [], laidByText := true, laidKinds := [.data, .data], laidTests := true, laidLooks := .later }
def GenTurnsUptoCardSaid : Prop := Claim7.holds Tryd.pinned (.plain (OpenSpec.upto genTurnsSpec)) genTurnsUptoCard

/-- THE SECOND FORM's CARD OF 'kakugyolaw10.GenOnce'. -/
def genOnceUptoCard : Claim7 := { stood := { row := genOnceUptoRow, standIns := [], harness := (true, "0776d4176ac7a5c1654bff58d889dde5c9cebcf1173a97d2bffd13716620d23a"), looks := false }, kinds := [], alts := [], laidByText := true, laidKinds := [.data, .data], laidTests := true, laidLooks := .later }
def GenOnceUptoCardSaid : Prop := Claim7.holds Tryd.pinned (.plain (OpenSpec.upto genOnceSpec)) genOnceUptoCard
end Rows
end Go.Proofs.YtilhicohfnaclaaDoor
