/-
  DERIVED. GIVEN WITH THE SEED: THE CARDS: each row of YtiicikieemfcmaaGreatDoorRows.lean that lists a variable, with what it lists TIED to the program's text (the seventh form; the later family's looks); each row that meets fmt, with fmt's text TOLD by the authors' own Lean function (tested against real Go, not proved from fmt's source: count such statements apart). THE CARD IS WHAT COUNTS. Prove the row's statement (the work); the ties are given (YtiicikieemfcmaaGreatDoorTie.lean); close each card by the builder's one call (the guide's Derived/Test/ToyasCard.lean, 'card_holds'). Laid BY PROGRAM, IN A SANDBOX (cutbox-door.mjs). By AI agents, Wed Nov 11 2026. No macro, syntax, notation, axiom, sorry.
-/
import Derived.Test.YtiicikieemfcmaaGreatDoorRows
import GoSem.ClaimSeven
namespace Go.Proofs.YtiicikieemfcmaaGreatDoor
namespace Rows

/-- THE TIED CARD OF 'transhumancelaw2.VerBack'. -/
def verBackCard : Claim7 := { stood := { row := verBackRow, standIns := [], harness := (true, "82ef1164e4aff530b7279ad5844f63b641a744c4a24871b0c25e304683647955"), looks := true }, kinds := [], alts := [], laidByText := true, laidKinds := [.data, .data, .data, .data, .sentinel, .sentinel, .pinned], laidTests := true, laidLooks := .later }
def VerBackCardSaid : Prop := Claim7.holds Tryz.pinned (.plain (OpenSpec.ofChange verBackSpec)) verBackCard

/-- THE TIED CARD OF 'transhumancelaw2.VerReads'. -/
def verReadsCard : Claim7 := { stood := { row := verReadsRow, standIns := [], harness := (true, "82ef1164e4aff530b7279ad5844f63b641a744c4a24871b0c25e304683647955"), looks := true }, kinds := [], alts := [], laidByText := true, laidKinds := [.data, .data, .data, .data, .sentinel, .sentinel, .pinned], laidTests := true, laidLooks := .later }
def VerReadsCardSaid : Prop := Claim7.holds Tryz.pinned (.plain (OpenSpec.ofChange verReadsSpec)) verReadsCard

/-- THE TIED CARD OF 'transhumancelaw2.VerRight'. -/
def verRightCard : Claim7 := { stood := { row := verRightRow, standIns := [], harness := (true, "82ef1164e4aff530b7279ad5844f63b641a744c4a24871b0c25e304683647955"), looks := true }, kinds := [], alts := [], laidByText := true, laidKinds := [.data, .data, .data, .data, .sentinel, .sentinel, .pinned], laidTests := true, laidLooks := .later }
def VerRightCardSaid : Prop := Claim7.holds Tryz.pinned (.plain (OpenSpec.ofChange verRightSpec)) verRightCard

/-- THE TIED CARD OF 'transhumancelaw2.VerOrder'. -/
def verOrderCard : Claim7 := { stood := { row := verOrderRow, standIns := [], harness := (true, "82ef1164e4aff530b7279ad5844f63b641a744c4a24871b0c25e304683647955"), looks := true }, kinds := [], alts := [], laidByText := true, laidKinds := [.data, .data, .data, .data, .sentinel, .sentinel, .pinned], laidTests := true, laidLooks := .later }
def VerOrderCardSaid : Prop := Claim7.holds Tryz.pinned (.plain (OpenSpec.ofChange verOrderSpec)) verOrderCard

/-- THE TIED CARD OF 'transhumancelaw2.VerMax'. -/
def verMaxCard : Claim7 := { stood := { row := verMaxRow, standIns := [], harness := (true, "82ef1164e4aff530b7279ad5844f63b641a744c4a24871b0c25e304683647955"), looks := true }, kinds := [], alts := [], laidByText := true, laidKinds := [.data, .data, .data, .data, .sentinel, .sentinel, .pinned], laidTests := true, laidLooks := .later }
def VerMaxCardSaid : Prop := Claim7.holds Tryz.pinned (.plain (OpenSpec.ofChange verMaxSpec)) verMaxCard

/-- THE TIED CARD OF 'transhumancelaw2.VerPseudos'. -/
def verPseudosCard : Claim7 := { stood := { row := verPseudosRow, standIns := [], harness := (true, "82ef1164e4aff530b7279ad5844f63b641a744c4a24871b0c25e304683647955"), looks := true }, kinds := [], alts := [], laidByText := true, laidKinds := [.data, .data, .data, .data, .sentinel, .sentinel, .pinned], laidTests := true, laidLooks := .later }
def VerPseudosCardSaid : Prop := Claim7.holds Tryz.pinned (.plain (OpenSpec.ofChange verPseudosSpec)) verPseudosCard

/-- THE TIED CARD OF 'transhumancelaw2.VerBehind'. -/
def verBehindCard : Claim7 := { stood := { row := verBehindRow, standIns := [], harness := (true, "82ef1164e4aff530b7279ad5844f63b641a744c4a24871b0c25e304683647955"), looks := true }, kinds := [], alts := [], laidByText := true, laidKinds := [.data, .data, .data, .data, .sentinel, .sentinel, .pinned], laidTests := true, laidLooks := .later }
def VerBehindCardSaid : Prop := Claim7.holds Tryz.pinned (.plain (OpenSpec.ofChange verBehindSpec)) verBehindCard

/-- THE TIED CARD OF 'transhumancelaw2.VerKnown'. -/
def verKnownCard : Claim7 := { stood := { row := verKnownRow, standIns := [], harness := (true, "82ef1164e4aff530b7279ad5844f63b641a744c4a24871b0c25e304683647955"), looks := true }, kinds := [], alts := [], laidByText := true, laidKinds := [.data, .data, .data, .data, .sentinel, .sentinel, .pinned], laidTests := true, laidLooks := .later }
def VerKnownCardSaid : Prop := Claim7.holds Tryz.pinned (.plain (OpenSpec.ofChange verKnownSpec)) verKnownCard

/-- THE TIED CARD OF 'transhumancelaw2.VerNumbers'. -/
def verNumbersCard : Claim7 := { stood := { row := verNumbersRow, standIns := [], harness := (true, "82ef1164e4aff530b7279ad5844f63b641a744c4a24871b0c25e304683647955"), looks := true }, kinds := [], alts := [], laidByText := true, laidKinds := [.data, .data, .data, .data, .sentinel, .sentinel, .pinned], laidTests := true, laidLooks := .later }
def VerNumbersCardSaid : Prop := Claim7.holds Tryz.pinned (.plain (OpenSpec.ofChange verNumbersSpec)) verNumbersCard

/-- THE TIED CARD OF 'transhumancelaw2.VerLonger'. -/
def verLongerCard : Claim7 := { stood := { row := verLongerRow, standIns := [], harness := (true, "82ef1164e4aff530b7279ad5844f63b641a744c4a24871b0c25e304683647955"), looks := true }, kinds := [], alts := [], laidByText := true, laidKinds := [.data, .data, .data, .data, .sentinel, .sentinel, .pinned], laidTests := true, laidLooks := .later }
def VerLongerCardSaid : Prop := Claim7.holds Tryz.pinned (.plain (OpenSpec.ofChange verLongerSpec)) verLongerCard

/-- THE TIED CARD OF 'transhumancelaw2.VerParts'. -/
def verPartsCard : Claim7 := { stood := { row := verPartsRow, standIns := [], harness := (true, "82ef1164e4aff530b7279ad5844f63b641a744c4a24871b0c25e304683647955"), looks := true }, kinds := [], alts := [], laidByText := true, laidKinds := [.data, .data, .data, .data, .sentinel, .sentinel, .pinned], laidTests := true, laidLooks := .later }
def VerPartsCardSaid : Prop := Claim7.holds Tryz.pinned (.plain (OpenSpec.ofChange verPartsSpec)) verPartsCard

/-- THE TIED CARD OF 'transhumancelaw2.VerMaxes'. -/
def verMaxesCard : Claim7 := { stood := { row := verMaxesRow, standIns := [], harness := (true, "82ef1164e4aff530b7279ad5844f63b641a744c4a24871b0c25e304683647955"), looks := true }, kinds := [], alts := [], laidByText := true, laidKinds := [.data, .data, .data, .data, .sentinel, .sentinel, .pinned], laidTests := true, laidLooks := .later }
def VerMaxesCardSaid : Prop := Claim7.holds Tryz.pinned (.plain (OpenSpec.ofChange verMaxesSpec)) verMaxesCard

/-- THE TIED CARD OF 'transhumancelaw2.VerTimes'. -/
def verTimesCard : Claim7 := { stood := { row := verTimesRow, standIns := [], harness := (true, "82ef1164e4aff530b7279ad5844f63b641a744c4a24871b0c25e304683647955"), looks := true }, kinds := [], alts := [], laidByText := true, laidKinds := [.data, .data, .data, .data, .sentinel, .sentinel, .pinned], laidTests := true, laidLooks := .later }
def VerTimesCardSaid : Prop := Claim7.holds Tryz.pinned (.plain (OpenSpec.ofChange verTimesSpec)) verTimesCard

/-- THE SECOND FORM's CARD OF 'transhumancelaw2.VerBack'. -/
def verBackUptoCard : Claim7 := { stood := { row := verBackUptoRow, standIns := [], harness := (true, "82ef1164e4aff530b7279ad5844f63b641a744c4a24871b0c25e304683647955"), looks := true }, kinds := [], alts := [], laidByText := true, laidKinds := [.data, .data, .data, .data, .sentinel, .sentinel, .pinned], laidTests := true, laidLooks := .later }
def VerBackUptoCardSaid : Prop := Claim7.holds Tryz.pinned (.plain (OpenSpec.upto verBackSpec)) verBackUptoCard

/-- THE SECOND FORM's CARD OF 'transhumancelaw2.VerReads'. -/
def verReadsUptoCard : Claim7 := { stood := { row := verReadsUptoRow, standIns := [], harness := (true, "82ef1164e4aff530b7279ad5844f63b641a744c4a24871b0c25e304683647955"), looks := true }, kinds := [], alts := [], laidByText := true, laidKinds := [.data, .data, .data, .data, .sentinel, .sentinel, .pinned], laidTests := true, laidLooks := .later }
def VerReadsUptoCardSaid : Prop := Claim7.holds Tryz.pinned (.plain (OpenSpec.upto verReadsSpec)) verReadsUptoCard

/-- THE SECOND FORM's CARD OF 'transhumancelaw2.VerRight'. -/
def verRightUptoCard : Claim7 := { stood := { row := verRightUptoRow, standIns := [], harness := (true, "82ef1164e4aff530b7279ad5844f63b641a744c4a24871b0c25e304683647955"), looks := true }, kinds := [], alts := [], laidByText := true, laidKinds := [.data, .data, .data, .data, .sentinel, .sentinel, .pinned], laidTests := true, laidLooks := .later }
def VerRightUptoCardSaid : Prop := Claim7.holds Tryz.pinned (.plain (OpenSpec.upto verRightSpec)) verRightUptoCard

/-- THE SECOND FORM's CARD OF 'transhumancelaw2.VerOrder'. -/
def verOrderUptoCard : Claim7 := { stood := { row := verOrderUptoRow, standIns := [], harness := (true, "82ef1164e4aff530b7279ad5844f63b641a744c4a24871b0c25e304683647955"), looks := true }, kinds := [], alts := [], laidByText := true, laidKinds := [.data, .data, .data, .data, .sentinel, .sentinel, .pinned], laidTests := true, laidLooks := .later }
def VerOrderUptoCardSaid : Prop := Claim7.holds Tryz.pinned (.plain (OpenSpec.upto verOrderSpec)) verOrderUptoCard

/-- THE SECOND FORM's CARD OF 'transhumancelaw2.VerMax'. -/
def verMaxUptoCard : Claim7 := { stood := { row := verMaxUptoRow, standIns := [], harness := (true, "82ef1164e4aff530b7279ad5844f63b641a744c4a24871b0c25e304683647955"), looks := true }, kinds := [], alts := [], laidByText := true, laidKinds := [.data, .data, .data, .data, .sentinel, .sentinel, .pinned], laidTests := true, laidLooks := .later }
def VerMaxUptoCardSaid : Prop := Claim7.holds Tryz.pinned (.plain (OpenSpec.upto verMaxSpec)) verMaxUptoCard

/-- THE SECOND FORM's CARD OF 'transhumancelaw2.VerPseudos'. -/
def verPseudosUptoCard : Claim7 := { stood := { row := verPseudosUptoRow, standIns := [], harness := (true, "82ef1164e4aff530b7279ad5844f63b641a744c4a24871b0c25e304683647955"), looks := true }, kinds := [], alts := [], laidByText := true, laidKinds := [.data, .data, .data, .data, .sentinel, .sentinel, .pinned], laidTests := true, laidLooks := .later }
def VerPseudosUptoCardSaid : Prop := Claim7.holds Tryz.pinned (.plain (OpenSpec.upto verPseudosSpec)) verPseudosUptoCard

/-- THE SECOND FORM's CARD OF 'transhumancelaw2.VerBehind'. -/
def verBehindUptoCard : Claim7 := { stood := { row := verBehindUptoRow, standIns := [], harness := (true, "82ef1164e4aff530b7279ad5844f63b641a744c4a24871b0c25e304683647955"), looks := true }, kinds := [], alts := [], laidByText := true, laidKinds := [.data, .data, .data, .data, .sentinel, .sentinel, .pinned], laidTests := true, laidLooks := .later }
def VerBehindUptoCardSaid : Prop := Claim7.holds Tryz.pinned (.plain (OpenSpec.upto verBehindSpec)) verBehindUptoCard

/-- THE SECOND FORM's CARD OF 'transhumancelaw2.VerKnown'. -/
def verKnownUptoCard : Claim7 := { stood := { row := verKnownUptoRow, standIns := [], harness := (true, "82ef1164e4aff530b7279ad5844f63b641a744c4a24871b0c25e304683647955"), looks := true }, kinds := [], alts := [], laidByText := true, laidKinds := [.data, .data, .data, .data, .sentinel, .sentinel, .pinned], laidTests := true, laidLooks := .later }
def VerKnownUptoCardSaid : Prop := Claim7.holds Tryz.pinned (.plain (OpenSpec.upto verKnownSpec)) verKnownUptoCard

/-- THE SECOND FORM's CARD OF 'transhumancelaw2.VerNumbers'. -/
def verNumbersUptoCard : Claim7 := { stood := { row := verNumbersUptoRow, standIns := [], harness := (true, "82ef1164e4aff530b7279ad5844f63b641a744c4a24871b0c25e304683647955"), looks := true }, kinds := [], alts := [], laidByText := true, laidKinds := [.data, .data, .data, .data, .sentinel, .sentinel, .pinned], laidTests := true, laidLooks := .later }
def VerNumbersUptoCardSaid : Prop := Claim7.holds Tryz.pinned (.plain (OpenSpec.upto verNumbersSpec)) verNumbersUptoCard

/-- THE SECOND FORM's CARD OF 'transhumancelaw2.VerLonger'. -/
def verLongerUptoCard : Claim7 := { stood := { row := verLongerUptoRow, standIns := [], harness := (true, "82ef1164e4aff530b7279ad5844f63b641a744c4a24871b0c25e304683647955"), looks := true }, kinds := [], alts := [], laidByText := true, laidKinds := [.data, .data, .data, .data, .sentinel, .sentinel, .pinned], laidTests := true, laidLooks := .later }
def VerLongerUptoCardSaid : Prop := Claim7.holds Tryz.pinned (.plain (OpenSpec.upto verLongerSpec)) verLongerUptoCard

/-- THE SECOND FORM's CARD OF 'transhumancelaw2.VerParts'. -/
def verPartsUptoCard : Claim7 := { stood := { row := verPartsUptoRow, standIns := [], harness := (true, "82ef1164e4aff530b7279ad5844f63b641a744c4a24871b0c25e304683647955"), looks := true }, kinds := [], alts := [], laidByText := true, laidKinds := [.data, .data, .data, .data, .sentinel, .sentinel, .pinned], laidTests := true, laidLooks := .later }
def VerPartsUptoCardSaid : Prop := Claim7.holds Tryz.pinned (.plain (OpenSpec.upto verPartsSpec)) verPartsUptoCard

/-- THE SECOND FORM's CARD OF 'transhumancelaw2.VerMaxes'. -/
def verMaxesUptoCard : Claim7 := { stood := { row := verMaxesUptoRow, standIns := [], harness := (true, "82ef1164e4aff530b7279ad5844f63b641a744c4a24871b0c25e304683647955"), looks := true }, kinds := [], alts := [], laidByText := true, laidKinds := [.data, .data, .data, .data, .sentinel, .sentinel, .pinned], laidTests := true, laidLooks := .later }
def VerMaxesUptoCardSaid : Prop := Claim7.holds Tryz.pinned (.plain (OpenSpec.upto verMaxesSpec)) verMaxesUptoCard

/-- THE SECOND FORM's CARD OF 'transhumancelaw2.VerTimes'. -/
def verTimesUptoCard : Claim7 := { stood := { row := verTimesUptoRow, standIns := [], harness := (true, "82ef1164e4aff530b7279ad5844f63b641a744c4a24871b0c25e304683647955"), looks := true }, kinds := [], alts := [], laidByText := true, laidKinds := [.data, .data, .data, .data, .sentinel, .sentinel, .pinned], laidTests := true, laidLooks := .later }
def VerTimesUptoCardSaid : Prop := Claim7.holds Tryz.pinned (.plain (OpenSpec.upto verTimesSpec)) verTimesUptoCard
end Rows
end Go.Proofs.YtiicikieemfcmaaGreatDoor
