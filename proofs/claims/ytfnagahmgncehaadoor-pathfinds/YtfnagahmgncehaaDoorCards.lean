/-
  DERIVED. GIVEN WITH THE SEED: THE CARDS: each row of YtfnagahmgncehaaDoorRows.lean that lists a variable, with what it lists TIED to the program's text (the seventh form; the later family's looks); each row that meets fmt, with fmt's text TOLD by the authors' own Lean function (tested against real Go, not proved from fmt's source: count such statements apart). THE CARD IS WHAT COUNTS. Prove the row's statement (the work); the ties are given (YtfnagahmgncehaaDoorTie.lean); close each card by the builder's one call (the guide's Derived/Test/ToyasCard.lean, 'card_holds'). Laid BY PROGRAM, IN A SANDBOX (cutbox-door.mjs). By AI agents, Wed Nov 11 2026. No macro, syntax, notation, axiom, sorry.
-/
import Derived.Test.YtfnagahmgncehaaDoorRows
import GoSem.ClaimSeven
namespace Go.Proofs.YtfnagahmgncehaaDoor
namespace Rows

/-- THE TIED CARD OF 'transhumancelaw4.PathRight'. -/
def pathRightCard : Claim7 := { stood := { row := pathRightRow, standIns := [], harness := (true, "81571cb40c152cfb75b7e635279a151c6f533243adcf10fd896ba9c96deba99c"), looks := true }, kinds := [], alts := [], laidByText := true, laidKinds := [.data, .data, .data, .sentinel, .sentinel], laidTests := true, laidLooks := .later }
def PathRightCardSaid : Prop := Claim7.holds Tryd.pinned (.plain (OpenSpec.ofChange pathRightSpec)) pathRightCard

/-- THE TIED CARD OF 'transhumancelaw4.PathMajors'. -/
def pathMajorsCard : Claim7 := { stood := { row := pathMajorsRow, standIns := [], harness := (true, "81571cb40c152cfb75b7e635279a151c6f533243adcf10fd896ba9c96deba99c"), looks := true }, kinds := [], alts := [], laidByText := true, laidKinds := [.data, .data, .data, .sentinel, .sentinel], laidTests := true, laidLooks := .later }
def PathMajorsCardSaid : Prop := Claim7.holds Tryd.pinned (.plain (OpenSpec.ofChange pathMajorsSpec)) pathMajorsCard

/-- THE TIED CARD OF 'transhumancelaw4.PathFits'. -/
def pathFitsCard : Claim7 := { stood := { row := pathFitsRow, standIns := [], harness := (true, "81571cb40c152cfb75b7e635279a151c6f533243adcf10fd896ba9c96deba99c"), looks := true }, kinds := [], alts := [], laidByText := true, laidKinds := [.data, .data, .data, .sentinel, .sentinel], laidTests := true, laidLooks := .later }
def PathFitsCardSaid : Prop := Claim7.holds Tryd.pinned (.plain (OpenSpec.ofChange pathFitsSpec)) pathFitsCard

/-- THE TIED CARD OF 'transhumancelaw4.PathWithin'. -/
def pathWithinCard : Claim7 := { stood := { row := pathWithinRow, standIns := [], harness := (true, "81571cb40c152cfb75b7e635279a151c6f533243adcf10fd896ba9c96deba99c"), looks := true }, kinds := [], alts := [], laidByText := true, laidKinds := [.data, .data, .data, .sentinel, .sentinel], laidTests := true, laidLooks := .later }
def PathWithinCardSaid : Prop := Claim7.holds Tryd.pinned (.plain (OpenSpec.ofChange pathWithinSpec)) pathWithinCard

/-- THE TIED CARD OF 'transhumancelaw4.PathFinds'. -/
def pathFindsCard : Claim7 := { stood := { row := pathFindsRow, standIns := [], harness := (true, "81571cb40c152cfb75b7e635279a151c6f533243adcf10fd896ba9c96deba99c"), looks := true }, kinds := [], alts := [], laidByText := true, laidKinds := [.data, .data, .data, .sentinel, .sentinel], laidTests := true, laidLooks := .later }
def PathFindsCardSaid : Prop := Claim7.holds Tryd.pinned (.plain (OpenSpec.ofChange pathFindsSpec)) pathFindsCard

/-- THE TIED CARD OF 'transhumancelaw4.PathKnown'. -/
def pathKnownCard : Claim7 := { stood := { row := pathKnownRow, standIns := [], harness := (true, "81571cb40c152cfb75b7e635279a151c6f533243adcf10fd896ba9c96deba99c"), looks := true }, kinds := [], alts := [], laidByText := true, laidKinds := [.data, .data, .data, .sentinel, .sentinel], laidTests := true, laidLooks := .later }
def PathKnownCardSaid : Prop := Claim7.holds Tryd.pinned (.plain (OpenSpec.ofChange pathKnownSpec)) pathKnownCard

/-- THE TIED CARD OF 'transhumancelaw4.PathLong'. -/
def pathLongCard : Claim7 := { stood := { row := pathLongRow, standIns := [], harness := (true, "81571cb40c152cfb75b7e635279a151c6f533243adcf10fd896ba9c96deba99c"), looks := true }, kinds := [], alts := [], laidByText := true, laidKinds := [.data, .data, .data, .sentinel, .sentinel], laidTests := true, laidLooks := .later }
def PathLongCardSaid : Prop := Claim7.holds Tryd.pinned (.plain (OpenSpec.ofChange pathLongSpec)) pathLongCard

/-- THE TIED CARD OF 'transhumancelaw4.PathOrder'. -/
def pathOrderCard : Claim7 := { stood := { row := pathOrderRow, standIns := [], harness := (true, "81571cb40c152cfb75b7e635279a151c6f533243adcf10fd896ba9c96deba99c"), looks := true }, kinds := [], alts := [], laidByText := true, laidKinds := [.data, .data, .data, .sentinel, .sentinel], laidTests := true, laidLooks := .later }
def PathOrderCardSaid : Prop := Claim7.holds Tryd.pinned (.plain (OpenSpec.ofChange pathOrderSpec)) pathOrderCard

/-- THE TIED CARD OF 'transhumancelaw4.PathMore'. -/
def pathMoreCard : Claim7 := { stood := { row := pathMoreRow, standIns := [], harness := (true, "81571cb40c152cfb75b7e635279a151c6f533243adcf10fd896ba9c96deba99c"), looks := true }, kinds := [], alts := [], laidByText := true, laidKinds := [.data, .data, .data, .sentinel, .sentinel], laidTests := true, laidLooks := .later }
def PathMoreCardSaid : Prop := Claim7.holds Tryd.pinned (.plain (OpenSpec.ofChange pathMoreSpec)) pathMoreCard

/-- THE SECOND FORM's CARD OF 'transhumancelaw4.PathRight'. -/
def pathRightUptoCard : Claim7 := { stood := { row := pathRightUptoRow, standIns := [], harness := (true, "81571cb40c152cfb75b7e635279a151c6f533243adcf10fd896ba9c96deba99c"), looks := true }, kinds := [], alts := [], laidByText := true, laidKinds := [.data, .data, .data, .sentinel, .sentinel], laidTests := true, laidLooks := .later }
def PathRightUptoCardSaid : Prop := Claim7.holds Tryd.pinned (.plain (OpenSpec.upto pathRightSpec)) pathRightUptoCard

/-- THE SECOND FORM's CARD OF 'transhumancelaw4.PathMajors'. -/
def pathMajorsUptoCard : Claim7 := { stood := { row := pathMajorsUptoRow, standIns := [], harness := (true, "81571cb40c152cfb75b7e635279a151c6f533243adcf10fd896ba9c96deba99c"), looks := true }, kinds := [], alts := [], laidByText := true, laidKinds := [.data, .data, .data, .sentinel, .sentinel], laidTests := true, laidLooks := .later }
def PathMajorsUptoCardSaid : Prop := Claim7.holds Tryd.pinned (.plain (OpenSpec.upto pathMajorsSpec)) pathMajorsUptoCard

/-- THE SECOND FORM's CARD OF 'transhumancelaw4.PathFits'. -/
def pathFitsUptoCard : Claim7 := { stood := { row := pathFitsUptoRow, standIns := [], harness := (true, "81571cb40c152cfb75b7e635279a151c6f533243adcf10fd896ba9c96deba99c"), looks := true }, kinds := [], alts := [], laidByText := true, laidKinds := [.data, .data, .data, .sentinel, .sentinel], laidTests := true, laidLooks := .later }
def PathFitsUptoCardSaid : Prop := Claim7.holds Tryd.pinned (.plain (OpenSpec.upto pathFitsSpec)) pathFitsUptoCard

/-- THE SECOND FORM's CARD OF 'transhumancelaw4.PathWithin'. -/
def pathWithinUptoCard : Claim7 := { stood := { row := pathWithinUptoRow, standIns := [], harness := (true, "81571cb40c152cfb75b7e635279a151c6f533243adcf10fd896ba9c96deba99c"), looks := true }, kinds := [], alts := [], laidByText := true, laidKinds := [.data, .data, .data, .sentinel, .sentinel], laidTests := true, laidLooks := .later }
def PathWithinUptoCardSaid : Prop := Claim7.holds Tryd.pinned (.plain (OpenSpec.upto pathWithinSpec)) pathWithinUptoCard

/-- THE SECOND FORM's CARD OF 'transhumancelaw4.PathFinds'. -/
def pathFindsUptoCard : Claim7 := { stood := { row := pathFindsUptoRow, standIns := [], harness := (true, "81571cb40c152cfb75b7e635279a151c6f533243adcf10fd896ba9c96deba99c"), looks := true }, kinds := [], alts := [], laidByText := true, laidKinds := [.data, .data, .data, .sentinel, .sentinel], laidTests := true, laidLooks := .later }
def PathFindsUptoCardSaid : Prop := Claim7.holds Tryd.pinned (.plain (OpenSpec.upto pathFindsSpec)) pathFindsUptoCard

/-- THE SECOND FORM's CARD OF 'transhumancelaw4.PathKnown'. -/
def pathKnownUptoCard : Claim7 := { stood := { row := pathKnownUptoRow, standIns := [], harness := (true, "81571cb40c152cfb75b7e635279a151c6f533243adcf10fd896ba9c96deba99c"), looks := true }, kinds := [], alts := [], laidByText := true, laidKinds := [.data, .data, .data, .sentinel, .sentinel], laidTests := true, laidLooks := .later }
def PathKnownUptoCardSaid : Prop := Claim7.holds Tryd.pinned (.plain (OpenSpec.upto pathKnownSpec)) pathKnownUptoCard

/-- THE SECOND FORM's CARD OF 'transhumancelaw4.PathLong'. -/
def pathLongUptoCard : Claim7 := { stood := { row := pathLongUptoRow, standIns := [], harness := (true, "81571cb40c152cfb75b7e635279a151c6f533243adcf10fd896ba9c96deba99c"), looks := true }, kinds := [], alts := [], laidByText := true, laidKinds := [.data, .data, .data, .sentinel, .sentinel], laidTests := true, laidLooks := .later }
def PathLongUptoCardSaid : Prop := Claim7.holds Tryd.pinned (.plain (OpenSpec.upto pathLongSpec)) pathLongUptoCard

/-- THE SECOND FORM's CARD OF 'transhumancelaw4.PathOrder'. -/
def pathOrderUptoCard : Claim7 := { stood := { row := pathOrderUptoRow, standIns := [], harness := (true, "81571cb40c152cfb75b7e635279a151c6f533243adcf10fd896ba9c96deba99c"), looks := true }, kinds := [], alts := [], laidByText := true, laidKinds := [.data, .data, .data, .sentinel, .sentinel], laidTests := true, laidLooks := .later }
def PathOrderUptoCardSaid : Prop := Claim7.holds Tryd.pinned (.plain (OpenSpec.upto pathOrderSpec)) pathOrderUptoCard

/-- THE SECOND FORM's CARD OF 'transhumancelaw4.PathMore'. -/
def pathMoreUptoCard : Claim7 := { stood := { row := pathMoreUptoRow, standIns := [], harness := (true, "81571cb40c152cfb75b7e635279a151c6f533243adcf10fd896ba9c96deba99c"), looks := true }, kinds := [], alts := [], laidByText := true, laidKinds := [.data, .data, .data, .sentinel, .sentinel], laidTests := true, laidLooks := .later }
def PathMoreUptoCardSaid : Prop := Claim7.holds Tryd.pinned (.plain (OpenSpec.upto pathMoreSpec)) pathMoreUptoCard
end Rows
end Go.Proofs.YtfnagahmgncehaaDoor
