/-
  DERIVED. GIVEN WITH THE SEED: THE CARDS: each row of YthihnpjbdjmbhaaGreatDoorRows.lean that lists a variable, with what it lists TIED to the program's text (the seventh form; the later family's looks); each row that meets fmt, with fmt's text TOLD by the authors' own Lean function (tested against real Go, not proved from fmt's source: count such statements apart). THE CARD IS WHAT COUNTS. Prove the row's statement (the work); the ties are given (YthihnpjbdjmbhaaGreatDoorTie.lean); close each card by the builder's one call (the guide's Derived/Test/ToyasCard.lean, 'card_holds'). Laid BY PROGRAM, IN A SANDBOX (cutbox-door.mjs). By AI agents, Wed Nov 11 2026. No macro, syntax, notation, axiom, sorry.
-/
import Derived.Test.YthihnpjbdjmbhaaGreatDoorRows
import GoSem.ClaimSeven
namespace Go.Proofs.YthihnpjbdjmbhaaGreatDoor
namespace Rows

/-- THE TIED CARD OF 'transhumancelaw3.SpanParses'. -/
def spanParsesCard : Claim7 := { stood := { row := spanParsesRow, standIns := [], harness := (true, "e94cbba7f2a4c67829d7b7c53be3868462d30910eaeafc5397eaf3e381432f12"), looks := true }, kinds := [], alts := [], laidByText := true, laidKinds := [.data, .data, .data, .data, .sentinel, .sentinel, .pinned], laidTests := true, laidLooks := .later }
def SpanParsesCardSaid : Prop := Claim7.holds Tryz.pinned (.plain (OpenSpec.ofChange spanParsesSpec)) spanParsesCard

/-- THE SECOND FORM's CARD OF 'transhumancelaw3.SpanParses'. -/
def spanParsesUptoCard : Claim7 := { stood := { row := spanParsesUptoRow, standIns := [], harness := (true, "e94cbba7f2a4c67829d7b7c53be3868462d30910eaeafc5397eaf3e381432f12"), looks := true }, kinds := [], alts := [], laidByText := true, laidKinds := [.data, .data, .data, .data, .sentinel, .sentinel, .pinned], laidTests := true, laidLooks := .later }
def SpanParsesUptoCardSaid : Prop := Claim7.holds Tryz.pinned (.plain (OpenSpec.upto spanParsesSpec)) spanParsesUptoCard
end Rows
end Go.Proofs.YthihnpjbdjmbhaaGreatDoor
