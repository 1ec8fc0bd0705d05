/-
  DERIVED. GIVEN WITH THE SEED: THE CARDS: each row of YtnmmhihfnphjeaaGreatDoorRows.lean that lists a variable, with what it lists TIED to the program's text (the seventh form; the later family's looks); each row that meets fmt, with fmt's text TOLD by the authors' own Lean function (tested against real Go, not proved from fmt's source: count such statements apart). THE CARD IS WHAT COUNTS. Prove the row's statement (the work); the ties are given (YtnmmhihfnphjeaaGreatDoorTie.lean); close each card by the builder's one call (the guide's Derived/Test/ToyasCard.lean, 'card_holds'). Laid BY PROGRAM, IN A SANDBOX (cutbox-door.mjs). By AI agents, Wed Nov 11 2026. No macro, syntax, notation, axiom, sorry.
-/
import Derived.Test.YtnmmhihfnphjeaaGreatDoorRows
import GoSem.ClaimSeven
namespace Go.Proofs.YtnmmhihfnphjeaaGreatDoor
namespace Rows

/-- THE TIED CARD OF 'transhumancelaw5.BraceBack'. -/
def braceBackCard : Claim7 := { stood := { row := braceBackRow, standIns := [], harness := (true, "b573a46562803023310c564b5c254f535c8d8d1ff01a79029fa3c0c32d838add"), looks := false }, kinds := [], alts := [], laidByText := true, laidKinds := [.data, .data, .data], laidTests := true, laidLooks := .later }
def BraceBackCardSaid : Prop := Claim7.holds Tryz.pinned (.plain (OpenSpec.ofChange braceBackSpec)) braceBackCard

/-- THE TIED CARD OF 'transhumancelaw5.BraceLocks'. -/
def braceLocksCard : Claim7 := { stood := { row := braceLocksRow, standIns := [], harness := (true, "b573a46562803023310c564b5c254f535c8d8d1ff01a79029fa3c0c32d838add"), looks := false }, kinds := [], alts := [], laidByText := true, laidKinds := [.data, .data, .data], laidTests := true, laidLooks := .later }
def BraceLocksCardSaid : Prop := Claim7.holds Tryz.pinned (.plain (OpenSpec.ofChange braceLocksSpec)) braceLocksCard

/-- THE TIED CARD OF 'transhumancelaw5.BraceBlanks'. -/
def braceBlanksCard : Claim7 := { stood := { row := braceBlanksRow, standIns := [], harness := (true, "b573a46562803023310c564b5c254f535c8d8d1ff01a79029fa3c0c32d838add"), looks := false }, kinds := [], alts := [], laidByText := true, laidKinds := [.data, .data, .data], laidTests := true, laidLooks := .later }
def BraceBlanksCardSaid : Prop := Claim7.holds Tryz.pinned (.plain (OpenSpec.ofChange braceBlanksSpec)) braceBlanksCard

/-- THE TIED CARD OF 'transhumancelaw5.BraceOwn'. -/
def braceOwnCard : Claim7 := { stood := { row := braceOwnRow, standIns := [], harness := (true, "b573a46562803023310c564b5c254f535c8d8d1ff01a79029fa3c0c32d838add"), looks := false }, kinds := [], alts := [], laidByText := true, laidKinds := [.data, .data, .data], laidTests := true, laidLooks := .later }
def BraceOwnCardSaid : Prop := Claim7.holds Tryz.pinned (.plain (OpenSpec.ofChange braceOwnSpec)) braceOwnCard

/-- THE SECOND FORM's CARD OF 'transhumancelaw5.BraceBack'. -/
def braceBackUptoCard : Claim7 := { stood := { row := braceBackUptoRow, standIns := [], harness := (true, "b573a46562803023310c564b5c254f535c8d8d1ff01a79029fa3c0c32d838add"), looks := false }, kinds := [], alts := [], laidByText := true, laidKinds := [.data, .data, .data], laidTests := true, laidLooks := .later }
def BraceBackUptoCardSaid : Prop := Claim7.holds Tryz.pinned (.plain (OpenSpec.upto braceBackSpec)) braceBackUptoCard

/-- THE SECOND FORM's CARD OF 'transhumancelaw5.BraceLocks'. -/
def braceLocksUptoCard : Claim7 := { stood := { row := braceLocksUptoRow, standIns := [], harness := (true, "b573a46562803023310c564b5c254f535c8d8d1ff01a79029fa3c0c32d838add"), looks := false }, kinds := [], alts := [], laidByText := true, laidKinds := [.data, .data, .data], laidTests := true, laidLooks := .later }
def BraceLocksUptoCardSaid : Prop := Claim7.holds Tryz.pinned (.plain (OpenSpec.upto braceLocksSpec)) braceLocksUptoCard

/-- THE SECOND FORM's CARD OF 'transhumancelaw5.BraceBlanks'. -/
def braceBlanksUptoCard : Claim7 := { stood := { row := braceBlanksUptoRow, standIns := [], harness := (true, "b573a46562803023310c564b5c254f535c8d8d1ff01a79029fa3c0c32d838add"), looks := false }, kinds := [], alts := [], laidByText := true, laidKinds := [.data, .data, .data], laidTests := true, laidLooks := .later }
def BraceBlanksUptoCardSaid : Prop := Claim7.holds Tryz.pinned (.plain (OpenSpec.upto braceBlanksSpec)) braceBlanksUptoCard

/-- THE SECOND FORM's CARD OF 'transhumancelaw5.BraceOwn'. -/
def braceOwnUptoCard : Claim7 := { stood := { row := braceOwnUptoRow, standIns := [], harness := (true, "b573a46562803023310c564b5c254f535c8d8d1ff01a79029fa3c0c32d838add"), looks := false }, kinds := [], alts := [], laidByText := true, laidKinds := [.data, .data, .data], laidTests := true, laidLooks := .later }
def BraceOwnUptoCardSaid : Prop := Claim7.holds Tryz.pinned (.plain (OpenSpec.upto braceOwnSpec)) braceOwnUptoCard
end Rows
end Go.Proofs.YtnmmhihfnphjeaaGreatDoor
