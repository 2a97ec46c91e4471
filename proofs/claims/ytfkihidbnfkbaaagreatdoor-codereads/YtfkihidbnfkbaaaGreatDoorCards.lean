/-
  DERIVED. GIVEN WITH THE SEED: THE CARDS: each row of YtfkihidbnfkbaaaGreatDoorRows.lean that lists a variable, with what it lists TIED to the program's text (the seventh form; the later family's looks); each row that meets fmt, with fmt's text TOLD by the authors' own Lean function (tested against real Go, not proved from fmt's source: count such statements apart). THE CARD IS WHAT COUNTS. Prove the row's statement (the work); the ties are given (YtfkihidbnfkbaaaGreatDoorTie.lean); close each card by the builder's one call (the guide's Derived/Test/ToyasCard.lean, 'card_holds'). Laid BY PROGRAM, IN A SANDBOX (cutbox-door.mjs). By AI agents, Wed Nov 11 2026. No macro, syntax, notation, axiom, sorry.
-/
import Derived.Test.YtfkihidbnfkbaaaGreatDoorRows
import GoSem.ClaimSeven
namespace Go.Proofs.YtfkihidbnfkbaaaGreatDoor
namespace Rows

/-- THE TIED CARD OF 'meetwaterlaw.CodeSums'. -/
def codeSumsCard : Claim7 := { stood := { row := codeSumsRow, standIns := [], harness := (true, "e3adca468c0c7b92fe3a8c0b3ac5850f074cf344dc929b1d683b2852294a46c4"), looks := false }, kinds := [], alts := [], laidByText := true, laidKinds := [.sentinel, .data], laidTests := true, laidLooks := .later }
def CodeSumsCardSaid : Prop := Claim7.holds Tryz.pinned (.plain (OpenSpec.ofChange codeSumsSpec)) codeSumsCard

/-- THE TIED CARD OF 'meetwaterlaw.CodeOpens'. -/
def codeOpensCard : Claim7 := { stood := { row := codeOpensRow, standIns := [], harness := (true, "e3adca468c0c7b92fe3a8c0b3ac5850f074cf344dc929b1d683b2852294a46c4"), looks := false }, kinds := [], alts := [], laidByText := true, laidKinds := [.sentinel, .data], laidTests := true, laidLooks := .later }
def CodeOpensCardSaid : Prop := Claim7.holds Tryz.pinned (.plain (OpenSpec.ofChange codeOpensSpec)) codeOpensCard

/-- THE TIED CARD OF 'meetwaterlaw.CodeWrites'. -/
def codeWritesCard : Claim7 := { stood := { row := codeWritesRow, standIns := [], harness := (true, "e3adca468c0c7b92fe3a8c0b3ac5850f074cf344dc929b1d683b2852294a46c4"), looks := false }, kinds := [], alts := [], laidByText := true, laidKinds := [.sentinel, .data], laidTests := true, laidLooks := .later }
def CodeWritesCardSaid : Prop := Claim7.holds Tryz.pinned (.plain (OpenSpec.ofChange codeWritesSpec)) codeWritesCard

/-- THE TIED CARD OF 'meetwaterlaw.CodeReads'. -/
def codeReadsCard : Claim7 := { stood := { row := codeReadsRow, standIns := [], harness := (true, "e3adca468c0c7b92fe3a8c0b3ac5850f074cf344dc929b1d683b2852294a46c4"), looks := false }, kinds := [], alts := [], laidByText := true, laidKinds := [.sentinel, .data], laidTests := true, laidLooks := .later }
def CodeReadsCardSaid : Prop := Claim7.holds Tryz.pinned (.plain (OpenSpec.ofChange codeReadsSpec)) codeReadsCard

/-- THE TIED CARD OF 'meetwaterlaw.CodeBack'. -/
def codeBackCard : Claim7 := { stood := { row := codeBackRow, standIns := [], harness := (true, "e3adca468c0c7b92fe3a8c0b3ac5850f074cf344dc929b1d683b2852294a46c4"), looks := false }, kinds := [], alts := [], laidByText := true, laidKinds := [.sentinel, .data], laidTests := true, laidLooks := .later }
def CodeBackCardSaid : Prop := Claim7.holds Tryz.pinned (.plain (OpenSpec.ofChange codeBackSpec)) codeBackCard

/-- THE TIED CARD OF 'meetwaterlaw.CodeTurned'. -/
def codeTurnedCard : Claim7 := { stood := { row := codeTurnedRow, standIns := [], harness := (true, "e3adca468c0c7b92fe3a8c0b3ac5850f074cf344dc929b1d683b2852294a46c4"), looks := false }, kinds := [], alts := [], laidByText := true, laidKinds := [.sentinel, .data], laidTests := true, laidLooks := .later }
def CodeTurnedCardSaid : Prop := Claim7.holds Tryz.pinned (.plain (OpenSpec.ofChange codeTurnedSpec)) codeTurnedCard

/-- THE SECOND FORM's CARD OF 'meetwaterlaw.CodeSums'. -/
def codeSumsUptoCard : Claim7 := { stood := { row := codeSumsUptoRow, standIns := [], harness := (true, "e3adca468c0c7b92fe3a8c0b3ac5850f074cf344dc929b1d683b2852294a46c4"), looks := false }, kinds := [], alts := [], laidByText := true, laidKinds := [.sentinel, .data], laidTests := true, laidLooks := .later }
def CodeSumsUptoCardSaid : Prop := Claim7.holds Tryz.pinned (.plain (OpenSpec.upto codeSumsSpec)) codeSumsUptoCard

/-- THE SECOND FORM's CARD OF 'meetwaterlaw.CodeOpens'. -/
def codeOpensUptoCard : Claim7 := { stood := { row := codeOpensUptoRow, standIns := [], harness := (true, "e3adca468c0c7b92fe3a8c0b3ac5850f074cf344dc929b1d683b2852294a46c4"), looks := false }, kinds := [], alts := [], laidByText := true, laidKinds := [.sentinel, .data], laidTests := true, laidLooks := .later }
def CodeOpensUptoCardSaid : Prop := Claim7.holds Tryz.pinned (.plain (OpenSpec.upto codeOpensSpec)) codeOpensUptoCard

/-- THE SECOND FORM's CARD OF 'meetwaterlaw.CodeWrites'. -/
def codeWritesUptoCard : Claim7 := { stood := { row := codeWritesUptoRow, standIns := [], harness := (true, "e3adca468c0c7b92fe3a8c0b3ac5850f074cf344dc929b1d683b2852294a46c4"), looks := false }, kinds := [], alts := [], laidByText := true, laidKinds := [.sentinel, .data], laidTests := true, laidLooks := .later }
def CodeWritesUptoCardSaid : Prop := Claim7.holds Tryz.pinned (.plain (OpenSpec.upto codeWritesSpec)) codeWritesUptoCard

/-- THE SECOND FORM's CARD OF 'meetwaterlaw.CodeReads'. -/
def codeReadsUptoCard : Claim7 := { stood := { row := codeReadsUptoRow, standIns := [], harness := (true, "e3adca468c0c7b92fe3a8c0b3ac5850f074cf344dc929b1d683b2852294a46c4"), looks := false }, kinds := [], alts := [], laidByText := true, laidKinds := [.sentinel, .data], laidTests := true, laidLooks := .later }
def CodeReadsUptoCardSaid : Prop := Claim7.holds Tryz.pinned (.plain (OpenSpec.upto codeReadsSpec)) codeReadsUptoCard

/-- THE SECOND FORM's CARD OF 'meetwaterlaw.CodeBack'. -/
def codeBackUptoCard : Claim7 := { stood := { row := codeBackUptoRow, standIns := [], harness := (true, "e3adca468c0c7b92fe3a8c0b3ac5850f074cf344dc929b1d683b2852294a46c4"), looks := false }, kinds := [], alts := [], laidByText := true, laidKinds := [.sentinel, .data], laidTests := true, laidLooks := .later }
def CodeBackUptoCardSaid : Prop := Claim7.holds Tryz.pinned (.plain (OpenSpec.upto codeBackSpec)) codeBackUptoCard

/-- THE SECOND FORM's CARD OF 'meetwaterlaw.CodeTurned'. -/
def codeTurnedUptoCard : Claim7 := { stood := { row := codeTurnedUptoRow, standIns := [], harness := (true, "e3adca468c0c7b92fe3a8c0b3ac5850f074cf344dc929b1d683b2852294a46c4"), looks := false }, kinds := [], alts := [], laidByText := true, laidKinds := [.sentinel, .data], laidTests := true, laidLooks := .later }
def CodeTurnedUptoCardSaid : Prop := Claim7.holds Tryz.pinned (.plain (OpenSpec.upto codeTurnedSpec)) codeTurnedUptoCard
end Rows
end Go.Proofs.YtfkihidbnfkbaaaGreatDoor
