/-
  NARROWER THAN 'FOR EVERY INPUT', by the rows' own cells (each row's printed sentence says how): CodeSums: laid · CodeOpens: laid · CodeWrites: laid · CodeReads: laid · CodeBack: laid · CodeTurned: laid.
  DERIVED. THE GIVEN ROWS OF THIS SEAT. 6 by the template 'for every input the law returns true; each argument reads behind the call as it read before'; 0 by the template 'total and deterministic' (their statements: YtfkihidbnfkbaaaGreatDoorTotals.lean).
  GIVEN WITH THE SEED: the statements are not yours to turn. If you find one false, say at which input.
  Laid BY PROGRAM, IN A SANDBOX (cutbox-rows.mjs): the forced cells as the released guide's own fill.sh prints them over the translation 2974de304c18c2eb… (all of the seat's roots in one cut). By AI agents, Wed Nov 11 2026. No macro, syntax, notation, axiom, sorry.
-/
import Derived.Test.YtfkihidbnfkbaaaGreatDoorChecked
import GoSem.Claim
import GoSem.ClaimJoined
import GoSem.ClaimMapViews
import Derived.JoinedTies
import Derived.KernelRfl
namespace Go.Proofs.YtfkihidbnfkbaaaGreatDoor
/- THE CELL 'sum', in the pinned program and in every row, IS THE sha256 OF THE DUMP (.gsa) THAT YtfkihidbnfkbaaaGreatDoorProg.lean LOADS. Nothing in Lean hashes anything: it is a label: what it is worth is what the hold of that sum in a sandbox is worth. -/
noncomputable def Tryz.pinned : Pinned := { name := "ytfkihidbnfkbaaagreatdoor", sum := "2974de304c18c2eb215903a278789a8c27146d9a5f6c09e997a7eb904bb1ea55", checked := Tryz.checked }
namespace Rows
def none {H : Type} : Left H := { results := [], args := [] }

/- WHAT THE LISTED PACKAGE-LEVEL VARIABLES READ AS WHEN THE CALL BEGINS. Each datum BY PROGRAM (the guide's laid-datum.mjs) off the statement by which the dump's own 'gosem.cut.vars' lays the variable. In a bare row this is a premise. The card (YtfkihidbnfkbaaaGreatDoorCards.lean) ties it to the program's text. -/
def laid_meetwater_tape_errWrong {H : Type} : DataW H := .iface "*errors.errorString" (.ptr (.agg [.lit (.string [116, 104, 101, 32, 98, 121, 116, 101, 115, 32, 97, 114, 101, 32, 110, 111, 116, 32, 97, 115, 32, 116, 104, 101, 121, 32, 109, 117, 115, 116, 32, 98, 101])]))
def laid_meetwater_code_nibbles {H : Type} : DataW H := .agg [.lit (.int .u32 0), .lit (.int .u32 498536548), .lit (.int .u32 997073096), .lit (.int .u32 651767980), .lit (.int .u32 1994146192), .lit (.int .u32 1802195444), .lit (.int .u32 1303535960), .lit (.int .u32 1342533948), .lit (.int .u32 3988292384), .lit (.int .u32 4027552580), .lit (.int .u32 3604390888), .lit (.int .u32 3412177804), .lit (.int .u32 2607071920), .lit (.int .u32 2262029012), .lit (.int .u32 2685067896), .lit (.int .u32 3183342108)]

/-- 'meetwaterlaw.CodeSums': WHATEVER THE INPUT: true; the input reads as it did. -/
def codeSumsSpec : ChangeSpec := { name := "codeSums", fn := fun _ => fun
  | [d] => { results := [.lit (.bool true)], args := [d] }
  | _ => none }
def codeSumsRow : OpenClaim := { program := "ytfkihidbnfkbaaagreatdoor", sum := "2974de304c18c2eb215903a278789a8c27146d9a5f6c09e997a7eb904bb1ea55", func := "meetwater/meetwaterlaw.CodeSums", spec := "codeSums", inPlace := ["internal/bytealg.abigen_runtime_cmpstring", "slices.overlaps[meetwater/api.Group]", "slices.overlaps[meetwater/api.Tally]"], unfollowed := true, recurses := true, named := ["meetwater/code.nibbles", "meetwater/tape.errWrong"], plainKeys := false, apart := false, laid := [("meetwater/tape.errWrong", laid_meetwater_tape_errWrong), ("meetwater/code.nibbles", laid_meetwater_code_nibbles)] }
def CodeSumsSaid : Prop := codeSumsRow.holds Tryz.pinned (OpenSpec.ofChange codeSumsSpec)

/-- ITS FALSE NEIGHBOUR: 'it returns false'. Refute it at one input. -/
def codeSumsWrong : ChangeSpec := { name := "codeSums", fn := fun _ => fun
  | [d] => { results := [.lit (.bool false)], args := [d] }
  | _ => none }
def CodeSumsWrongFalsely : Prop := codeSumsRow.holds Tryz.pinned (OpenSpec.ofChange codeSumsWrong)

/-- 'meetwaterlaw.CodeOpens': WHATEVER THE INPUT: true; the input reads as it did. -/
def codeOpensSpec : ChangeSpec := { name := "codeOpens", fn := fun _ => fun
  | [d] => { results := [.lit (.bool true)], args := [d] }
  | _ => none }
def codeOpensRow : OpenClaim := { program := "ytfkihidbnfkbaaagreatdoor", sum := "2974de304c18c2eb215903a278789a8c27146d9a5f6c09e997a7eb904bb1ea55", func := "meetwater/meetwaterlaw.CodeOpens", spec := "codeOpens", inPlace := ["internal/bytealg.abigen_runtime_cmpstring", "slices.overlaps[meetwater/api.Group]", "slices.overlaps[meetwater/api.Tally]"], unfollowed := true, recurses := true, named := ["meetwater/code.nibbles", "meetwater/tape.errWrong"], plainKeys := false, apart := false, laid := [("meetwater/tape.errWrong", laid_meetwater_tape_errWrong), ("meetwater/code.nibbles", laid_meetwater_code_nibbles)] }
def CodeOpensSaid : Prop := codeOpensRow.holds Tryz.pinned (OpenSpec.ofChange codeOpensSpec)

/-- ITS FALSE NEIGHBOUR: 'it returns false'. Refute it at one input. -/
def codeOpensWrong : ChangeSpec := { name := "codeOpens", fn := fun _ => fun
  | [d] => { results := [.lit (.bool false)], args := [d] }
  | _ => none }
def CodeOpensWrongFalsely : Prop := codeOpensRow.holds Tryz.pinned (OpenSpec.ofChange codeOpensWrong)

/-- 'meetwaterlaw.CodeWrites': WHATEVER THE INPUT: true; the input reads as it did. -/
def codeWritesSpec : ChangeSpec := { name := "codeWrites", fn := fun _ => fun
  | [d1, d2] => { results := [.lit (.bool true)], args := [d1, d2] }
  | _ => none }
def codeWritesRow : OpenClaim := { program := "ytfkihidbnfkbaaagreatdoor", sum := "2974de304c18c2eb215903a278789a8c27146d9a5f6c09e997a7eb904bb1ea55", func := "meetwater/meetwaterlaw.CodeWrites", spec := "codeWrites", inPlace := ["internal/bytealg.abigen_runtime_cmpstring", "slices.overlaps[meetwater/api.Group]", "slices.overlaps[meetwater/api.Tally]"], unfollowed := true, recurses := true, named := ["meetwater/code.nibbles", "meetwater/tape.errWrong"], plainKeys := false, apart := false, laid := [("meetwater/tape.errWrong", laid_meetwater_tape_errWrong), ("meetwater/code.nibbles", laid_meetwater_code_nibbles)] }
def CodeWritesSaid : Prop := codeWritesRow.holds Tryz.pinned (OpenSpec.ofChange codeWritesSpec)

/-- ITS FALSE NEIGHBOUR: 'it returns false'. Refute it at one input. -/
def codeWritesWrong : ChangeSpec := { name := "codeWrites", fn := fun _ => fun
  | [d1, d2] => { results := [.lit (.bool false)], args := [d1, d2] }
  | _ => none }
def CodeWritesWrongFalsely : Prop := codeWritesRow.holds Tryz.pinned (OpenSpec.ofChange codeWritesWrong)

/-- 'meetwaterlaw.CodeReads': WHATEVER THE INPUT: true; the input reads as it did. -/
def codeReadsSpec : ChangeSpec := { name := "codeReads", fn := fun _ => fun
  | [d1, d2] => { results := [.lit (.bool true)], args := [d1, d2] }
  | _ => none }
def codeReadsRow : OpenClaim := { program := "ytfkihidbnfkbaaagreatdoor", sum := "2974de304c18c2eb215903a278789a8c27146d9a5f6c09e997a7eb904bb1ea55", func := "meetwater/meetwaterlaw.CodeReads", spec := "codeReads", inPlace := ["internal/bytealg.abigen_runtime_cmpstring", "slices.overlaps[meetwater/api.Group]", "slices.overlaps[meetwater/api.Tally]"], unfollowed := true, recurses := true, named := ["meetwater/tape.errWrong", "meetwater/code.nibbles"], plainKeys := false, apart := false, laid := [("meetwater/tape.errWrong", laid_meetwater_tape_errWrong), ("meetwater/code.nibbles", laid_meetwater_code_nibbles)] }
def CodeReadsSaid : Prop := codeReadsRow.holds Tryz.pinned (OpenSpec.ofChange codeReadsSpec)

/-- ITS FALSE NEIGHBOUR: 'it returns false'. Refute it at one input. -/
def codeReadsWrong : ChangeSpec := { name := "codeReads", fn := fun _ => fun
  | [d1, d2] => { results := [.lit (.bool false)], args := [d1, d2] }
  | _ => none }
def CodeReadsWrongFalsely : Prop := codeReadsRow.holds Tryz.pinned (OpenSpec.ofChange codeReadsWrong)

/-- 'meetwaterlaw.CodeBack': WHATEVER THE INPUT: true; the input reads as it did. -/
def codeBackSpec : ChangeSpec := { name := "codeBack", fn := fun _ => fun
  | [d1, d2, d3] => { results := [.lit (.bool true)], args := [d1, d2, d3] }
  | _ => none }
def codeBackRow : OpenClaim := { program := "ytfkihidbnfkbaaagreatdoor", sum := "2974de304c18c2eb215903a278789a8c27146d9a5f6c09e997a7eb904bb1ea55", func := "meetwater/meetwaterlaw.CodeBack", spec := "codeBack", inPlace := ["internal/bytealg.abigen_runtime_cmpstring", "slices.overlaps[meetwater/api.Group]", "slices.overlaps[meetwater/api.Tally]"], unfollowed := true, recurses := true, named := ["meetwater/tape.errWrong", "meetwater/code.nibbles"], plainKeys := false, apart := false, laid := [("meetwater/tape.errWrong", laid_meetwater_tape_errWrong), ("meetwater/code.nibbles", laid_meetwater_code_nibbles)] }
def CodeBackSaid : Prop := codeBackRow.holds Tryz.pinned (OpenSpec.ofChange codeBackSpec)

/-- ITS FALSE NEIGHBOUR: 'it returns false'. Refute it at one input. -/
def codeBackWrong : ChangeSpec := { name := "codeBack", fn := fun _ => fun
  | [d1, d2, d3] => { results := [.lit (.bool false)], args := [d1, d2, d3] }
  | _ => none }
def CodeBackWrongFalsely : Prop := codeBackRow.holds Tryz.pinned (OpenSpec.ofChange codeBackWrong)

/-- 'meetwaterlaw.CodeTurned': WHATEVER THE INPUT: true; the input reads as it did. -/
def codeTurnedSpec : ChangeSpec := { name := "codeTurned", fn := fun _ => fun
  | [d1, d2, d3] => { results := [.lit (.bool true)], args := [d1, d2, d3] }
  | _ => none }
def codeTurnedRow : OpenClaim := { program := "ytfkihidbnfkbaaagreatdoor", sum := "2974de304c18c2eb215903a278789a8c27146d9a5f6c09e997a7eb904bb1ea55", func := "meetwater/meetwaterlaw.CodeTurned", spec := "codeTurned", inPlace := ["internal/bytealg.abigen_runtime_cmpstring", "slices.overlaps[meetwater/api.Group]", "slices.overlaps[meetwater/api.Tally]"], unfollowed := true, recurses := true, named := ["meetwater/code.nibbles", "meetwater/tape.errWrong"], plainKeys := false, apart := false, laid := [("meetwater/tape.errWrong", laid_meetwater_tape_errWrong), ("meetwater/code.nibbles", laid_meetwater_code_nibbles)] }
def CodeTurnedSaid : Prop := codeTurnedRow.holds Tryz.pinned (OpenSpec.ofChange codeTurnedSpec)

/-- ITS FALSE NEIGHBOUR: 'it returns false'. Refute it at one input. -/
def codeTurnedWrong : ChangeSpec := { name := "codeTurned", fn := fun _ => fun
  | [d1, d2, d3] => { results := [.lit (.bool false)], args := [d1, d2, d3] }
  | _ => none }
def CodeTurnedWrongFalsely : Prop := codeTurnedRow.holds Tryz.pinned (OpenSpec.ofChange codeTurnedWrong)

/- THE SECOND FORM. 'bulk': how many values and letters a reading holds, each counted each time it is reached (what is shared counts as often as it is met; a slice's spare places count too). A statement '..UptoSaid' is the law's where the arguments, and the package variables that the reading takes, are together of bulk at most 1048576: NARROWER than '..Said'. Prove '..Said' where nothing that the law and all that it calls make is longer than what came in: it says more and counts as full. Else prove '..UptoSaid'. A law counts once. -/
mutual
def uptoBulk {H : Type} : DataW H → Nat
  | .lit (.string bytes) => bytes.length + 1
  | .lit _ => 1
  | .nil => 1
  | .ptr d => uptoBulk d + 1
  | .slice elems spare => uptoBulkAll elems + uptoBulkAll spare + 1
  | .agg parts => uptoBulkAll parts + 1
  | .iface _ d => uptoBulk d + 1
  | .map entries => uptoBulkEntries entries + 1
  | .held _ => 1
def uptoBulkAll {H : Type} : List (DataW H) → Nat
  | [] => 0
  | d :: r => uptoBulk d + uptoBulkAll r
def uptoBulkEntries {H : Type} : List (Lit × DataW H) → Nat
  | [] => 0
  | x :: r => uptoBulkEntry x + uptoBulkEntries r
def uptoBulkEntry {H : Type} : Lit × DataW H → Nat
  | (.string bytes, d) => bytes.length + uptoBulk d + 1
  | (_, d) => uptoBulk d + 1
 end
def uptoSmall : (H : Type) → List (DataW H) → Bool := fun _ ds => decide (uptoBulkAll ds ≤ 1048576)
def OpenSpec.upto (s : _root_.Go.ChangeSpec) : _root_.Go.OpenSpec := { _root_.Go.OpenSpec.ofChange s with cond := some uptoSmall }

/-- 'meetwaterlaw.CodeSums', WHERE WHAT IT READS IS OF BULK AT MOST 1048576: true; the input reads as it did. -/
def codeSumsUptoRow : OpenClaim := { program := "ytfkihidbnfkbaaagreatdoor", sum := "2974de304c18c2eb215903a278789a8c27146d9a5f6c09e997a7eb904bb1ea55", func := "meetwater/meetwaterlaw.CodeSums", spec := "codeSums", inPlace := ["internal/bytealg.abigen_runtime_cmpstring", "slices.overlaps[meetwater/api.Group]", "slices.overlaps[meetwater/api.Tally]"], unfollowed := true, recurses := true, named := ["meetwater/code.nibbles", "meetwater/tape.errWrong"], plainKeys := false, apart := false, laid := [("meetwater/tape.errWrong", laid_meetwater_tape_errWrong), ("meetwater/code.nibbles", laid_meetwater_code_nibbles)], narrowed := true }
def CodeSumsUptoSaid : Prop := codeSumsUptoRow.holds Tryz.pinned (OpenSpec.upto codeSumsSpec)

/-- 'meetwaterlaw.CodeOpens', WHERE WHAT IT READS IS OF BULK AT MOST 1048576: true; the input reads as it did. -/
def codeOpensUptoRow : OpenClaim := { program := "ytfkihidbnfkbaaagreatdoor", sum := "2974de304c18c2eb215903a278789a8c27146d9a5f6c09e997a7eb904bb1ea55", func := "meetwater/meetwaterlaw.CodeOpens", spec := "codeOpens", inPlace := ["internal/bytealg.abigen_runtime_cmpstring", "slices.overlaps[meetwater/api.Group]", "slices.overlaps[meetwater/api.Tally]"], unfollowed := true, recurses := true, named := ["meetwater/code.nibbles", "meetwater/tape.errWrong"], plainKeys := false, apart := false, laid := [("meetwater/tape.errWrong", laid_meetwater_tape_errWrong), ("meetwater/code.nibbles", laid_meetwater_code_nibbles)], narrowed := true }
def CodeOpensUptoSaid : Prop := codeOpensUptoRow.holds Tryz.pinned (OpenSpec.upto codeOpensSpec)

/-- 'meetwaterlaw.CodeWrites', WHERE WHAT IT READS IS OF BULK AT MOST 1048576: true; the input reads as it did. -/
def codeWritesUptoRow : OpenClaim := { program := "ytfkihidbnfkbaaagreatdoor", sum := "2974de304c18c2eb215903a278789a8c27146d9a5f6c09e997a7eb904bb1ea55", func := "meetwater/meetwaterlaw.CodeWrites", spec := "codeWrites", inPlace := ["internal/bytealg.abigen_runtime_cmpstring", "slices.overlaps[meetwater/api.Group]", "slices.overlaps[meetwater/api.Tally]"], unfollowed := true, recurses := true, named := ["meetwater/code.nibbles", "meetwater/tape.errWrong"], plainKeys := false, apart := false, laid := [("meetwater/tape.errWrong", laid_meetwater_tape_errWrong), ("meetwater/code.nibbles", laid_meetwater_code_nibbles)], narrowed := true }
def CodeWritesUptoSaid : Prop := codeWritesUptoRow.holds Tryz.pinned (OpenSpec.upto codeWritesSpec)

/-- 'meetwaterlaw.CodeReads', WHERE WHAT IT READS IS OF BULK AT MOST 1048576: true; the input reads as it did. -/
def codeReadsUptoRow : OpenClaim := { program := "ytfkihidbnfkbaaagreatdoor", sum := "2974de304c18c2eb215903a278789a8c27146d9a5f6c09e997a7eb904bb1ea55", func := "meetwater/meetwaterlaw.CodeReads", spec := "codeReads", inPlace := ["internal/bytealg.abigen_runtime_cmpstring", "slices.overlaps[meetwater/api.Group]", "slices.overlaps[meetwater/api.Tally]"], unfollowed := true, recurses := true, named := ["meetwater/tape.errWrong", "meetwater/code.nibbles"], plainKeys := false, apart := false, laid := [("meetwater/tape.errWrong", laid_meetwater_tape_errWrong), ("meetwater/code.nibbles", laid_meetwater_code_nibbles)], narrowed := true }
def CodeReadsUptoSaid : Prop := codeReadsUptoRow.holds Tryz.pinned (OpenSpec.upto codeReadsSpec)

/-- 'meetwaterlaw.CodeBack', WHERE WHAT IT READS IS OF BULK AT MOST 1048576: true; the input reads as it did. -/
def codeBackUptoRow : OpenClaim := { program := "ytfkihidbnfkbaaagreatdoor", sum := "2974de304c18c2eb215903a278789a8c27146d9a5f6c09e997a7eb904bb1ea55", func := "meetwater/meetwaterlaw.CodeBack", spec := "codeBack", inPlace := ["internal/bytealg.abigen_runtime_cmpstring", "slices.overlaps[meetwater/api.Group]", "slices.overlaps[meetwater/api.Tally]"], unfollowed := true, recurses := true, named := ["meetwater/tape.errWrong", "meetwater/code.nibbles"], plainKeys := false, apart := false, laid := [("meetwater/tape.errWrong", laid_meetwater_tape_errWrong), ("meetwater/code.nibbles", laid_meetwater_code_nibbles)], narrowed := true }
def CodeBackUptoSaid : Prop := codeBackUptoRow.holds Tryz.pinned (OpenSpec.upto codeBackSpec)

/-- 'meetwaterlaw.CodeTurned', WHERE WHAT IT READS IS OF BULK AT MOST 1048576: true; the input reads as it did. -/
def codeTurnedUptoRow : OpenClaim := { program := "ytfkihidbnfkbaaagreatdoor", sum := "2974de304c18c2eb215903a278789a8c27146d9a5f6c09e997a7eb904bb1ea55", func := "meetwater/meetwaterlaw.CodeTurned", spec := "codeTurned", inPlace := ["internal/bytealg.abigen_runtime_cmpstring", "slices.overlaps[meetwater/api.Group]", "slices.overlaps[meetwater/api.Tally]"], unfollowed := true, recurses := true, named := ["meetwater/code.nibbles", "meetwater/tape.errWrong"], plainKeys := false, apart := false, laid := [("meetwater/tape.errWrong", laid_meetwater_tape_errWrong), ("meetwater/code.nibbles", laid_meetwater_code_nibbles)], narrowed := true }
def CodeTurnedUptoSaid : Prop := codeTurnedUptoRow.holds Tryz.pinned (OpenSpec.upto codeTurnedSpec)

end Rows
end Go.Proofs.YtfkihidbnfkbaaaGreatDoor
