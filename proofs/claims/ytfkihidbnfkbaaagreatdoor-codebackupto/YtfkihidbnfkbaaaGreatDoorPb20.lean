import Derived.Test.YtfkihidbnfkbaaaGreatDoorPb1
set_option linter.all false
namespace Go.Proofs.YtfkihidbnfkbaaaGreatDoor
namespace cd
theorem kE:laidOutB Tryz.prog=true:=Ϡ
theorem kF:mapsRowed Tryz.prog=true:=Ϡ
theorem kH:Tryz.prog.plainKeys=Rows.codeSumsRow.plainKeys:=Ϡ
theorem kI:Tryz.prog.stopsHeard=true:=Ϡ
theorem kJ:Tryz.prog.mayEnter=true:=Ϡ
theorem kK:Tryz.prog.liftsFinal=Rows.codeSumsRow.lifted:=Ϡ
theorem kL:Tryz.prog.make=some Rows.codeSumsRow.make:=Ϡ
theorem kM:Tryz.prog.stops=[]:=Ϡ
theorem kN:Tryz.prog.stopKnobs=[]:=Ϡ
end cd
end Go.Proofs.YtfkihidbnfkbaaaGreatDoor
