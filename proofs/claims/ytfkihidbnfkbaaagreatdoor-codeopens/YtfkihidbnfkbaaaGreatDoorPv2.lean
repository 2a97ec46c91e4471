import Derived.Test.YtfkihidbnfkbaaaGreatDoorPv1
set_option linter.all false
namespace Go.Proofs.YtfkihidbnfkbaaaGreatDoor
namespace cd
theorem kE:laidOutB Tryz.prog=true:=ϟ
theorem kF:mapsRowed Tryz.prog=true:=ϟ
theorem kH:Tryz.prog.plainKeys=Rows.codeSumsRow.plainKeys:=ϟ
theorem kI:Tryz.prog.stopsHeard=true:=ϟ
theorem kJ:Tryz.prog.mayEnter=true:=ϟ
theorem kK:Tryz.prog.liftsFinal=Rows.codeSumsRow.lifted:=ϟ
theorem kL:Tryz.prog.make=some Rows.codeSumsRow.make:=ϟ
theorem kM:Tryz.prog.stops=[]:=ϟ
theorem kN:Tryz.prog.stopKnobs=[]:=ϟ
end cd
end Go.Proofs.YtfkihidbnfkbaaaGreatDoor
