import Derived.Test.YtfkihidbnfkbaaaGreatDoorPv1
set_option linter.all false
namespace Go.Proofs.YtfkihidbnfkbaaaGreatDoor
namespace cd
theorem kE:laidOutB Tryz.prog=true:=ϧ
theorem kF:mapsRowed Tryz.prog=true:=ϧ
theorem kH:Tryz.prog.plainKeys=Rows.codeSumsRow.plainKeys:=ϧ
theorem kI:Tryz.prog.stopsHeard=true:=ϧ
theorem kJ:Tryz.prog.mayEnter=true:=ϧ
theorem kK:Tryz.prog.liftsFinal=Rows.codeSumsRow.lifted:=ϧ
theorem kL:Tryz.prog.make=some Rows.codeSumsRow.make:=ϧ
theorem kM:Tryz.prog.stops=[]:=ϧ
theorem kN:Tryz.prog.stopKnobs=[]:=ϧ
end cd
end Go.Proofs.YtfkihidbnfkbaaaGreatDoor
