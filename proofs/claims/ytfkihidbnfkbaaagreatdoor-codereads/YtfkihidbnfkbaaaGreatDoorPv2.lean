import Derived.Test.YtfkihidbnfkbaaaGreatDoorPv1
set_option linter.all false
namespace Go.Proofs.YtfkihidbnfkbaaaGreatDoor
namespace cd
def kE:laidOutB Tryz.prog=true:=Ϧ
def kF:mapsRowed Tryz.prog=true:=Ϧ
def kH:Tryz.prog.plainKeys=Rows.codeSumsRow.plainKeys:=Ϧ
def kI:Tryz.prog.stopsHeard=true:=Ϧ
def kJ:Tryz.prog.mayEnter=true:=Ϧ
def kK:Tryz.prog.liftsFinal=Rows.codeSumsRow.lifted:=Ϧ
def kL:Tryz.prog.make=some Rows.codeSumsRow.make:=Ϧ
def kM:Tryz.prog.stops=[]:=Ϧ
def kN:Tryz.prog.stopKnobs=[]:=Ϧ
end cd
