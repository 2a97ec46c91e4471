import Derived.Test.YtfkihidbnfkbaaaGreatDoorPv41
set_option linter.all false
open Go.ChangeShapes Go.WideShapes Go.ChangeAt Go.RowKit
namespace Go.Proofs.YtfkihidbnfkbaaaGreatDoor
namespace cd
theorem Af2{W:Ϡ}(h:laidMetH Tryz.prog lays W):∃T a,Δ W 1 0 (.iface T a):=by
 rw[MakeChecks.laidMetH_plain _ _ _ ϧ]at h;obtain⟨o,⟨m,q,k,l,n,p,d,j,b,hd0,_⟩,_⟩:=h;obtain rfl:=Option.some.inj ((show Tryz.prog.globalNamed "meetwater/tape.errWrong" =some 1 by kernel_rfl).symm.trans d);obtain rfl:=Option.some.inj ((show(Tryz.prog.globals[1]?).map (·.type)=some 261 by kernel_rfl).symm.trans j);obtain⟨_,u,v,e,_,_⟩:=iface_of_trod (ms:=#[("Error",67)]) ϧ hd0;unfold World.var? at b;rw[d,Option.bind_some]at b;split at b
 ·rename_i g t c f;obtain rfl:=Option.some.inj b;refine⟨u,v,?_⟩;have i:g=#[.iface u v]:=Array.toList_inj.1 e;rw[i]at f;simp[World.cell?,f]
 ·cases b
end cd
end Go.Proofs.YtfkihidbnfkbaaaGreatDoor
