import Derived.Laws.AppendOwnNone
import Derived.Test.YtfkihidbnfkbaaaGreatDoorPv12
set_option linter.all false
open Go.ChangeShapes Go.WideShapes Go.ChangeAt Go.RowKit Go.Maps Go.WideMaps Go.Sort List
namespace Go.Proofs.YtfkihidbnfkbaaaGreatDoor
namespace ch
open vl
theorem WW:(Tryz.prog.info? 217).map (λi=>(i.zero,i.size,i.bytes))=some (some (.agg #[ω,ψ]),2,32):=ϟ
def Bd(l:List (Int×Value)):List Value:=l.flatMap λp=>[vI p.1,p.2]
theorem U8(l:List (Int×Value)):(Bd l).length=l.length * 2:=by
 induction l with
 |nil=>rfl
 |cons c r ih=>show([_,_]++Bd r).length=_;rw[lAp,ih,length_cons];simp;omega
theorem RJ(l:List (Int×Value))(n:Int)(x:Value):Bd (l++[(n,x)])=Bd l++[vI n,x]:=by
 unfold Bd;rw[flatMap_append];simp
theorem Qe(l:List (Int×Value))(i:Nat)(a:i<l.length):(Bd l)[i * 2]? =some (vI (l.getD i (0,.bool false)).1)/\(Bd l)[i * 2+1]? =some (l.getD i (0,.bool false)).2:=by
 induction l generalizing i with
 |nil=>exact absurd a (Nat.not_lt_zero i)
 |cons p r ih=>
  have e:Bd (p::r)=vI p.1::p.2::Bd r:=rfl;rw[e]
  cases i with
  |zero=>exact⟨rfl,rfl⟩
  |succ i=>
   have:=ih i (by simpa using a);rw[show(i+1) * 2=i * 2+1+1 by omega];simpa using this
end ch
namespace ch
open vl
theorem N5(p q:List (Int×Value)):Bd (p++q)=Bd p++Bd q:=by unfold Bd;rw[flatMap_append]
theorem U9{p:List (Int×Value)}(h:∀x∈p,x.2.oneCell'=true):∀u∈Bd p,u.oneCell'=true:=by
 intro u a;unfold Bd at a;obtain⟨x,b,a⟩:=mem_flatMap.1 a;simp at a;rcases a with rfl|rfl
 ·rfl
 ·exact h x b
end ch
namespace ch
open vl
end ch
end Go.Proofs.YtfkihidbnfkbaaaGreatDoor
