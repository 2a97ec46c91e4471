import Derived.Test.YtdohnkkbkfhphaaGreatPw35
import Derived.Test.YtdohnkkbkfhphaaGreatPw40
set_option linter.all false
open Go.ChangeShapes Go.WideShapes Go.ChangeAt Go.RowKit List
open Inhabited renaming default->ϰ
namespace Go.Proofs.YtdohnkkbkfhphaaGreat
namespace jn
open vl bf
variable {p : pl.Pln} {s : Jn} {a b q : List Ent} {k : Nat}
def sqE(y:Ent):Ent:=⟨⟨#[]⟩,0,y.seq,[],false⟩
structure CJ(p:pl.Pln)(s:Jn)(D:List (Int×Ent))(q:List Ent):Prop where
 below:∀e∈D,e.2.seq<s.seq
 row:∀e∈D,EW p e.1 e.2=true
 once:(D.map (·.2.seq)).Nodup
 perm:q.Perm (D.map λe=>sqE e.2)
 rise:Dh q
theorem AcO(p:pl.Pln)(s:Jn):CJ p s [] []:=⟨λe c=>absurd c not_mem_nil,λe c=>absurd c not_mem_nil,nodup_nil,List.Perm.refl _,List.Pairwise.nil⟩
theorem CJ.has{D:List (Int×Ent)}(h:CJ p s D q)(y:Ent):hasB q (Az (sqE y))=true↔y.seq∈D.map (·.2.seq):=by
 unfold hasB;rw[any_eq_true]
 constructor
 ·rintro ⟨z,i,d⟩;obtain⟨e,f,rfl⟩:=mem_map.1 (h.perm.mem_iff.1 i);have d:=of_decide_eq_true d;have:e.2.seq=y.seq:=congrArg (λt=>t.2.2) d;exact mem_map.2 ⟨e,f,this⟩
 ·intro g;obtain⟨e,f,c⟩:=mem_map.1 g;refine⟨sqE e.2,h.perm.mem_iff.2 (mem_map.2 ⟨e,f,rfl⟩),decide_eq_true ?_⟩;show(_,_,_)=(_,_,_);have c:e.2.seq=y.seq:=c;rw[show(sqE e.2).seq=(sqE y).seq from c];rfl
theorem CJ.more{D:List (Int×Ent)}{g:List Ent}{d:Int}{y:Ent}(h:CJ p s D q)(h1:y.seq<s.seq)(i:EW p d y=true)(j:hasB q (Az (sqE y))=false)(m:g.Perm (sqE y::q))(n:Dh g):CJ p s (D++[(d,y)]) g:=by
 have l:y.seq ∉ D.map (·.2.seq):=λk=>by
  have:=(h.has y).2 k;rw[j]at this
  cases this
 refine⟨λe f=>?_,λe f=>?_,?_,?_,n⟩
 ·rcases mem_append.1 f with k|k
  ·exact h.below e k
  ·rw[mem_singleton.1 k];exact h1
 ·rcases mem_append.1 f with k|k
  ·exact h.row e k
  ·rw[mem_singleton.1 k];exact i
 ·rw[map_append];refine nodup_append.2 ⟨h.once,pairwise_singleton ..,λa ha b c e=>?_⟩;have c:b=y.seq:=mem_singleton.1 c;rw[c]at e;exact l (e▸ha)
 ·rw[map_append];exact m.trans ((h.perm.cons _).trans (perm_append_singleton (sqE y) _).symm)
def C1(a b:List Ent):List (Int×Ent):=a.map (λy=>((1:Int),y))++b.map (λy=>((2:Int),y))
theorem VR(a b:List Ent):(C1 a b).map (·.2.seq)=(a++b).map (·.seq):=by
 unfold C1;rw[map_append,map_append,map_map,map_map];rfl
def Pm(p:pl.Pln)(s:Jn):Bool:=decide (s.L.lim=p.limit)&&decide (s.R.lim=p.limit)
theorem Z7(ha:a.Perm (Aa s.L))(f:b.Perm (Aa s.R))(d:Pm p s=true)(h:CJ p s (C1 a b) q):C4 p s=true:=by
 have e:(a++b).Perm (Aa s.L++Aa s.R):=ha.append f;unfold Pm at d;rw[Bool.and_eq_true]at d;have j:Ji s=true:=by
  unfold Ji;refine decide_eq_true ⟨λy c=>?_,?_⟩
  ·rcases mem_append.1 (e.mem_iff.2 c)with k|k
   ·exact h.below (1,y) (mem_append.2 (.inl (mem_map.2 ⟨y,k,rfl⟩)))
   ·exact h.below (2,y) (mem_append.2 (.inr (mem_map.2 ⟨y,k,rfl⟩)))
  ·have:=h.once;rw[VR]at this;exact((e.map (·.seq)).nodup_iff).1 this
 have g:Hr p 1 s.L=true:=all_eq_true.2 λy c=>h.row (1,y) (mem_append.2 (.inl (mem_map.2 ⟨y,ha.mem_iff.2 c,rfl⟩)));have i:Hr p 2 s.R=true:=all_eq_true.2 λy c=>h.row (2,y) (mem_append.2 (.inr (mem_map.2 ⟨y,f.mem_iff.2 c,rfl⟩)));unfold C4;rw[d.1,d.2,j,g,i];rfl
theorem Pn(c:Pm p s=false):C4 p s=false:=by
 unfold Pm at c;unfold C4;rw[c];simp
theorem Abi(ha:a.Perm (Aa s.L))(l:b.Perm (Aa s.R))(h:CJ p s ((C1 a b).take k) q)(n:k<(C1 a b).length)
 (c:s.seq<=((C1 a b).getD k (0,ϰ)).2.seq\/EW p ((C1 a b).getD k (0,ϰ)).1 ((C1 a b).getD k (0,ϰ)).2=false\/hasB q (Az (sqE ((C1 a b).getD k (0,ϰ)).2))=true):C4 p s=false:=by
 have v:(a++b).Perm (Aa s.L++Aa s.R):=ha.append l;have o:(C1 a b).getD k (0,ϰ)∈C1 a b:=AD n;have m:∀e∈C1 a b,(e.1=1/\e.2∈Aa s.L)\/(e.1=2/\e.2∈Aa s.R):=λe w=>by
  rcases mem_append.1 w with j|j
  ·obtain⟨y,g,rfl⟩:=mem_map.1 j;exact .inl ⟨rfl,ha.mem_iff.1 g⟩
  ·obtain⟨y,g,rfl⟩:=mem_map.1 j;exact .inr ⟨rfl,l.mem_iff.1 g⟩
 have r:∀d:¬EC s.seq (Aa s.L++Aa s.R),C4 p s=false:=λd=>by
  have e:Ji s=false:=decide_eq_false d;unfold C4;rw[e];simp
 rcases c with c|c|c
 ·refine r (λd=>?_);have:((C1 a b).getD k (0,ϰ)).2∈Aa s.L++Aa s.R:=by
   rcases m _ o with⟨_,j⟩|⟨_,j⟩
   ·exact mem_append.2 (.inl j)
   ·exact mem_append.2 (.inr j)
  have:=d.1 _ this;omega
 ·rcases m _ o with⟨f,j⟩|⟨f,j⟩
  ·rw[f]at c;have:Hr p 1 s.L=false:=all_eq_false.2 ⟨_,j,by rw[c];decide⟩;unfold C4;rw[this];simp
  ·rw[f]at c;have:Hr p 2 s.R=false:=all_eq_false.2 ⟨_,j,by rw[c];decide⟩;unfold C4;rw[this];simp
 ·refine r (λd=>?_);have t:=(h.has _).1 c;have i:((C1 a b).map (·.2.seq)).Nodup:=by
   rw[VR];exact((v.map (·.seq)).nodup_iff).2 d.2
  have e:C1 a b=(C1 a b).take k++((C1 a b).getD k (0,ϰ)::(C1 a b).drop (k+1)):=by
   rw[getD_at n,getElem_cons_drop,take_append_drop]
  rw[e,map_append,map_cons]at i;have u:=(nodup_append.1 i).2.2 _ t _ (mem_cons_self ..);exact u rfl
theorem Abj(h:k<a.length):(C1 a b).getD k (0,ϰ)=(1,a.getD k ϰ)/\(C1 a b).take (k+1)=(C1 a b).take k++[(1,a.getD k ϰ)]:=by
 have c:k<(C1 a b).length:=by unfold C1;rw[lAp,lMp];omega
 have e:(C1 a b).getD k (0,ϰ)=(1,a.getD k ϰ):=by
  rw[gDe,gDe];unfold C1;rw[getElem?_append_left (by rw[lMp];exact h),getElem?_map,gEe h];rfl
 refine⟨e,?_⟩;rw[take_succ_eq_append_getElem c,<-getD_at (d:=(0,ϰ)) c,e]
theorem Abk(h:k<b.length):(C1 a b).getD (a.length+k) (0,ϰ)=(2,b.getD k ϰ)/\(C1 a b).take (a.length+(k+1))=(C1 a b).take (a.length+k)++[(2,b.getD k ϰ)]:=by
 have c:a.length+k<(C1 a b).length:=by unfold C1;rw[lAp,lMp,lMp];omega
 have e:(C1 a b).getD (a.length+k) (0,ϰ)=(2,b.getD k ϰ):=by
  rw[gDe,gDe];unfold C1;rw[getElem?_append_right (by rw[lMp];omega),lMp,Nat.add_sub_cancel_left,getElem?_map,gEe h];rfl
 refine⟨e,?_⟩;rw[<-Nat.add_assoc,take_succ_eq_append_getElem c,<-getD_at (d:=(0,ϰ)) c,e]
theorem Po(m:Int):bf.A8 m (-1099511627777) 1099511627776=CW m:=by
 unfold bf.A8 CW tm.Bc noMark;rw[Bool.eq_iff_iff];simp only[Bool.or_eq_true,decide_eq_true_eq];omega
end jn
end Go.Proofs.YtdohnkkbkfhphaaGreat
