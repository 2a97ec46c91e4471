import Derived.Test.YtfkihidbnfkbaaaGreatDoorPv29
set_option linter.all false
open Go.ChangeShapes Go.WideShapes Go.ChangeAt Go.RowKit List
open Inhabited renaming default->ϰ
namespace Go.Proofs.YtfkihidbnfkbaaaGreatDoor
namespace jn
open vl bf
attribute [local go_sem] Oper.semAt_some
variable {p : pl.Pln} {s : Jn} {v : Value} {l ml : List Ent} {k q : Nat} {X w' w2 w3 wr : Ϙ} {T : TypeId} {o : Obj} {r : Option Nat}
def IJ(vs:List Ent)(e:Ent):Option Ent:=(vs.filter λy=>decide (y.time<=e.time)).getLast?
def Gn(vs:List Ent)(t:Int)(e:Ent):Bool:=match IJ vs e with
 |some o=>decide (o.time<=t)
 |none=>true
def Ko(p:pl.Pln)(v:Ev)(vs:List Ent)(e:Ent):List ch.Chg:=match IJ vs e with
 |some o=>[⟨3,AX 1 e.row o.row⟩,⟨4,AX v.side v.row e.row⟩]
 |none=>if Ct p.mode 1=true then [⟨3,AW p 1 e.row⟩,⟨4,AX v.side v.row e.row⟩]else [⟨1,AX v.side v.row e.row⟩]
def FA(p:pl.Pln)(s:Jn)(v:Ev):List Ent:=CJ s.R (pl.Ar p v.side v.row) (-1099511627776) 1099511627776
theorem Ui{v:Ev}(h:v.side=2):DI p s v=(BF p s v v.time 1099511627776).filter (Gn (FA p s v) v.time):=by
 unfold DI BF;have e:Aj s (3 - v.side)=s.L:=by rw[h];rfl
 rw[e];rfl
theorem Kq(h:k<l.length):l.take (k+1)=l.take k++[l.getD k ϰ]:=by
 rw[take_succ_eq_append_getElem h,gDe,gEe h];rfl
theorem Uj(f:Ent->Bool)(h:k<l.length):(l.take (k+1)).filter f=(l.take k).filter f++(if f (l.getD k ϰ)=true then [l.getD k ϰ]else []):=by
 rw[Kq h,filter_append]
 congr 1
 obtain⟨z,a⟩:=nM (l.getD k ϰ);rw[a]
 cases e:f z<;>simp[e]
theorem YF(b:Buf)(k:ByteArray)(a z:Int):O8 (CJ b k a z):=by
 intro i j g c;rcases Nat.eq_or_lt_of_le g with rfl|h
 ·exact Int.le_refl _
 ·have e:=M8 ((Ab b).filter λy=>decide (y.key=k)&&decide (a<=y.time)&&decide (y.time<=z)) i j h c;have d:∀i,i<(CJ b k a z).length->((CJ b k a z).getD i ϰ).key=k:=λi f=>by
   have n:(CJ b k a z).getD i ϰ∈CJ b k a z:=AO f;have:=(mem_filter.1 ((BC _).mem_iff.1 n)).2;simp only[Bool.and_eq_true]at this;exact of_decide_eq_true this.1.1
  have t:=d i Ϝ;have u:=d j c;unfold CJ at *;refine Int.not_lt.1 (λm=>e ?_)
  right
  exact⟨by rw[t,u],.inl m⟩
theorem LF{n:Ϙ}{b:Nat}{x:pl.PA}{y:JX}{N t:Value}{I L:List CO}(d:JSt n X b T p x s y N I)(u:calmC T)(f:JSt n w2 b T p x s y t L)(i:BD T X w2)(m:(w2.alloc o).grownBy w3 r)(G:∀g,r=some g->X.heap.size<=g/\Ae w2 g 166):JSt n w3 b T p x s y t L/\BD T X w3:=by
 have H:w2.heap.size<=w3.heap.size:=by have:=m.size;rw[World.size_alloc]at this;omega
 have C:∀g,g<w2.heap.size->r≠some g->w3.heap[g]? =w2.heap[g]? :=λg a j=>(m.block g (by rw[World.size_alloc];omega) (λe=>j e.symm)).trans (Below.heap_alloc _ _ _ a);have z:∀g e,Ae w2 g e->e≠166->w3.heap[g]? =w2.heap[g]? :=λg e a j=>C g (A6 a) (λJ=>tyAt_apart a (G g J).2 j rfl);have E:∀g,g<X.heap.size->w3.heap[g]? =w2.heap[g]? :=λg a=>C g (Nat.lt_of_lt_of_le a i.1.size) (λe=>by have:=(G g e).1;omega);have c:BD T X w3:=⟨⟨m.os.trans i.1.os,m.tape.trans i.1.tape,m.output.trans i.1.output,Nat.le_trans i.1.size H,λk h=>absurd h (Nat.not_lt_zero k)⟩,λg e a j K=>(E g (A6 a)).trans (i.2 g e a j K)⟩;have A:w3.heap[b]? =w2.heap[b]? :=z b T f.ty u.t.e;have F:∀{Z:BX} {B:Buf},OB X n Z B->OB w3 n Z B:=λM=>OB.other M c.1.size (λg w=>w.elim (λq=>c.2 g _ q u.t.e.symm ϝ) (λq=>c.2 g _ q u.t.v.symm ϝ)) (λg q=>c.2 g _ q u.t.h.symm ϝ);refine⟨⟨Hw f.box A,Ao f.ty A,f.up,F d.l,F d.r,d.ap,CG.other f.cg H (λg w=>w.elim (λq=>z g _ q ϝ) (λq=>z g _ q ϝ)),?_⟩,c⟩;exact⟨c.1.os.trans d.bl.os,c.1.tape.trans d.bl.tape,c.1.output.trans d.bl.output,Nat.le_trans d.bl.size c.1.size,λk D=>((E k (Nat.lt_of_lt_of_le D d.bl.size)).trans ((f.bl.block k D))).trans rfl⟩
structure MetL(X wr:World)(v:Value)(ems:List EM)(ml:List Ent):Prop where
 own:wr.ownsRow X.heap.size 166 5 v ems.length (A0 ems)
 len:ems.length=ml.length
 seq:∀k,k<ml.length->(ems.getD k ϰ).seq=(ml.getD k ϰ).seq
theorem MetL.keep{ems:List EM}(h:MetL X wr v ems ml)(a:calmC T)(c:BD T wr w'):MetL X w' v ems ml:=⟨As h.own (λg b=>c.2 g _ (Ay h.own b) a.t.e.symm ϝ),h.len,h.seq⟩
theorem MetL.below{ems:List EM}(h:MetL X wr v ems ml)(a:ϛ wr w'):MetL X w' v ems ml:=⟨own_below h.own a,h.len,h.seq⟩
theorem MetL.snoc{v':Value}{ems:List EM}{e:EM}{z:Ent}(h:MetL X w2 v ems ml)(d:e.seq=z.seq)(c:w3.ownsRow X 166 5 v' (ems.length+1) (A0 ems++[.string e.key,vI e.time,vI e.seq,hdV e.row,.bool e.met])):MetL X w3 v' (ems++[e]) (ml++[z]):=by
 refine⟨by rw[lAp,H8];exact c,by rw[lAp,lAp,h.len];rfl,λk b=>?_⟩;rw[lAp]at b;by_cases a:k<ml.length
 ·rw[AK a,AK (by rw[h.len];exact a)];exact h.seq k a
 ·have:k=ml.length:=by simp at b;omega
  subst this;rw[AB nR,AB (by rw[h.len];exact Nat.le_refl _),h.len,Nat.sub_self];exact d
theorem MetL.at{ems:List EM}(h:MetL X wr v ems ml):∃a c,v=vS a ml.length c/\C5 wr a ems:=by
 have d:=h.own;have e:=MA d;rw[h.len]at e;refine⟨OO v,Sq v,e,?_⟩;intro i B;rcases d.2 with⟨f,E⟩|⟨g,C,D,f,F⟩
 ·omega
 ·have b:=World.ownsRow.cells d (g:=g) (by rw[f];rfl);obtain⟨w,x,y,z,A⟩:=GH ems i B;have j:=b _ _ w;have m:=b _ _ x;have n:=b _ _ y;have t:=b _ _ z;have u:=b _ _ A;rw[bf.De]at j m n t u;exact⟨g,0,by rw[f];rfl,j,m,n,t,u⟩
theorem Fe{t:Array Oper}{rest:List Oper}{o:Oper}{a:Act}{Q:Exit->Act->World->Prop}(z:o.guard=none)(s x:Operand)
 (C:o.op= .call {callee:=.builtin .append,args:=#[s,x],argTypes:=#[33,33]})
 (base:Nat) (v:Value) (L:List EM) (e:ByteArray) (j i:Int) (ad:ϙ) (m cap:Nat) (f:Bool) (c:Ϙ) (b:Nat) (O:L.length=b) (B:c.ownsRow base 166 5 v b (A0 L)) (N:b<=1000000) (M:base<=c.heap.size)
 (D:a.eval s=v) (E:a.eval x=vS (τ c) 1 1)
 (h:∀g d w2,w2.ownsRow base 166 5 (vS (τ g) (b+1) d) (b+1) (A0 L++[.string e,vI j,vI i,vS ad m cap,.bool f])->(c.alloc (.cells (ζ e j i ad m cap f) 166)).grownBy w2 v.ownBlock->wpList Tryz.prog t Q rest (a.put o.dst (vS (τ g) (b+1) d)) w2):
 wpList Tryz.prog t Q (o::rest) a (ξ c (ζ e j i ad m cap f) 166):=by
 obtain⟨I,A,F,G,H⟩:=info_parts SH;refine wpList_append_lies _ z s x 33 C base 166 I (.agg #[ϊ,ω,ω,ψ,ϋ]) 5 64 Tryz.underlying33 A F G H rfl ϝ v b (A0 L) D
  (B.alloc _) ⟨c,0,none⟩ 1 1 [.string e,vI j,vI i,vS ad m cap,.bool f] E rfl (Eg _ _ _ _ _ _ _) (by intro u n;simp at n;rcases n with rfl|rfl|rfl|rfl|rfl<;>rfl) ϝ Ϧ Ϝ ϡ (c.heap.size+1) Ϟ ?_
 intro g d w2 w y J K;exact h g d w2 w y
theorem LG{α β:Type}(f:α->List β)(a:α):[a].flatMap f=f a:=Ϟ
theorem Uk{m:Nat}(h:m<l.length):(l.take (m+1)).getLast? =some (l.getD m ϰ):=by
 rw[Kq h,getLast?_append];rfl
theorem Im{i:Nat}(c:(w2.alloc o).grownBy w3 r)(f:∀g,r=some g->g≠q)(b:Δ w2 q i v):Δ w3 q i v:=by
 have d:q<w2.heap.size:=bLt _ _ b;exact(cOb (w:=w2) (a:=⟨q,i,none⟩) ((c.block q (by rw[World.size_alloc];omega) (λe=>f q e.symm rfl)).trans (Below.heap_alloc _ _ _ d))).trans b
theorem LH{t:TypeId}(b:(w2.alloc o).grownBy w3 r)(d:∀g,r=some g->g≠q)(a:Ae w2 q t):Ae w3 q t:=by
 have c:=A6 a;exact Ao a ((b.block q (by rw[World.size_alloc];omega) (λe=>d q e.symm rfl)).trans (Below.heap_alloc _ _ _ c))
end jn
end Go.Proofs.YtfkihidbnfkbaaaGreatDoor
