import Derived.Test.YtfkihidbnfkbaaaGreatDoorPv33
set_option linter.all false
set_option maxHeartbeats 4000000
set_option maxRecDepth 100000
open Inhabited renaming default->ϰ
open List renaming length->ϲ
namespace Go.Proofs.YtfkihidbnfkbaaaGreatDoor
open ChangeShapes WideShapes ChangeAt RowKit List Proofs.Tryz
namespace cd
open vl bf
variable {w w' : ϟ} {C D R : Nat} {l : List (List Ent)} {b : Buf}
def F1(C:Nat):Value:=.func (.func 178) #[] #[ω C]
def FP(w:World)(D C:Nat):Prop:=CW w D 240 0 (F1 C)
def FP.keep(h:FP w D C)(a:keepW w w'):FP w' D C:=CW.keep h a Ϥ Ϥ
def FP.below(h:FP w D C)(a:Ϣ w w'):FP w' D C:=CW.below h a
theorem AeD(c:ϟ)(C D B:Nat)(d:List UInt8)(a:Ϡ)(cap:Nat)(f:List EM)(l:List Ent)(w:ϟ)(q:Ϣ c w)(h:WR w c.heap.size B d)(g:WP w C B)(j:FP w D C)(ha:Cn c a f)(i:ERs c f l)(p:∀x∈l,okW x)(m:ϲ l<=10000)(k:ϲ d+4000 * ϲ l<=8900000000000):
 χ 182 #[vS a (ϲ l) cap,ω C,ω D] w (WO c.heap.size B w (d++BI l)):=by
 have e:ϡ (CT 180 #[ω B,vS a (ϲ l) cap,F1 C] w (WO c.heap.size B w (d++BI l))):=T6 c C B d a cap f l w q h g ha i p m k;have z:=g.2;have s:=j.2;unfold F1 at e s;obtain⟨n,o⟩:=nM (ϲ l);rw[o]at e⊢;clear ha i p h g j o m k;go_enter func182,ntmps182;go_wp2_with fail;refine e.o.mono ?_;rintro y A ⟨rfl,u,r,t⟩;go_wp2
 go_end0
 exact⟨rfl,u,r,t⟩
def IZ(l:List (List Ent)):List UInt8:=AM (ϲ l)++l.flatMap BI
def OA{l:List Ent}(h:∀x∈l,okW x):ϲ (BI l)<=8+4000 * ϲ l:=by
 have:=O1 h;unfold BI;rw[lAp,As];omega
theorem OD(h:∀r∈l,∀x∈r,okW x):ϲ (l.flatMap BI)<=8 * ϲ l+4000 * ϲ l.flatten:=by
 induction l with
 |nil=>simp
 |cons x l ih=>
  have a:=OA (h x (E0 ..));have c:=ih (λy hy=>h y (EQ _ hy));rw[aH,lAp,DP,aQ,lAp];omega
def Hx{α:Type}(l:List (List α))(k:Nat):ϲ (l.take k).flatten<=ϲ l.flatten:=by
 have:=Bk (λz=>ϲ z.flatten) (PP k l)
 try dsimp only at this
 rw[cE,lAp]at this;omega
theorem FN{α:Type}{l:List (List α)}{r:List α}(h:r∈l):ϲ r<=ϲ l.flatten:=by
 induction l with
 |nil=>cases h
 |cons x l ih=>
  rw[aQ,lAp];rcases E3.1 h with rfl|h
  ·omega
  ·have:=ih h;omega
theorem Acf(c:ϟ)(C D B:Nat)(j:List UInt8)(a:Ϡ)(cap:Nat)(rs:List Part)(l:List (List Ent))(w:ϟ)(M:Ϣ c w)(h:WR w c.heap.size B j)(hc:WP w C B)(hd:FP w D C)(ha:Gj c a (rs.map (·.1)))(ah:∀p∈rs,p.1.2.1=ϲ p.2)(af:∀p∈rs,Cn c p.1.1 p.2)(aj:ϲ rs=ϲ l)(s:∀i,i<ϲ l->ERs c (rs.getD i ϰ).2 (l.getD i ϰ))(A:∀r∈l,∀x∈r,okW x)(hn:ϲ l<=10000)(hf:ϲ l.flatten<=10000)(hl:ϲ j<=4000000000000):
 χ 181 #[ω B,vS a (ϲ l) cap,.func (.func 182) #[] #[ω C,ω D]] w (WO c.heap.size B w (j++IZ l)):=by
 have KN:=hIz (λn=>Cd c.heap.size B j n w M.size h ϣ);have Q:∀i,i<ϲ l->l.getD i ϰ∈l:=λi O=>by rw[gDe,gEe O];exact GE O
 have S:∀i,i<ϲ l->rs.getD i ϰ∈rs:=λi O=>by rw[gDe,gEe ϣ];exact GE _
 have U:=hV0 ha;have HT:ϡ (∀k,ϲ ((l.take k).flatMap BI)<=40100000):=λk=>by
  have:=OD (l:=l.take k) (λr T=>A r (cJ T));have h2:ϲ (l.take k)<=ϲ l:=fB ..;have L:=Hx l k;omega
 have G:ϡ (∀k,k<ϲ l->(l.take (k+1)).flatMap BI=(l.take k).flatMap BI++BI (l.getD k ϰ)):=λk f=>Ec BI l k f;have V:ϡ (j++AM (ϲ l)++(l.take (ϲ l)).flatMap BI=j++IZ l):=by
  show _=_;unfold IZ;rw[Ok,Bx]
 have I:ϡ (∀k,k<ϲ l->(rs.map (·.1)).getD k (none,0,0)=((rs.getD k ϰ).1.1,ϲ (l.getD k ϰ),(rs.getD k ϰ).1.2.2)):=λk f=>by
  have e1:(rs.map (·.1)).getD k (none,0,0)=(rs.getD k ϰ).1:=by
   rw[gDe,L7,gDe,gEe ϣ];rfl
  rw[e1,<-(s k f).1,<-ah _ (S k f)]
 have J:ϡ (∀k,k<ϲ l->∀d g,Ϣ c d->WR d c.heap.size B g->WP d C B->FP d D C->ϲ g<=8900000000000 - 4000 * 10000+4000000000000->ϲ g+4000 * ϲ (l.getD k ϰ)<=8900000000000->CT 182 #[vS (rs.getD k ϰ).1.1 (ϲ (l.getD k ϰ)) (rs.getD k ϰ).1.2.2,ω C,ω D] d (WO c.heap.size B d (g++BI (l.getD k ϰ)))):=λk f d g z h1 an ao aw ar=>by
  have N:=FN (Q k f);exact AeD c C D B g _ _ (rs.getD k ϰ).2 _ d z h1 an ao (af _ (S k f)) (s k f) (A _ (Q k f)) ϣ ar
 have H:ϡ (∀k,k<ϲ l->ϲ (l.getD k ϰ)+(ϲ (l.take k).flatten)<=10000):=λk f=>by
  have L:=Hx l (k+1);rw[M1 f,cE,lAp]at L;have e:l.getD k ϰ=l[k]:=by rw[gDe,gEe f];rfl
  rw[e];simp at L⊢;simp at hf;omega
 have Z:ϡ (∀k,ϲ ((l.take k).flatMap BI)<=80000+4000 * ϲ (l.take k).flatten):=λk=>by
  have:=OD (l:=l.take k) (λr T=>A r (cJ T));have h2:ϲ (l.take k)<=ϲ l:=fB ..;omega
 obtain⟨n,y⟩:=nM (ϲ l);have HN:=hV0 y;rw[y]at G J hn I H⊢;rw[y]at V;have X:ϡ (WP w C B/\FP w D C):=⟨hc,hd⟩;have W:=hV0 M;have al:ϡ (ϲ rs=n):=aj.trans y;clear ha s A y h hc M hd ah af aj Q S hf HT;go_enter func181,ntmps181;go_wp2_with fail;refine(KN.o _).mono ?_;rintro e d ⟨rfl,ak,z,ag⟩;have aa:ϡ (WR d c.heap.size B (j++AM n)/\Below c.heap.size w d/\keepW w d):=⟨ak,z,ag⟩;clear ak z ag KN;go_wp2_with fail
 go_loopw [14] (λi wr=> ∃k:Nat,k<=n/\i=vI k/\WR wr c.heap.size B (j++AM n++(l.take k).flatMap BI)/\Below c.heap.size w wr/\keepW w wr) (λi _=>n - (intOf i).toNat)
 case atStart=>exact⟨0,At _,rfl,by simpa using aa.o.1,aa.o.2⟩
 case round=>
  obtain⟨k,f,rfl,F,t,P⟩:=hrel;by_cases u:k<n
  ·obtain⟨b,ay,e,o⟩:=U.o k (by rw[lMp,al.o];exact u);subst e;rw[I.o k u]at o;unfold hdV at o;dsimp only at o;have ac:=W.o.trans t;replace o:=cLz ac o;have au:=Z.o k;have ai:=H.o k u;have K:=J.o k u;have Y:ϡ ((l.take (k+1)).flatMap BI=(l.take k).flatMap BI++BI (l.getD k ϰ)):=G.o k u;obtain⟨E,s⟩:=nM (BI (l.getD k ϰ));rw[s]at K Y;obtain⟨m,hm⟩:=nM (ϲ (l.getD k ϰ));rw[hm]at K o ai;obtain⟨ad,ab⟩:=nM ((rs.getD k ϰ).1.1);obtain⟨cp,ae⟩:=nM ((rs.getD k ϰ).1.2.2);rw[ab,ae]at K o;obtain⟨fl,N⟩:=nM (ϲ (l.take k).flatten);rw[N]at au ai;have KH:ϡ (∀d g,Ϣ c d->WR d c.heap.size B g->WP d C B->FP d D C->ϲ g<=8900000000000 - 4000 * 10000+4000000000000->ϲ g+4000 * m<=8900000000000->CT 182 #[vS ad m cp,ω C,ω D] d (WO c.heap.size B d (g++E))):=K;have q:ϡ (WR wr c.heap.size B (j++AM n++(l.take k).flatMap BI)/\Below c.heap.size w wr/\keepW w wr):=⟨F,t,P⟩;have ax:=t.size;have i1:=nn0 k;have i2:(k:Int)<(n:Int):=ϣ;clear K s hm ab ae N F t P ac J U G I H Z;go_wp2_with fail;refine(KH.o _ _ (W.o.trans q.o.2.1) q.o.1 (X.o.1.keep q.o.2.2) (X.o.2.keep q.o.2.2) (by simp only[lAp,As];omega) (by simp only[lAp,As];omega)).mono ?_;rintro e w2 ⟨rfl,av,am,ap⟩;go_wp2;go_roundw;exact⟨k+1,ϣ,by go_num,by rw[Y.o,<-Bx];exact av,q.o.2.1.trans am,q.o.2.2.trans ap⟩;simp[intOf];omega
  ·have aq:k=n:=ϣ;subst aq;have i2:¬((k:Int)<(k:Int)):=ϣ;rw[V.o]at F;go_wp2
   go_end0
   exact⟨rfl,F,t,P⟩
def G1(C:Nat):Value:=.func (.func 204) #[] #[ω C]
structure GP(w:World)(D C R:Nat):Prop where
 cell:Δ w D 0 (G1 C)
 ne:D≠R
 lt:D<w.heap.size
def GP.keep(h:GP w D C R)(c:Ah R w w'):GP w' D C R:=⟨(cOb (w:=w) (a:=⟨D,0,none⟩) (c.2 D h.lt h.ne)).trans h.cell,h.ne,NE h.lt c.1.size⟩
structure RS(w:World)(base:Nat)(v:Value)(ps:List Part)(l:List (List Ent)):Prop where
 own:w.ownsRow base 33 1 v (ϲ ps) (ps.map λp=>hdV p.1)
 len:ϲ ps=ϲ l
 runs:∀i,i<ϲ l->(ps.getD i ϰ).1.2.1=ϲ (l.getD i ϰ)/\OE w base (hdV (ps.getD i ϰ).1) (ps.getD i ϰ).2 (l.getD i ϰ)
def RS.keptR{base:Nat}{v:Value}{ps:List Part}(h:RS w base v ps l)(e:Ah R w w')(a:Am w R 124):RS w' base v ps l:=
 ⟨A4 h.own (λg c=>e.2 g (AL h.own c).2 (tyAt_apart (Az h.own c) a Ϥ)),h.len,λi d=>⟨(h.runs i d).1,OE.keptR (h.runs i d).2 e a⟩⟩
def XX:(prog.info? 33).map (λi=>(i.zero,i.size,i.bytes))=some (some (vS none 0 0),1,24):=Ϧ
def BV(b:Buf):List UInt8:=BI b.mem++IZ b.runs
structure okBW(b:Buf):Prop where
 ents:∀x∈Ab b,okW x
 few:ϲ (Ab b)<=10000
 runs:ϲ b.runs<=10000
def okBW.mem(h:okBW b):(∀x∈b.mem,okW x)/\(ϲ b.mem)<=10000:=by
 have e:Ab b=b.mem++b.runs.flatten:=rfl;have:=h.few;rw[e,lAp]at this;exact⟨λx a=>h.ents x (by rw[e];exact Fk.2 (.inl a)),ϣ⟩
def okBW.run(h:okBW b):(∀r∈b.runs,∀x∈r,okW x)/\(ϲ b.runs.flatten)<=10000:=by
 have e:Ab b=b.mem++b.runs.flatten:=rfl;have:=h.few;rw[e,lAp]at this;exact⟨λr a x c=>h.ents x (by rw[e];exact Fk.2 (.inr (Th.2 ⟨r,a,c⟩))),ϣ⟩
def OG(h:okBW b):ϲ (IZ b.runs)<=8+8 * ϲ b.runs+4000 * ϲ b.runs.flatten:=by
 have:=OD h.run.1;unfold IZ;rw[lAp,As];omega
def Q2(h:okBW b):ϲ (BV b)<=41000000:=by
 have c:=OG h;have d:=OA h.mem.1;have a:=h.few;have f:=h.runs;have e:Ab b=b.mem++b.runs.flatten:=rfl;rw[e,lAp]at a;unfold BV;rw[lAp];omega
def run_store_func{P:Program}{a:Addr}{m:Mode}(f:Fn)(x y:Array Value):(store a (.func f x y) m).run P w=stored P w a (.func f x y) m:=run_store P w a _ m rfl
attribute [local go_sem] run_store_func
theorem XY(c:ϟ)(B:Nat)(d:List UInt8)(b:Buf)(x:BX)(w:ϟ)(A:Ϣ c w)(h:WR w c.heap.size B d)(ha:bufAt c b x)(g:okBW b)(F:ϲ d+ϲ (BI b.mem)<=4000000000000):
 χ 107 #[ω B,.agg (Ω b x)] w (WO c.heap.size B w (d++BV b)):=by
 have G:x.m.1.2.1=ϲ b.mem:=((ha.len _ (E0 ..)).1).trans ha.mem.1;have t:ϡ (∀C a,Ϣ c a->WR a c.heap.size B d->WP a C B->CT 180 #[ω B,vS x.m.1.1 x.m.1.2.1 x.m.1.2.2,F1 C] a (WO c.heap.size B a (d++BI b.mem))):=λC a i o r=>by
  rw[G];exact T6 c C B d _ _ x.m.2 b.mem a i o r (ha.ems _ (E0 ..)) ha.mem g.mem.1 g.mem.2 (by
   have:=g.mem.2;have W:ϲ d<=4000000000000:=ϣ;omega)
 have u:ϡ (∀C D a,Ϣ c a->WR a c.heap.size B (d++BI b.mem)->WP a C B->FP a D C->CT 181 #[ω B,vS x.ra (ϲ x.rs) x.rc,.func (.func 182) #[] #[ω C,ω D]] a (WO c.heap.size B a (d++BI b.mem++IZ b.runs))):=λC D a i o r Q=>by
  rw[ha.rlen];exact Acf c C D B _ x.ra x.rc x.rs b.runs a i o r Q ha.hds (λp s=>(ha.len p (EQ _ s)).1) (λp s=>ha.ems p (EQ _ s)) ha.rlen ha.runs g.run.1 g.runs g.run.2 (by rw[lAp];exact F)
 have J:ϡ (d++BI b.mem++IZ b.runs=d++BV b):=by
  show _=_;unfold BV;rw[Bx]
 obtain⟨k,H⟩:=nM (ϲ x.rs);rw[H]at u⊢;clear ha g H F G;unfold F1 at t;go_enter func107,ntmps107;go_wp2_with fail;generalize q:(World.alloc (World.alloc (World.alloc w _) _) _)=V;have m:Ϣ w V:=by rw[<-q];exact(Ϯ.alloc ϥ _).alloc Ϫ _
 have f:ϡ (WP V w.heap.size B/\FP V (w.heap.size+1+1) w.heap.size/\CW V (w.heap.size+1) 36 1 (vS x.m.1.1 x.m.1.2.1 x.m.1.2.2)/\CW V (w.heap.size+1) 36 2 (vS x.ra k x.rc)):=by
  subst q;have K:Am (ϊ w #[ω B] 66) w.heap.size 66:=⟨_,_,DE _ _⟩;have y:Am (ϊ (ϊ w #[ω B] 66) #[vI b.lim,vS x.m.1.1 x.m.1.2.1 x.m.1.2.2,vS x.ra k x.rc] 36) (w.heap.size+1) 36:=by
   have:=DE (ϊ w #[ω B] 66) (.cells #[vI b.lim,vS x.m.1.1 x.m.1.2.1 x.m.1.2.2,vS x.ra k x.rc] 36);rw[D0]at this;exact⟨_,_,this⟩
  have L:Am (ϊ (ϊ (ϊ w #[ω B] 66) #[vI b.lim,vS x.m.1.1 x.m.1.2.1 x.m.1.2.2,vS x.ra k x.rc] 36) #[F1 w.heap.size] 240) (w.heap.size+1+1) 240:=by
   have:=DE (ϊ (ϊ w #[ω B] 66) #[vI b.lim,vS x.m.1.1 x.m.1.2.1 x.m.1.2.2,vS x.ra k x.rc] 36) (.cells #[F1 w.heap.size] 240);rw[D0,D0]at this;exact⟨_,_,this⟩
  exact⟨⟨Ak (Ak K Ϯ) Ϯ,ϧ⟩,⟨L,by unfold F1;go_simp⟩,⟨Ak y Ϯ,ϧ⟩,⟨Ak y Ϯ,ϧ⟩⟩
 have n:ϡ (keepW w V/\Below c.heap.size w V):=⟨keepW.of m,m.mono A.size⟩;have E:Ϣ c V:=A.trans n.o.2;have T:WR V c.heap.size B d:=h.below m;clear q m h;have M:=f.o.1.2;have N:=f.o.2.2.1.2;have z:=f.o.2.1.2;unfold F1 at z;refine(t.o w.heap.size V E T f.o.1).mono ?_;rintro e a ⟨rfl,U,i,j⟩;replace M:=(f.o.1.keep j).2;replace N:=(f.o.2.2.2.keep j Ϥ Ϥ).2;clear z;have O:=E.trans i;go_wp2_with fail;refine(u.o w.heap.size (w.heap.size+1+1) a O U (f.o.1.keep j) (f.o.2.1.keep j)).mono ?_;rintro e X ⟨rfl,I,P,S⟩;rw[J.o]at I;go_wp2
 go_end0
 exact⟨rfl,I,n.o.2.trans (i.trans P),n.o.1.trans (j.trans S)⟩
variable {w : ϟ} {R base base' : Nat} {x : BX} {b : Buf} {v : Value}
structure BO(w:World)(base:Nat)(x:BX)(b:Buf):Prop where
 mem:OE w base (hdV x.m.1) x.m.2 b.mem
 runs:RS w base (vS x.ra (ϲ x.rs) x.rc) x.rs b.runs
theorem BO.at(h:BO w base x b):bufAt w b x:=by
 have c:∀p∈x.m::x.rs,∃l,OE w base (hdV p.1) p.2 l:=λp c=>by
  rcases E3.1 c with rfl|c
  ·exact⟨_,h.mem⟩
  ·obtain⟨i,a,rfl⟩:=LT c;have:=(h.runs.runs i (by rw[<-h.runs.len];exact a)).2;rw[gDe,gEe a]at this;exact⟨_,this⟩
 refine⟨λi a=>?_,λp e=>?_,λp e=>?_,?_,h.mem.ers,h.runs.len,λi a=>((h.runs.runs i a).2).ers⟩
 ·rw[lMp]at a;rcases h.runs.own.2 with⟨_,o⟩|⟨g,m,n,k,_⟩
  ·omega
  ·injection k with f _ _
   refine⟨g,0,f,?_⟩;have j:=RT h.runs.own (g:=g) (by rw[f];rfl) i (hdV (x.rs[i]).1) (by rw[L7,gEe a];rfl);rw[Di]at j;rw[gDe,L7,gEe a];exact j
 ·obtain⟨l,d⟩:=c p e;exact(GU d).1
 ·obtain⟨l,d⟩:=c p e;exact(GU d).2
 ·have:=Mt h.runs.own;unfold maxLen at this;omega
def RS.mono{ps:List Part}{l:List (List Ent)}(h:RS w base v ps l)(a:base'<=base):RS w base' v ps l:=⟨World.ownsRow.mono h.own a,h.len,λi c=>⟨(h.runs i c).1,(h.runs i c).2.mono a⟩⟩
def BO.mono(h:BO w base x b)(a:base'<=base):BO w base' x b:=⟨h.mem.mono a,h.runs.mono a⟩
def BO.keptR{w':ϟ}(h:BO w base x b)(c:Ah R w w')(a:Am w R 124):BO w' base x b:=⟨OE.keptR h.mem c a,h.runs.keptR c a⟩
def RV:(prog.info? 36).map (·.size)=some 3:=Ϧ
def Q3{W:ϟ}{N j:Nat}(h:Ah R w W)(d:w.heap.size<=N):Ah R w (ό W N j v):=
 ⟨h.1.setCell (At _) _,λg c a=>(CB _ _ _ _ ϩ).trans (h.2 g c a)⟩
end cd
namespace cd
open vl bf jn
def GI(s:Jn):List UInt8:=BV s.L++BV s.R++AM s.lm++AM s.rm++AM s.seq
def It{w w':ϟ}{b:Nat}{s:Jn}{y:JX}(h:BU w b s y/\Am w b 38)(a:keepW w w'):BU w' b s y/\Am w' b 38:=
 ⟨ZR h.1 (a.2 b _ h.2 Ϥ Ϥ),A1 h.2 (a.2 b _ h.2 Ϥ Ϥ)⟩
theorem Acg(a:ϟ)(B:Nat)(g:List UInt8)(s:Jn)(y:JX)(w:ϟ)(j:Ϣ a w)(h:WR w a.heap.size B g)(ha:joinAt a s y)(S:okBW s.L)(T:okBW s.R)(I:ϲ g+ϲ (GI s)<=3900000000000):
 χ 53 #[ω B,joinV s y] w (WO a.heap.size B w (g++GI s)):=by
 have o:ϡ (ϲ g+ϲ (BV s.L)+ϲ (BV s.R)+24<=3900000000000):=by
  show _<=_;unfold GI at I;simp only[lAp,As]at I;omega
 have K:=hIz (λ(c:ϟ) (i:Ϣ a c) (u:WR c a.heap.size B g)=>XY a B g s.L y.l c i u ha.l S (by have:=o.o;unfold BV at this;simp only[lAp]at this;omega));have M:ϡ (∀c,Ϣ a c->WR c a.heap.size B (g++BV s.L)->CT 107 #[ω B,.agg (Ω s.R y.r)] c (WO a.heap.size B c (g++BV s.L++BV s.R))):=λc i u=>XY a B _ s.R y.r c i u ha.r T (by have:=o.o;rw[lAp];unfold BV at this⊢;simp only[lAp]at this⊢;omega);have r:=hIz (λ(c:ϟ) t n (hw:WR c a.heap.size B t) (ad:ϲ t<=3900000000000) (i:a.heap.size<=c.heap.size)=>Cd a.heap.size B t n c i hw ϣ);have J:ϡ (g++BV s.L++BV s.R++AM s.lm++AM s.rm++AM s.seq=g++GI s):=by
  show _=_;unfold GI;simp only[Bx]
 rw[<-J.o];obtain⟨L,p⟩:=nM (BV s.L);obtain⟨R,z⟩:=nM (BV s.R);rw[p,z]at o;rw[p]at K;rw[p,z]at M⊢;clear ha S T I J p z;rw[AU];go_enter func53,ntmps53;go_wp2_with fail;generalize A:(World.alloc w _)=V;have q:Ϣ w V:=by rw[<-A];exact Ϯ
 have f:ϡ (BU V w s y/\Am V w 38):=by
  subst A;exact⟨C5 ..,_,_,DE _ _⟩
 have d:ϡ (keepW w V/\Below a.heap.size w V):=⟨keepW.of q,q.mono j.size⟩;have N:Ϣ a V:=j.trans d.o.2;have U:WR V a.heap.size B g:=h.below q;have ae:=o.o;clear A q h;obtain⟨u0,u1,u2,u3,u4,u5,u6,u7,u8⟩:=f.o.1;refine(K.o V N U).mono ?_;rintro e c ⟨rfl,W,i,E⟩;replace f:ϡ (BU c w s y/\Am c w 38):=It f.o E;replace d:ϡ (keepW w c/\Below a.heap.size w c):=⟨d.o.1.trans E,d.o.2.trans i⟩;clear u0 u1 u2 u3 u4 u5 u6 u7 u8 U N E i;obtain⟨u0,u1,u2,u3,u4,u5,u6,u7,u8⟩:=f.o.1;go_wp2_with fail;refine(M.o c (j.trans d.o.2) W).mono ?_;rintro e k ⟨rfl,X,O,F⟩;replace f:ϡ (BU k w s y/\Am k w 38):=It f.o F;replace d:ϡ (keepW w k/\Below a.heap.size w k):=⟨d.o.1.trans F,d.o.2.trans O⟩;clear u0 u1 u2 u3 u4 u5 u6 u7 u8 W F O;obtain⟨u0,u1,u2,u3,u4,u5,u6,u7,u8⟩:=f.o.1;go_wp2_with fail;refine(r.o k _ _ X (by simp only[lAp,As];omega) (j.trans d.o.2).size).mono ?_;rintro e m ⟨rfl,Y,P,G⟩;replace f:ϡ (BU m w s y/\Am m w 38):=It f.o G;replace d:ϡ (keepW w m/\Below a.heap.size w m):=⟨d.o.1.trans G,d.o.2.trans P⟩;clear u0 u1 u2 u3 u4 u5 u6 u7 u8 X G P;obtain⟨u0,u1,u2,u3,u4,u5,u6,u7,u8⟩:=f.o.1;go_wp2_with fail;refine(r.o m _ _ Y (by simp only[lAp,As];omega) (j.trans d.o.2).size).mono ?_;rintro e w4 ⟨rfl,ab,Q,H⟩;replace f:ϡ (BU w4 w s y/\Am w4 w 38):=It f.o H;replace d:ϡ (keepW w w4/\Below a.heap.size w w4):=⟨d.o.1.trans H,d.o.2.trans Q⟩;clear u0 u1 u2 u3 u4 u5 u6 u7 u8 Y H Q;obtain⟨u0,u1,u2,u3,u4,u5,u6,u7,u8⟩:=f.o.1;go_wp2_with fail;refine(r.o w4 _ _ ab (by simp only[lAp,As];omega) (j.trans d.o.2).size).mono ?_;rintro e w5 ⟨rfl,ac,Z,aa⟩;go_wp2
 go_end0
 exact⟨rfl,ac,d.o.2.trans Z,d.o.1.trans aa⟩
end cd
