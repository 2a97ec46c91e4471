import Derived.Test.YtdohnkkbkfhphaaGreatPw17
import Derived.Test.YtdohnkkbkfhphaaGreatPw19
set_option linter.all false
set_option maxHeartbeats 8000000
set_option maxRecDepth 100000
open Go.ChangeShapes Go.WideShapes Go.ChangeAt Go.RowKit Go.Maps Go.WideMaps List
open Inhabited renaming default->ϰ
namespace Go.Proofs.YtdohnkkbkfhphaaGreat
open Go.Proofs.Tryz
namespace bf
open vl
variable {b : Buf} {W W' w w2 : ϛ} {C NB base : Nat} {x : BX} {es' : List EM} {l' : List Ent}
theorem F9(h:okB b):Bt (λ_=>true) b=b:=by
 obtain⟨j,d,a⟩:=b;have c:=h.full;unfold Bt Dg;dsimp only at c⊢;have e:d.filter (λ_=>true)=d:=filter_eq_self.2 (λ_ _=>rfl);have f:a.map (·.filter (λ_=>true))=a:=by
  conv=>rhs;rw[<-map_id a]
  refine map_congr_left (λr _=>?_);exact filter_eq_self.2 (λ_ _=>rfl)
 rw[e,f,filter_eq_self.2 (λr i=>decide_eq_true (c r i))]
theorem OB.run(h:OB w base x b){p:Part}(f:p∈x.rs):∃i,i<b.runs.length/\x.rs.getD i ϰ=p/\OE w base (hdV p.1) p.2 (b.runs.getD i ϰ):=by
 obtain⟨i,a,rfl⟩:=getElem_of_mem f;have e:x.rs.getD i ϰ=x.rs[i]:=by rw[gDe,gEe a];rfl
 have c:i<b.runs.length:=by rw[<-h.rlen];exact a
 have d:=h.runs i c;rw[e]at d;exact⟨i,c,e,d⟩
theorem Ut{d:ϛ}{f:Hdr}(h:OB w base x b)(F:OE d base (hdV f) es' l')(A:w.heap.size<=d.heap.size)(z:∀k,k<w.heap.size->(hdV x.m.1).ownBlock≠some k->d.heap[k]? =w.heap[k]?)
 (D:∀g,(hdV f).ownBlock=some g->(hdV x.m.1).ownBlock=some g\/w.heap.size<=g):OB d base ⟨x.ra,x.rc,(f,es'),x.rs⟩ ⟨b.lim,l',b.runs⟩:=by
 have n:=pairwise_cons.1 h.two;refine⟨Nat.le_trans h.low A,F,A2 h.hds (λg a=>z g (AM h.hds a).2 (λe=>IF h.mem.own h.hds Ϡ e a)),h.rlen,λi j=>?_,?_⟩
 ·have l:=h.runs i j;have E:i<x.rs.length:=by rw[h.rlen];exact j
  have B:apB (hdV x.m.1) (hdV (x.rs.getD i ϰ).1):=n.1 _ (mem_map.2 ⟨_,AD E,rfl⟩);refine l.same A (λg I t a m=>z g (Array.getElem?_eq_some_iff.1 a).1 (λe=>?_));rcases m with⟨H,_⟩|m
  ·exact B g e H
  ·subst m;exact tyAt_apart (A6 h.mem.own e) ⟨_,_,a⟩ Ϡ rfl
 ·refine pairwise_cons.2 ⟨λc r g a u=>?_,n.2⟩;rcases D g a with q|q
  ·exact n.1 c r g q u
  ·obtain⟨p,G,rfl⟩:=mem_map.1 r;obtain⟨i,j,_,l⟩:=h.run G;have:=(AM l.own u).2;omega
theorem Abt{g cap2:Nat}(h:OB w base x b)(u:w2.ownsRow base 26 1 (vS (τ g) (x.rs.length+1) cap2) (x.rs.length+1) ((x.rs.map λp=>hdV p.1)++[hdV x.m.1]))(d:w.heap.size<=w2.heap.size)
 (m:∀k,An w k 63\/An w k 103->w2.heap[k]? =w.heap[k]?):OB w2 base ⟨some ⟨g,0,none⟩,cap2,((none,0,0),[]),x.rs++[x.m]⟩ ⟨b.lim,[],b.runs++[b.mem]⟩:=by
 have n:=pairwise_cons.1 h.two;refine⟨Nat.le_trans h.low d,BD (Nat.le_trans h.low d),?_,?_,λi f=>?_,?_⟩
 ·dsimp only;rw[lAp,map_append];exact u
 ·dsimp only;rw[lAp,lAp,h.rlen];rfl
 ·dsimp only at f⊢;rw[lAp]at f;by_cases j:i<b.runs.length
  ·rw[AS (by rw[h.rlen];exact j),AS j];exact(h.runs i j).other d m
  ·have:i=b.runs.length:=by simp at f;omega
   subst this;rw[AH (by rw[h.rlen];exact Nat.le_refl _),AH nR,h.rlen,Nat.sub_self];exact h.mem.other d m
 ·dsimp only;rw[map_cons,map_append];refine pairwise_cons.2 ⟨λc _ l e=>(by cases e),pairwise_append.2 ⟨n.2,pairwise_singleton _ _,λa ha c q l e t=>?_⟩⟩;have r:c=hdV x.m.1:=by simpa using q
  subst r;exact n.1 a ha l t e
structure PSt(W:World)(C NB base:Nat)(x:BX)(b:Buf):Prop where
 k:KSt W C NB base x b
 f1:Ξ W NB 1
theorem PSt.below(h:PSt W C NB base x b)(a:Ϟ W W'):PSt W' C NB base x b:=
 ⟨h.k.below a,(a.frozen (p:=⟨NB,1,none⟩) (AX h.k.ty)).trans h.f1⟩
theorem ZI(nb:nbAt w2 C)(h:OB w2 base x b)(d:base<=C):
 PSt (ξ w2 #[vI b.lim,hdV x.m.1,vS x.ra x.rs.length x.rc] 29) C w2.heap.size base x b:=by
 have c:Ϟ w2 (ξ w2 #[vI b.lim,hdV x.m.1,vS x.ra x.rs.length x.rc] 29):=Ϫ;have a:=BW c nb;have e:=AX nb.ty;refine⟨⟨h.below c,?_,?_,?_,?_,⟨_,_,World.alloc_heap_new _ _⟩,a.n0,a.n1,a.n2,a.o0,a.o1,a.o2,a.ty,e,d⟩,?_⟩
 ·unfold hdV;go_simp
 ·unfold hdV;go_simp
 ·unfold hdV;go_simp
 ·unfold hdV;go_simp
 ·unfold hdV;go_simp
theorem Ij(h:PSt W C NB base x b)(c:W.heap.size<=W'.heap.size)(a:∀k,k<W.heap.size->(hdV x.m.1).ownBlock≠some k->W'.heap[k]? =W.heap[k]?):W'.heap[NB]? =W.heap[NB]? /\W'.heap[C]? =W.heap[C]? :=
 ⟨a NB (AX h.k.ty) (λe=>tyAt_apart (A6 h.k.ob.mem.own e) h.k.ty Ϡ rfl),a C (AX h.k.rt) (λe=>tyAt_apart (A6 h.k.ob.mem.own e) h.k.rt Ϡ rfl)⟩
theorem Se(h:PSt W C NB base x b)(j:OE W' base (hdV x.m.1) es' l')(f:W.heap.size<=W'.heap.size)(e:∀k,k<W.heap.size->(hdV x.m.1).ownBlock≠some k->W'.heap[k]? =W.heap[k]?):
 PSt W' C NB base ⟨x.ra,x.rc,(x.m.1,es'),x.rs⟩ ⟨b.lim,l',b.runs⟩:=by
 obtain⟨d,c⟩:=Ij h f e;exact⟨⟨Ut h.k.ob j f e (λg i=>.inl i),(cOb (a:=⟨NB,0,none⟩) d).trans h.k.c0,(cOb (a:=⟨NB,1,none⟩) d).trans h.k.c1,(cOb (a:=⟨NB,2,none⟩) d).trans h.k.c2,(AG (p:=⟨NB,2,none⟩) d).trans h.k.f2,AW h.k.ty d,
  (cOb (a:=⟨C,0,none⟩) c).trans h.k.r0,(cOb (a:=⟨C,1,none⟩) c).trans h.k.r1,(cOb (a:=⟨C,2,none⟩) c).trans h.k.r2,(AG (p:=⟨C,0,none⟩) c).trans h.k.g0,(AG (p:=⟨C,1,none⟩) c).trans h.k.g1,(AG (p:=⟨C,2,none⟩) c).trans h.k.g2,AW h.k.rt c,h.k.ne,h.k.up⟩,(AG (p:=⟨NB,1,none⟩) d).trans h.f1⟩
end bf
namespace jn
open vl bf
attribute [local go_sem] Oper.semAt_some
variable {W w : ϛ} {N b base : Nat} {T : TypeId} {v : Value} {x : BX} {s : Jn} {y : JX}
structure calmT(T:TypeId):Prop where
 e:T≠63
 v:T≠103
 h:T≠26
theorem VU{es:List EM}{l:List Ent}(h:OE w base v es l)(c:An w N T)(d:calmT T)(k:Nat)(u:Value):OE (φ w N k u) base v es l:=
 h.other (by simp[World.setCell]) (λg a=>heap_setCell_other _ _ _ _ (by
  rcases a with a|a
  ·exact tyAt_apart a c d.e.symm
  ·exact tyAt_apart a c d.v.symm))
theorem DR{b:Buf}(h:OB w base x b)(a:An w N T)(c:calmT T)(k:Nat)(u:Value):OB (φ w N k u) base x b:=
 ⟨by simp[World.setCell];exact h.low,VU h.mem a c k u,A2 h.hds (λg d=>heap_setCell_other _ _ _ _ (tyAt_apart (A6 h.hds d) a c.h.symm)),h.rlen,λi e=>VU (h.runs i e) a c k u,h.two⟩
theorem Bm{base N:Nat}{T:TypeId}{x:BX}{b:Buf}(a:calmT T):∀(l:List Value) (o:Nat) (w:ϛ),OB w base x b->An w N T->OB (w.setCells N o l) base x b
 |[],_,_,h,_=>h
 |v::l,o,w,h,hN=>Bm a l (o+1) _ (DR h hN a o v) (Ao hN _ _)
theorem DT{b N:Nat}{T:TypeId}:∀(l:List Value) (o:Nat) (w:ϛ),An w b T->An (w.setCells N o l) b T
 |[],_,_,h=>h
 |v::l,o,w,h=>DT l (o+1) _ (Ao h _ _)
theorem Acw:(Tryz.prog.info? 29).map (·.size)=some 3:=Ϣ
theorem size_setCells(N:Nat):∀(l:List Value) (o:Nat) (w:ϛ),(w.setCells N o l).heap.size=w.heap.size
 |[],_,_=>rfl
 |v::l,o,w=>(size_setCells N l (o+1) _).trans (by simp[World.setCell])
theorem Dn:calmT 31:=⟨Ϡ,Ϡ,Ϡ⟩
theorem Adz(w:ϛ)(c:Fin 9->Value)(h:∀i,(c i).oneCell'=true)(t:TypeId):(w.alloc (.cells #[c 0,c 1,c 2,c 3,c 4,c 5,c 6,c 7,c 8] t)).there w.heap.size 0 9:=by
 intro j a
 match j,a with
 |0,_=>exact⟨ϣ,ϣ⟩
 |1,_=>exact⟨ϣ,ϣ⟩
 |2,_=>exact⟨ϣ,ϣ⟩
 |3,_=>exact⟨ϣ,ϣ⟩
 |4,_=>exact⟨ϣ,ϣ⟩
 |5,_=>exact⟨ϣ,ϣ⟩
 |6,_=>exact⟨ϣ,ϣ⟩
 |7,_=>exact⟨ϣ,ϣ⟩
 |8,_=>exact⟨ϣ,ϣ⟩
theorem XA(h:AK W b s y)(f:W.there b 0 9)(z:BX):AK (W.setCells b 0 [vI s.L.lim,vS z.m.1.1 z.m.1.2.1 z.m.1.2.2,vS z.ra z.rs.length z.rc]) b s ⟨z,y.r⟩:=by
 have c:=World.rangeAt_setCells_same W b 0 [vI s.L.lim,vS z.m.1.1 z.m.1.2.1 z.m.1.2.2,vS z.ra z.rs.length z.rc] (λj e=>by
  have:=f (0+j) (by simp at e;omega);simpa using this)
 have a:∀i,i<0\/3<=i->(W.setCells b 0 [vI s.L.lim,vS z.m.1.1 z.m.1.2.1 z.m.1.2.2,vS z.ra z.rs.length z.rc]).cell? ⟨b,i,none⟩=W.cell? ⟨b,i,none⟩:=λi d=>World.cell?_setCells_out b _ 0 W ⟨b,i,none⟩ (λ_ _=>by simpa using d);obtain⟨u0,u1,u2,u3,u4,u5,u6,u7,u8⟩:=h;refine⟨?_,?_,?_,?_,?_,?_,?_,?_,?_⟩
 ·exact c 0 _ rfl
 ·exact c 1 _ rfl
 ·exact c 2 _ rfl
 ·rw[a 3 ϟ];exact u3
 ·rw[a 4 ϟ];exact u4
 ·rw[a 5 ϟ];exact u5
 ·rw[a 6 ϟ];exact u6
 ·rw[a 7 ϟ];exact u7
 ·rw[a 8 ϟ];exact u8
theorem XC(h:AK W b s y)(f:W.there b 0 9)(z:BX):AK (W.setCells b 3 [vI s.R.lim,vS z.m.1.1 z.m.1.2.1 z.m.1.2.2,vS z.ra z.rs.length z.rc]) b s ⟨y.l,z⟩:=by
 have c:=World.rangeAt_setCells_same W b 3 [vI s.R.lim,vS z.m.1.1 z.m.1.2.1 z.m.1.2.2,vS z.ra z.rs.length z.rc] (λj e=>by
  have:=f (3+j) (by simp at e;omega);simpa using this)
 have a:∀i,i<3\/6<=i->(W.setCells b 3 [vI s.R.lim,vS z.m.1.1 z.m.1.2.1 z.m.1.2.2,vS z.ra z.rs.length z.rc]).cell? ⟨b,i,none⟩=W.cell? ⟨b,i,none⟩:=λi d=>World.cell?_setCells_out b _ 3 W ⟨b,i,none⟩ (λ_ _=>by simpa using d);obtain⟨u0,u1,u2,u3,u4,u5,u6,u7,u8⟩:=h;refine⟨?_,?_,?_,?_,?_,?_,?_,?_,?_⟩
 ·rw[a 0 ϟ];exact u0
 ·rw[a 1 ϟ];exact u1
 ·rw[a 2 ϟ];exact u2
 ·exact c 0 _ rfl
 ·exact c 1 _ rfl
 ·exact c 2 _ rfl
 ·rw[a 6 ϟ];exact u6
 ·rw[a 7 ϟ];exact u7
 ·rw[a 8 ϟ];exact u8
def ZJ(x1 x2:BX):Prop:=∀p∈x1.m::x1.rs,∀q∈x2.m::x2.rs,apB (hdV p.1) (hdV q.1)
theorem VV{b:Buf}(h:OB w base x b){p:Part}(c:p∈x.m::x.rs){g:Nat}(a:(hdV p.1).ownBlock=some g):base<=g/\g<w.heap.size:=by
 have f:∀{v:Value} {j:List EM} {l:List Ent},OE w base v j l->v.ownBlock=some g->base<=g/\g<w.heap.size:=λh a=>AM h.own a;rcases mem_cons.1 c with rfl|c
 ·exact f h.mem a
 ·obtain⟨i,d,rfl⟩:=getElem_of_mem c;have e:x.rs.getD i ϰ=x.rs[i]:=by rw[gDe,gEe d];rfl
  have:=h.runs i (by rw[<-h.rlen];exact d);rw[e]at this;exact f this a
theorem Ns{c w2:ϛ}{f a:Nat}{d e:BX}{h i:Buf}(h1:OB c f d h)(j:OB w2 a e i)(r:c.heap.size<=a):ZJ d e:=λp m q n g k l=>by
 have:=(VV h1 m k).2;have:=(VV j n l).1;omega
theorem Uu(s:Jn)(y:JX)(w:ϛ)(h:joinAt w s y)(E:okB s.L)(F:okB s.R):
 η 91 #[joinV s y] w λe n=>(∃a c,e= .returned (joinV s ⟨a,c⟩)/\OB n w a s.L/\OB n w c s.R/\ZJ a c)/\Ϟ w n:=by
 have S:ϝ (∀d,Ϟ w d->CT 145 #[AF s.L y.l,.func (.func 59) #[] #[]] d λe n=>(∃I,e= .returned (AF s.L I)/\OB n d I s.L)/\Ϟ d n):=λd X=>by
  have H:=Ia 59 (enters_of func59 Ϣ rfl) #[] (λ_=>true) s.L y.l d (Ag h.l X) E.small.1 E.small.2.1 E.small.2.2 (λe z w2 al _ m=>GZ e w2);rw[F9 E]at H;exact H
 have U:ϝ (∀d,Ϟ w d->CT 145 #[AF s.R y.r,.func (.func 59) #[] #[]] d λe n=>(∃I,e= .returned (AF s.R I)/\OB n d I s.R)/\Ϟ d n):=λd X=>by
  have H:=Ia 59 (enters_of func59 Ϣ rfl) #[] (λ_=>true) s.R y.r d (Ag h.r X) F.small.1 F.small.2.1 F.small.2.2 (λe z w2 al _ m=>GZ e w2);rw[F9 F]at H;exact H
 clear h E F;rw[A0];unfold AF hdV at S U;go_enter func91,ntmps91;go_wp2_with fail;generalize t:(World.alloc (World.alloc w _) _)=V;have ac:Ϟ w V:=by rw[<-t];exact Ϫ.alloc ϡ _
 have aq:V.heap.size=w.heap.size+1+1:=by rw[<-t];simp
 have J:ϝ (AK V w s y):=by
  subst t;exact Ah (AL ..) Ϫ
 have l:ϝ (V.there w.heap.size 0 9/\An V w 31):=by
  subst t;refine⟨Cu (Adz w (λi=>match i with|0=>.int .i64 s.L.lim|1=>.slice y.l.m.1.1 y.l.m.1.2.1 y.l.m.1.2.2|2=>.slice y.l.ra y.l.rs.length y.l.rc|3=>.int .i64 s.R.lim|4=>.slice y.r.m.1.1 y.r.m.1.2.1 y.r.m.1.2.2|5=>.slice y.r.ra y.r.rs.length y.r.rc|6=>.int .i64 s.lm|7=>.int .i64 s.rm|8=>.int .i64 s.seq) (λi=>by match i with|0|1|2|3|4|5|6|7|8=>rfl) 31) Ϫ,?_⟩;exact Ae ⟨_,_,World.alloc_heap_new w _⟩ Ϫ
 have r:ϝ (noJ V (w+1)/\An V (w+1) 31):=by
  subst t;have h1:=EP (ξ w (Ψ s y) 31);have h2:=World.alloc_heap_new (ξ w (Ψ s y) 31) (.cells #[ω,ψ,ψ,ω,ψ,ψ,ω,ω,ω] 31);rw[World.size_alloc]at h1 h2;exact⟨h1,_,_,h2⟩
 clear t;refine(S.o _ ac).mono ?_;rintro e p ⟨⟨a,rfl,ad⟩,A⟩;have ah:Ϟ w p:=bT ac A;replace J:ϝ (AK p w s y):=Ah J.o A;replace l:ϝ (p.there w.heap.size 0 9/\An p w 31):=⟨Cu l.o.1 A,Ae l.o.2 A⟩;replace r:ϝ (noJ p (w+1)/\An p (w+1) 31):=⟨Ay r.o.1 A,Ae r.o.2 A⟩;have P:=hV0 ad;clear ad;have am:p.there w.heap.size 0 3:=λj hj=>l.o.1 j ϟ;obtain⟨W1,q⟩:=nM (World.setCells p w.heap.size 0 ((Ω s.L a):Array Value).toList);have O:ϝ (AK W1 w s ⟨a,y.r⟩):=by rw[<-q];exact XA J.o l.o.1 a
 have Q:ϝ (W1.there w.heap.size 0 9/\An W1 w 31):=by rw[<-q];exact⟨World.there_setCells l.o.1 _ _ _,DT _ _ _ l.o.2⟩
 have R:ϝ (noJ W1 (w+1)/\An W1 (w+1) 31):=by rw[<-q];exact⟨World.there_setCells r.o.1 _ _ _,DT _ _ _ r.o.2⟩
 have aa:ϝ (OB W1 V a s.L):=by rw[<-q];exact Bm Dn _ _ _ P.o l.o.2
 have Y:Ϟ w W1:=by rw[<-q];exact below_setCells nR _ _ _ ah
 have ap:W1.heap.size=p.heap.size:=by rw[<-q];exact size_setCells _ _ _ _
 obtain⟨u0,u1,u2,u3,u4,u5,u6,u7,u8⟩:=O.o;go_wp2_with ((with_reducible refine wpList_store_mid ?_ 29 (.tmp 6) (.tmp 5) ?_ w.heap.size 0 (Ω s.L a) ?_ ?_ ?_ ?_ ?_ ?_);exact rfl;exact rfl;exact rfl;exact rfl;exact am;exact Acw;exact Ϩ;rw[q]);refine(U.o _ Y).mono ?_;rintro e f ⟨⟨c,rfl,Z⟩,m⟩;have ai:Ϟ w f:=bT Y m;have ae:ϝ (ZJ a c):=Ns P.o Z ϟ;have af:ϝ (AK f w s ⟨a,y.r⟩):=Ah O.o m;have K:ϝ (f.there w.heap.size 0 9/\An f w 31):=⟨Cu Q.o.1 m,Ae Q.o.2 m⟩;have ab:ϝ (noJ f (w+1)/\An f (w+1) 31):=⟨Ay R.o.1 m,Ae R.o.2 m⟩;have B:ϝ (OB f w a s.L):=A5 (aa.o.below m) ϟ;have D:ϝ (OB f w c s.R):=A5 Z (by have:=Y.size;omega);clear u0 u1 u2 u3 u4 u5 u6 u7 u8 Z O Q R aa P J l r q S U;have an:f.there w.heap.size 3 3:=λj hj=>by
  have:=K.o.1 (3+j) ϟ;simpa using this
 obtain⟨W2,u⟩:=nM (World.setCells f w.heap.size 3 ((Ω s.R c):Array Value).toList);have ag:ϝ (AK W2 w s ⟨a,c⟩):=by rw[<-u];exact XC af.o K.o.1 c
 have L:ϝ (noJ W2 (w+1)/\An W2 (w+1) 31):=by rw[<-u];exact⟨World.there_setCells ab.o.1 _ _ _,DT _ _ _ ab.o.2⟩
 replace B:ϝ (OB W2 w a s.L):=by rw[<-u];exact Bm Dn _ _ _ B.o K.o.2
 replace D:ϝ (OB W2 w c s.R):=by rw[<-u];exact Bm Dn _ _ _ D.o K.o.2
 have aj:Ϟ w W2:=by rw[<-u];exact below_setCells nR _ _ _ ai
 obtain⟨M,G⟩:=nM (World.setCells W2 (w.heap.size+1) 0 (#[vI s.L.lim,vS a.m.1.1 a.m.1.2.1 a.m.1.2.2,vS a.ra a.rs.length a.rc,vI s.R.lim,vS c.m.1.1 c.m.1.2.1 c.m.1.2.2,vS c.ra c.rs.length c.rc,vI s.lm,vI s.rm,vI s.seq]:Array Value).toList);have k:ϝ (M.rangeAt (w.heap.size+1) 0 (#[vI s.L.lim,vS a.m.1.1 a.m.1.2.1 a.m.1.2.2,vS a.ra a.rs.length a.rc,vI s.R.lim,vS c.m.1.1 c.m.1.2.1 c.m.1.2.2,vS c.ra c.rs.length c.rc,vI s.lm,vI s.rm,vI s.seq]:Array Value).toList):=by rw[<-G];exact CX L.o.1 rfl
 replace B:ϝ (OB M w a s.L):=by rw[<-G];exact Bm Dn _ _ _ B.o L.o.2
 replace D:ϝ (OB M w c s.R):=by rw[<-G];exact Bm Dn _ _ _ D.o L.o.2
 have ak:Ϟ w M:=by rw[<-G];exact below_setCells (Nat.le_succ _) _ _ _ aj
 have ao:=L.o.1;obtain⟨u0,u1,u2,u3,u4,u5,u6,u7,u8⟩:=ag.o;go_wp2_with (first
  |((with_reducible refine wpList_store_mid ?_ 29 (.tmp 10) (.tmp 9) ?_ w.heap.size 3 (Ω s.R c) ?_ ?_ ?_ ?_ ?_ ?_);exact rfl;exact rfl;exact rfl;exact rfl;exact an;exact Acw;exact Ϩ;rw[u])
  |((with_reducible refine wpList_store_mid ?_ 31 (.tmp 2) (.tmp 11) ?_ (w.heap.size+1) 0 #[vI s.L.lim,vS a.m.1.1 a.m.1.2.1 a.m.1.2.2,vS a.ra a.rs.length a.rc,vI s.R.lim,vS c.m.1.1 c.m.1.2.1 c.m.1.2.2,vS c.ra c.rs.length c.rc,vI s.lm,vI s.rm,vI s.seq] ?_ ?_ ?_ ?_ ?_ ?_);exact rfl;exact rfl;exact rfl;exact rfl;exact ao;exact BU;exact Ϩ;rw[G]))
 have y0:=k.o 0 _ rfl;have y1:=k.o 1 _ rfl;have y2:=k.o 2 _ rfl;have y3:=k.o 3 _ rfl;have y4:=k.o 4 _ rfl;have y5:=k.o 5 _ rfl;have y6:=k.o 6 _ rfl;have y7:=k.o 7 _ rfl;have y8:=k.o 8 _ rfl;simp only[Nat.zero_add]at y0 y1 y2 y3 y4 y5 y6 y7 y8;exact bodyPost_ret (v:=.agg #[vI s.L.lim,vS a.m.1.1 a.m.1.2.1 a.m.1.2.2,vS a.ra a.rs.length a.rc,vI s.R.lim,vS c.m.1.1 c.m.1.2.1 c.m.1.2.2,vS c.ra c.rs.length c.rc,vI s.lm,vI s.rm,vI s.seq]) (by simp[results,results91,go_sem,y0,y1,y2,y3,y4,y5,y6,y7,y8]) rfl ⟨⟨a,c,by rw[A0],B.o,D.o,ae.o⟩,ak⟩
def BS(s:Jn)(side time:Int):Jn:=if side=2 then⟨s.L,s.R,s.lm,time,s.seq⟩else⟨s.L,s.R,time,s.rm,s.seq⟩
theorem mark_le(side:Int):BC side=6\/BC side=7:=by
 unfold BC;split
 ·exact .inr rfl
 ·exact .inl rfl
theorem cell_far{i j:Nat}{u:Value}(h:Δ w b i v)(a:j≠i):Δ (φ w b j u) b i v:=(World.cell?_setCell_other _ _ _ _ (λe=>a (by injection e))).trans h
theorem XD{p:pl.Pln}{x:pl.PA}{t:Value}(h:boxC w b p x s y t)(side time:Int):boxC (φ w b (13+BC side) (vI time)) b p x (BS s side time) y t:=by
 have f:=mark_le side;refine⟨?_,?_,cell_far h.told ϟ,λj c=>?_⟩
 ·obtain⟨l,m,z,A,B,D,E,F,G,H,n,q,r⟩:=h.plan;exact⟨cell_far l ϟ,cell_far m ϟ,cell_far z ϟ,cell_far A ϟ,cell_far B ϟ,cell_far D ϟ,cell_far E ϟ,cell_far F ϟ,cell_far G ϟ,cell_far H ϟ,cell_far n ϟ,cell_far q ϟ,cell_far r ϟ⟩
 ·have d:=Q8 h.join side;have a:=World.cell?_setCell_same _ _ (vI time) d;obtain⟨u0,u1,u2,u3,u4,u5,u6,u7,u8⟩:=h.join;unfold BS;unfold BC at a f⊢;by_cases e:side=2
  ·rw[if_pos e]at a⊢;rw[if_pos e];exact⟨cell_far u0 ϟ,cell_far u1 ϟ,cell_far u2 ϟ,cell_far u3 ϟ,cell_far u4 ϟ,cell_far u5 ϟ,cell_far u6 ϟ,a,cell_far u8 ϟ⟩
  ·rw[if_neg e]at a⊢;rw[if_neg e];exact⟨cell_far u0 ϟ,cell_far u1 ϟ,cell_far u2 ϟ,cell_far u3 ϟ,cell_far u4 ϟ,cell_far u5 ϟ,a,cell_far u7 ϟ,cell_far u8 ϟ⟩
 ·exact⟨by
   obtain⟨u,i⟩:=Option.isSome_iff_exists.1 (h.room j c).1;obtain⟨I,k⟩:=cell?_setCell_some (p:=⟨b,13+BC side,none⟩) (x:=vI time) i;rw[k];rfl,by rw[World.frozen?_setCell];exact(h.room j c).2⟩
theorem ZK(b:Nat)(p:pl.Pln)(x:pl.PA)(s:Jn)(y:JX)(t:Value)(side time:Int)(w:ϛ)(h:boxC w b p x s y t):
 η 255 #[μ b,vI side,vI time] w λe c=>e= .returned (.tuple #[])/\c=w.setCell ⟨b,13+BC side,none⟩ (vI time):=by
 have d:ϝ (∀a,CT 143 #[.pointer (some ⟨b,13,none⟩),vI side] a λe c=>e= .returned (.pointer (some ⟨b,13+BC side,none⟩))/\c=a):=λa=>P4 b 13 side a;have i:=Q8 h.join side;have j:Ξ w b (13+BC side):=by
  have:=(h.room (13+BC side) (by rcases mark_le side with e|e<;>omega)).2;simpa using this
 clear h;obtain⟨k,f⟩:=nM (13+BC side);rw[f]at d i j⊢;clear f;go_enter func255,ntmps255;go_wp2_with (go_at_call 143;refine(d.o _).mono ?_;rintro e w2 ⟨rfl,rfl⟩);exact bodyPost_end (v:=.tuple #[]) (by simp[results,results255,go_sem]) rfl ⟨rfl,rfl⟩
end jn
namespace bf
open vl
variable {W W1 W2 : ϛ} {o : Obj} {C NB base g : Nat} {x : BX} {b : Buf}
theorem Lu{r:Option Nat}(a:(W1.alloc o).grownBy W2 r):W1.heap.size<=W2.heap.size/\∀k,k<W1.heap.size->r≠some k->W2.heap[k]? =W1.heap[k]? :=
 ⟨by have:=a.size;simp at this;omega,λk c d=>by
  rw[a.block k Ϥ (λe=>d e.symm)];exact Below.heap_alloc _ _ k c⟩
theorem Abu(h:PSt W C NB base x b)(e:Ϟ W W1)(f:(W1.alloc o).grownBy W2 (hdV x.m.1).ownBlock):
 Δ W2 NB 1 (hdV x.m.1)/\Ξ W2 NB 1:=by
 have c:=h.below e;obtain⟨j,i⟩:=Lu f;obtain⟨d,k⟩:=Ij c j i;exact⟨(cOb (a:=⟨NB,1,none⟩) d).trans c.k.c1,(AG (p:=⟨NB,1,none⟩) d).trans c.f1⟩
theorem Abv{c4:Nat}{e:EM}{y:Ent}(h:PSt W C NB base x b)(j:Ϟ W W1)(G:OR W1 base e y)
 (F:W2.ownsRow base 63 5 (vS (τ g) (x.m.2.length+1) c4) (x.m.2.length+1) (Aq x.m.2++[.string e.key,vI e.time,vI e.seq,hdV e.row,.bool e.met])) (k:(W1.alloc o).grownBy W2 (hdV x.m.1).ownBlock) (B:(hdV x.m.1).ownBlock=some g\/g=W1.heap.size+1):
 PSt (φ W2 NB 1 (vS (τ g) (x.m.2.length+1) c4)) C NB base ⟨x.ra,x.rc,((some ⟨g,0,none⟩,x.m.2.length+1,c4),x.m.2++[e]),x.rs⟩ ⟨b.lim,b.mem++[y],b.runs⟩/\Below base W (φ W2 NB 1 (vS (τ g) (x.m.2.length+1) c4)):=by
 have c:=h.below j;obtain⟨m,l⟩:=Lu k;obtain⟨f,t⟩:=Ij c m l;have n:=IG h.k.ob.mem j G F k;have A:OB W2 base ⟨x.ra,x.rc,((some ⟨g,0,none⟩,x.m.2.length+1,c4),x.m.2++[e]),x.rs⟩ ⟨b.lim,b.mem++[y],b.runs⟩:=Ut c.k.ob n.1 m l (λz D=>by
  have:g=z:=by cases D;rfl
  subst this;rcases B with i|i
  ·exact .inl i
  ·exact .inr ϟ)
 have q:=AW c.k.ty f;have H:=(cOb (a:=⟨NB,0,none⟩) f).trans c.k.c0;have r:=(cOb (a:=⟨NB,1,none⟩) f).trans c.k.c1;have I:=(cOb (a:=⟨NB,2,none⟩) f).trans c.k.c2;have J:=(AG (p:=⟨NB,1,none⟩) f).trans c.f1;have K:=(AG (p:=⟨NB,2,none⟩) f).trans c.k.f2;have E:=h.k.ne;have d:∀u,(W2.setCell ⟨NB,1,none⟩ u).heap[C]? =W1.heap[C]? :=λu=>(heap_setCell_other _ _ _ _ ϥ).trans t;refine⟨⟨⟨Ju A q _ _,?_,World.cell?_setCell_same _ _ _ r,?_,?_,Ao q _ _,(cOb (a:=⟨C,0,none⟩) (d _)).trans c.k.r0,(cOb (a:=⟨C,1,none⟩) (d _)).trans c.k.r1,(cOb (a:=⟨C,2,none⟩) (d _)).trans c.k.r2,(AG (p:=⟨C,0,none⟩) (d _)).trans c.k.g0,(AG (p:=⟨C,1,none⟩) (d _)).trans c.k.g1,(AG (p:=⟨C,2,none⟩) (d _)).trans c.k.g2,AW c.k.rt (d _),E,h.k.up⟩,?_⟩,?_⟩
 ·dsimp only;go_simp
 ·dsimp only;go_simp
 ·go_simp
 ·go_simp
 ·have:=h.k.up;exact n.2.setCell ϥ _
theorem Nt(h:PSt W C NB base x b)(d:(W.alloc o).grownBy W2 (Value.slice x.ra x.rs.length x.rc).ownBlock):
 W2.heap.size≥W.heap.size/\W2.heap[NB]? =W.heap[NB]? /\W2.heap[C]? =W.heap[C]? /\(∀k,An W k 63\/An W k 103->W2.heap[k]? =W.heap[k]?):=by
 obtain⟨i,f⟩:=Lu d;have c:∀k t,An W k t->t≠26->W2.heap[k]? =W.heap[k]? :=λk t a j=>f k (AX a) (λe=>tyAt_apart (A6 h.k.ob.hds e) a (λe=>j e.symm) rfl);exact⟨i,c _ _ h.k.ty Ϡ,c _ _ h.k.rt Ϡ,λk a=>by rcases a with a|a;exact c _ _ a Ϡ;exact c _ _ a Ϡ⟩
theorem Sg{cap2:Nat}(h:PSt W C NB base x b)
 (z:W2.ownsRow base 26 1 (vS (τ g) (x.rs.length+1) cap2) (x.rs.length+1) ((x.rs.map λp=>hdV p.1)++[hdV x.m.1])) (i:(W.alloc o).grownBy W2 (Value.slice x.ra x.rs.length x.rc).ownBlock):
 PSt (φ (φ W2 NB 2 (vS (τ g) (x.rs.length+1) cap2)) NB 1 (vS none 0 0)) C NB base ⟨some ⟨g,0,none⟩,cap2,((none,0,0),[]),x.rs++[x.m]⟩ ⟨b.lim,[],b.runs++[b.mem]⟩/\Below base W (φ (φ W2 NB 2 (vS (τ g) (x.rs.length+1) cap2)) NB 1 (vS none 0 0)):=by
 obtain⟨A,e,k,q⟩:=Nt h i;have l:=Abt h.k.ob z A q;have f:=AW h.k.ty e;have B:=(cOb (a:=⟨NB,0,none⟩) e).trans h.k.c0;have D:=(cOb (a:=⟨NB,1,none⟩) e).trans h.k.c1;have E:=(cOb (a:=⟨NB,2,none⟩) e).trans h.k.c2;have F:=(AG (p:=⟨NB,1,none⟩) e).trans h.f1;have G:=(AG (p:=⟨NB,2,none⟩) e).trans h.k.f2;have t:=h.k.ne;have d:∀u j,((W2.setCell ⟨NB,2,none⟩ u).setCell ⟨NB,1,none⟩ j).heap[C]? =W.heap[C]? :=λu j=>(heap_setCell_other _ _ _ _ ϥ).trans ((heap_setCell_other _ _ _ _ ϥ).trans k);refine⟨⟨⟨Ju (Ju l f _ _) (Ao f _ _) _ _,?_,?_,?_,?_,Ao (Ao f _ _) _ _,(cOb (a:=⟨C,0,none⟩) (d _ _)).trans h.k.r0,(cOb (a:=⟨C,1,none⟩) (d _ _)).trans h.k.r1,(cOb (a:=⟨C,2,none⟩) (d _ _)).trans h.k.r2,(AG (p:=⟨C,0,none⟩) (d _ _)).trans h.k.g0,(AG (p:=⟨C,1,none⟩) (d _ _)).trans h.k.g1,(AG (p:=⟨C,2,none⟩) (d _ _)).trans h.k.g2,AW h.k.rt (d _ _),t,h.k.up⟩,?_⟩,?_⟩
 ·dsimp only;go_simp
 ·unfold hdV;dsimp only;go_simp
 ·dsimp only;rw[lAp];go_simp
 ·go_simp
 ·go_simp
 ·have:=h.k.up;have r:=h.k.ob.low;have m:Below base W W2:=(bR.alloc r o).grown i Ϥ (λc n=>(AM h.k.ob.hds n).1);exact(m.setCell ϥ _).setCell ϥ _
theorem XE{G:Array Oper}{o:Oper}{a:Act}{K:Act->World->Prop}{Q:Exit->Act->World->Prop}{E:Prop}(n:o.guard=none)(s x:Operand)
 (r:o.op= .call {callee:=.builtin .append,args:=#[s,x],argTypes:=#[26,26]})
 (base:Nat) (v:Value) (L:List EM) (e:ByteArray) (j i:Int) (ad:Ϝ) (k cap:Nat) (f:Bool) (c:ϛ) (d:Nat) (q:c.ownsRow base 63 5 v d (Aq L)) (I:d<=1000000) (H:base<=c.heap.size)
 (t:a.eval s=v) (z:a.eval x=vS (τ c) 1 1)
 (h:∀g l w2,w2.ownsRow base 63 5 (vS (τ g) (d+1) l) (d+1) (Aq L++[.string e,vI j,vI i,vS ad k cap,.bool f])->(c.alloc (.cells (ζ e j i ad k cap f) 63)).grownBy w2 v.ownBlock->(v.ownBlock=some g\/g=c.heap.size+1)->g<w2.heap.size->K (a.put o.dst (vS (τ g) (d+1) l)) w2):
 if Region.wanted o (yielded G a.tmps)=true then Oper.wp Tryz.prog o a (ξ c (ζ e j i ad k cap f) 63) K Q else E:=by
 obtain⟨F,p,A,B,D⟩:=info_parts Nk;exact step_append_lies _ n s x 26 r base 63 F (.agg #[ϊ,ω,ω,ψ,ϋ]) 5 64 underlying26 p A B D rfl Ϡ v d (Aq L) t
  (q.alloc _) ⟨c,0,none⟩ 1 1 [.string e,vI j,vI i,vS ad k cap,.bool f] z rfl (Dd _ _ _ _ _ _ _) (by intro u m;simp at m;rcases m with rfl|rfl|rfl|rfl|rfl<;>rfl) Ϡ ϩ ϟ Ϥ (c.heap.size+1) ϡ h
end bf
namespace bf
open vl
attribute [local go_sem] Oper.semAt_some
def FA(b:Buf)(l:List Ent):Buf:=if b.lim<(l.length:Int)then⟨b.lim,[],b.runs++[l]⟩else⟨b.lim,l,b.runs⟩
theorem AcT(b:Buf)(x:BX)(e:EM)(y:Ent)(w:ϛ)(h:bufAt w b x)(hw:∀y∈Aa b,wfE y/\wfP (Az y))(hs:(Aa b).length<=4611686018427387904)(he:Dy b=0)(hr:ER w e y)(hy:wfE y)(hf:Dp y=true)(hh:hasB (Aa b) (Az y)=false)(hm:(Aa b).length≠4096):
 η 261 #[AF b x,e.val] w λr w'=>(∃x' l',r= .returned (.tuple #[AF (FA b l') x',ω])/\l'.Perm (b.mem++[y])/\Md l'/\OB w' w x' (FA b l'))/\Ϟ w w':=by
 have KC:ϝ (∀f,Ϟ w f->CT 39 #[AF b x] f (θ f (vI 0))):=λf L=>by
  have:=Ce b x f (Ag h L) hw hs;rwa[he]at this
 have KE:ϝ (∀f,Ϟ w f->CT 183 #[e.val] f (θ f (.bool true))):=λf L=>by
  have:=Io e y f (hr.below L) hy;rwa[hf]at this
 have KP:=hIz (λ(f:ϛ)=>Im e f);have KH:ϝ (∀f,Ϟ w f->CT 265 #[AF b x,.agg #[.string e.key,vI e.time,vI e.seq]] f (θ f (.bool false))):=λf L=>by
  have k:=AbX b x (Az y) f (Ag h L);rw[hh]at k;unfold Ci Az at k;rw[<-hr.key,<-hr.time,<-hr.seq]at k;exact k
 have KS:=hIz (λ(f:ϛ) (L:Ϟ w f)=>Nx b x f (Ag h L) hs);have bc:=Ei he;have aj:=bc.small;have bv:=aj.1 b.mem (mem_cons_self ..);have KK:ϝ (∀f,Ϟ w f->CT 145 #[AF b x,.func (.func 59) #[] #[]] f λr w'=>(∃x',r= .returned (AF b x')/\OB w' f x' b)/\Ϟ f w'):=λf L=>by
  have k:=Ia 59 (enters_of func59 Ϣ rfl) #[] (λ_=>true) b x f (Ag h L) aj.1 aj.2.1 aj.2.2 (λe y w2 _ _ _=>by rw[Array.append_empty];exact GZ e w2);rw[F9 bc]at k;exact k
 have b1:y.row.length<=1000000:=by
  have h1:=(Lv.1 hf).2.1;unfold A3 at h1;by_cases h8:8<y.row.length
  ·rw[if_pos h8]at h1;cases h1
  ·omega
 have KF:=hIz (λ(f:ϛ) (L:Ϟ w f)=>GC e y f (hr.below L) b1);have av:=hV0 hr;obtain⟨N,hN⟩:=nM ((Aa b).length);rw[hN]at KS hm;have dl:((N:Int)==4096)=false:=by simpa using(λh=>hm ϟ:¬(N:Int)=4096)
 have cd:=hV0 bv;have bw:b.runs.length<=100000:=aj.2.1;have cg:=hV0 bw;clear h hw hs he hr hy hf hh hm bc aj bv hN b1 bw;obtain⟨ra,rc,⟨⟨Y,Z,m3⟩,ml⟩,rs⟩:=x;obtain⟨d,ab,P⟩:=b;obtain⟨H,K,J,⟨r1,r2,r3⟩,I⟩:=e;rw[show AF ⟨d,ab,P⟩ ⟨ra,rc,((Y,Z,m3),ml),rs⟩= .agg #[vI d,vS Y Z m3,vS ra rs.length rc]from rfl]at KC KH KS KK⊢;unfold EM.val EM.to hdV at KF;unfold EM.val hdV at KE KP⊢;dsimp only at KE KP KH KF⊢;obtain⟨n,hn⟩:∃n,rs.length=n:=⟨_,rfl⟩;rw[hn]at KC KH KS KK⊢;clear hn;obtain⟨rl,bd⟩:=nM y.row.length;have cj:=hV0 bd;rw[bd]at KF;clear bd;have bm:Ϟ w (ξ (ξ (ξ w (ν d Y Z m3 ra n rc) 29) (ζ H K J r1 r2 r3 I) 63) #[ω,ψ,ψ] 29):=by
  repeat (first|exact bR|(refine Below.alloc ?_ Ϧ _))
 have ax:=EZ (ξ (ξ w (ν d Y Z m3 ra n rc) 29) (ζ H K J r1 r2 r3 I) 63);rw[World.size_alloc,World.size_alloc]at ax;have cf:ϝ (nbAt (ξ (ξ (ξ w (ν d Y Z m3 ra n rc) 29) (ζ H K J r1 r2 r3 I) 63) #[ω,ψ,ψ] 29) (w.heap.size+1+1)):=ax;clear ax;go_enter func261,ntmps261;go_wp2_with (first
  |(go_at_call 39;refine(KC.o _ bm).mono ?_;rintro e w2 ⟨rfl,Q⟩;have bq:Ϟ w w2:=bT bm Q;have c6:=BW Q cf.o;have k0:Δ w2 w 0 (vI d):=cLz Q ϣ;have k1:Δ w2 w 1 (vS Y Z m3):=cLz Q ϣ;have k2:Δ w2 w 2 (vS ra n rc):=cLz Q ϣ;have d0:Δ w2 (w+1) 0 (.string H):=cLz Q ϣ;have d1:Δ w2 (w+1) 1 (vI K):=cLz Q ϣ;have d2:Δ w2 (w+1) 2 (vI J):=cLz Q ϣ;have d3:Δ w2 (w+1) 3 (vS r1 r2 r3):=cLz Q ϣ;have d4:Δ w2 (w+1) 4 (.bool I):=cLz Q ϣ)
  |(go_at_call 183;refine(KE.o _ bq).mono ?_;rintro e w3 ⟨rfl,R⟩;have b8:=BW R c6;have br:Ϟ w w3:=bT bq R;have dr:Δ w3 w 0 (vI d):=cLz R k0;have ds:Δ w3 w 1 (vS Y Z m3):=cLz R k1;have dt:Δ w3 w 2 (vS ra n rc):=cLz R k2;have cn:Δ w3 (w+1) 0 (.string H):=cLz R d0;have co:Δ w3 (w+1) 1 (vI K):=cLz R d1;have cq:Δ w3 (w+1) 2 (vI J):=cLz R d2;have cr:Δ w3 (w+1) 3 (vS r1 r2 r3):=cLz R d3;have cs:Δ w3 (w+1) 4 (.bool I):=cLz R d4))
 go_region_law (first
  |(go_simp;go_at_call 186;refine(KP.o _).mono ?_;rintro e w4 ⟨rfl,S⟩;have bn:Ϟ w w4:=br.drew.trans (S.mono br.size);have b9:=BW S (Mr b8);have v0:Δ w4 (w+1) 0 (.string H):=cLz S cn;have v1:Δ w4 (w+1) 1 (vI K):=cLz S co;have v2:Δ w4 (w+1) 2 (vI J):=cLz S cq;have v3:Δ w4 (w+1) 3 (vS r1 r2 r3):=cLz S cr;have v4:Δ w4 (w+1) 4 (.bool I):=cLz S cs;have u0:Δ w4 w 0 (vI d):=cLz S ϣ;have u1:Δ w4 w 1 (vS Y Z m3):=cLz S ϣ;have u2:Δ w4 w 2 (vS ra n rc):=cLz S ϣ)
  |(go_simp;go_at_call 265;refine(KH.o _ bn).mono ?_;rintro e w5 ⟨rfl,U⟩;have ca:=BW U b9;have bo:Ϟ w w5:=bT bn U;have x0:Δ w5 (w+1) 0 (.string H):=cLz U v0;have x1:Δ w5 (w+1) 1 (vI K):=cLz U v1;have x2:Δ w5 (w+1) 2 (vI J):=cLz U v2;have x3:Δ w5 (w+1) 3 (vS r1 r2 r3):=cLz U v3;have x4:Δ w5 (w+1) 4 (.bool I):=cLz U v4;have s0:Δ w5 w 0 (vI d):=cLz U ϣ;have s1:Δ w5 w 1 (vS Y Z m3):=cLz U ϣ;have s2:Δ w5 w 2 (vS ra n rc):=cLz U ϣ))
 all_goals
  go_wp2_with (first
   |(go_at_call 135;refine(KS.o _ bo).mono ?_;rintro e w6 ⟨rfl,X⟩;have cb:=BW X ca;have a6:Ϟ w w6:=bT bo X;have t0:Δ w6 w 0 (vI d):=cLz X s0;have t1:Δ w6 w 1 (vS Y Z m3):=cLz X s1;have t2:Δ w6 w 2 (vS ra n rc):=cLz X s2)
   |(go_at_call 145;refine(KK.o _ a6).mono ?_;rintro e c ⟨⟨⟨q,t,⟨⟨D,G,E⟩,ac⟩,O⟩,rfl,c3⟩,ae⟩;have am:ϝ (OB c w.heap.size ⟨q,t,((D,G,E),ac),O⟩ ⟨d,ab,P⟩):=A5 c3 a6.size;rw[show AF ⟨d,ab,P⟩ ⟨q,t,((D,G,E),ac),O⟩= .agg #[vI d,vS D G E,vS q O.length t]from rfl];have cc:=BW ae cb;have bp:Ϟ w c:=bT a6 ae;obtain⟨F,au⟩:=nM O.length;rw[au]))
  have q0:Δ c (w+1) 0 (.string H):=cLz ae (cLz X x0);have q1:Δ c (w+1) 1 (vI K):=cLz ae (cLz X x1);have q2:Δ c (w+1) 2 (vI J):=cLz ae (cLz X x2);have q3:Δ c (w+1) 3 (vS r1 r2 r3):=cLz ae (cLz X x3);have q4:Δ c (w+1) 4 (.bool I):=cLz ae (cLz X x4);have cv:G=ac.length:=by
   obtain⟨ad,cp,hf⟩:=am.o.mem.form;unfold hdV at hf;injection hf with _ e2 _
  have c0:ac.length<=100000:=by rw[am.o.mem.len];exact cd.o
  have aa:=hV0 au;have dp:F<=100000:=by rw[<-au,am.o.rlen];exact cg.o
  have an:ϝ (PSt (ξ c (ν d D G E q F t) 29) (w.heap.size+1+1) c.heap.size w.heap.size ⟨q,t,((D,G,E),ac),O⟩ ⟨d,ab,P⟩):=by
   have k:=ZI cc am.o (show w.heap.size<=w.heap.size+1+1 by omega);rw[<-au];exact k
  have ap:Ϟ w (ξ c (ν d D G E q F t) 29):=bp.alloc bp.size _;have ah:Ϟ c (ξ c (ν d D G E q F t) 29):=Ϫ;have y0:=cLz ah q0;have y1:=cLz ah q1;have y2:=cLz ah q2;have y3:=cLz ah q3;have y4:=cLz ah q4;have z1:Δ (ξ c (ν d D G E q F t) 29) c 1 (vS D G E):=an.o.k.c1;have b7:c.heap.size<(c.alloc (.cells (ν d D G E q F t) 29)).heap.size:=ϡ;have dx:w.heap.size+1<c.heap.size:=bLt _ _ q0;clear s0 s1 s2 t0 t1 t2 u0 u1 u2 q0 q1 q2 q3 q4 b8 b9 ca cb cc au x0 x1 x2 x3 x4 v0 v1 v2 v3 v4;subst cv;obtain⟨m,ba⟩:=nM ac.length;have ak:=hV0 ba;rw[ba]at c0 z1 an y0 y1 y2 y3 y4 ap ah b7⊢;clear ba;generalize dh:c.alloc (.cells (ν d D m E q F t) 29)=V at *;obtain⟨i0,bu,b2,b3,b4⟩:=info_parts VH;have HI:ϝ (Tryz.prog.info? 26=some i0/\i0.zero=some (vS none 0 0)/\i0.size=1/\i0.bytes=24):=⟨bu,b2,b3,b4⟩;clear bu b2 b3 b4
  go_region_law (first
   |(refine XE (by rfl) (.tmp 30) (.tmp 33) (by rfl) w.heap.size (vS D m E) ac H K J ay rl c9 I w9 m bi.o ϟ (Nat.le_trans ap.size ai.size) (by simp[Act.eval,Act.put]) (by simp[Act.eval,Act.put]) ?_;intro A z c7 bz a7 cw dj;have cz:=Abu an.o ai a7;obtain⟨p1,pf⟩:=cz;unfold hdV at p1;dsimp only at p1)
   |(go_simp;go_at_call 114;refine(KF.o _ ap.drew).mono ?_;rintro e w9 ⟨⟨ay,c9,rfl,bx⟩,cx⟩;have ai:Ϟ V w9:=bR.drew.trans cx;have n1:Δ w9 c 1 (vS D m E):=cLz ai z1;have bi:ϝ (w9.ownsRow w.heap.size 63 5 (vS D m E) m (Aq ac)):=(by have k:=own_below an.o.k.ob.mem.own ai;dsimp only at k;rw[ak.o]at k;exact k);have dw:c.heap.size<w9.heap.size:=Nat.lt_of_lt_of_le b7 ai.size))
  all_goals
   have aw:=Abv (e:=⟨H,K,J,(ay,rl,c9),I⟩) (y:=y) (g:=A) (c4:=z) an.o ai ⟨av.o.key,av.o.time,av.o.seq,av.o.met,cj.o.symm,by unfold hdV;dsimp only;exact CK bx ap.size⟩ (by dsimp only;rw[ak.o];exact bz) a7 cw;dsimp only at aw;rw[ak.o]at aw;obtain⟨P2,B2⟩:=aw;generalize c7.setCell ⟨c,1,none⟩ (vS (τ A) (m+1) z)=W2 at *;have a5:Ϟ w W2:=ap.trans B2;have bj:ϝ (PSt W2 (w.heap.size+1+1) c.heap.size w.heap.size ⟨q,t,((some ⟨A,0,none⟩,m+1,z),ac++[⟨H,K,J,(ay,rl,c9),I⟩]),O⟩ ⟨d,ab++[y],P⟩):=P2;have bk:ϝ (CT 115 #[vS (τ A) (m+1) z,.func (.func 116) #[] #[]] W2 λe w'=>e= .returned (.tuple #[])/\∃es' l',l'.Perm (ab++[y])/\(∀i j,i<j->j<l'.length->¬ltP (l'.getD j ϰ) (l'.getD i ϰ))/\OE w' w (vS (τ A) (m+1) z) es' l'/\Below w.heap.size W2 w'/\(∀b,b<W2.heap.size->(Value.slice (τ A) (m+1) z).ownBlock≠some b->w'.heap[b]? =W2.heap[b]?)):=Ry w.heap.size _ _ _ W2 P2.k.ob.mem (by rw[lAp,ak.o];simp;omega);have c1:Δ W2 c 1 (vS (τ A) (m+1) z):=P2.k.c1;have bh:ϝ (ab.length=m):=by show _=_;rw[<-ak.o,am.o.mem.len]
   clear P2 y0 y1 y2 y3 y4 z1 bz a7 bx p1 pf n1 bi;by_cases di:d<(m:Int)+1
   ·go_wp2_with (first
     |(go_at_call 115;refine bk.o.mono ?_;rintro e B ⟨rfl,ao,M,aq,be,bb,ag,a8⟩;have l:=Se bj.o bb ag.size a8;dsimp only at l;have af:ϝ (PSt B (w.heap.size+1+1) c.heap.size w.heap.size ⟨q,t,((some ⟨A,0,none⟩,m+1,z),ao),O⟩ ⟨d,M,P⟩):=l;have bg:Δ B c 0 (vI d):=l.k.c0;have b5:Δ B c 1 (vS (τ A) (m+1) z):=l.k.c1;have b6:Δ B c 2 (vS q F t):=(by have k:=l.k.c2;dsimp only at k;rw[aa.o]at k;exact k);have j0:=l.k.r0;have j1:=l.k.r1;have j2:=l.k.r2;have g0:=l.k.g0;have g1:=l.k.g1;have g2:=l.k.g2;have ct:=l.f1;have cu:=l.k.f2;have ci:ϝ (B.ownsRow w.heap.size 26 1 (vS q F t) F (O.map λp=>hdV p.1)):=(by have k:=l.k.ob.hds;dsimp only at k;rw[aa.o]at k;exact k);have dq:w.heap.size<=B.heap.size:=Nat.le_trans a5.size ag.size;have dv:c.heap.size<B.heap.size:=bLt _ _ bg;have du:w.heap.size+1+1<B.heap.size:=bLt _ _ j0;clear l)
     |(at_builtin;refine wpList_append_own _ rfl (.tmp 46) (.tmp 49) 27 rfl w.heap.size 26 i0 (vS none 0 0) 1 24 underlying27 HI.o.1 HI.o.2.1 HI.o.2.2.1 HI.o.2.2.2 rfl Ϡ _ _ _ rfl (World.ownsRow.alloc ci.o _) ⟨B.heap.size,0,none⟩ 1 1 [vS (τ A) (m+1) z] rfl rfl (cell_one_new _ _ rfl _) (by intro u hu;simp at hu;rcases hu with rfl;rfl) ϩ ϟ Ϥ ?_;intro dy dz b0 bs dm;obtain⟨a0,az,c5⟩:=Fa b0;subst c5;have cy:=Nt af.o (by dsimp only;rw[aa.o];exact bs);obtain⟨_,eN,eC,_⟩:=cy;have c8:=(cOb (a:=⟨c.heap.size,0,none⟩) eN).trans bg;have da:=(cOb (a:=⟨c.heap.size,1,none⟩) eN).trans b5;have db:=(cOb (a:=⟨c.heap.size,2,none⟩) eN).trans b6;have dc:=(AG (p:=⟨c.heap.size,1,none⟩) eN).trans ct;have dd:=(AG (p:=⟨c.heap.size,2,none⟩) eN).trans cu;have ck:=(cOb (a:=⟨w.heap.size+1+1,0,none⟩) eC).trans j0;have cl:=(cOb (a:=⟨w.heap.size+1+1,1,none⟩) eC).trans j1;have cm:=(cOb (a:=⟨w.heap.size+1+1,2,none⟩) eC).trans j2;have de:=(AG (p:=⟨w.heap.size+1+1,0,none⟩) eC).trans g0;have df:=(AG (p:=⟨w.heap.size+1+1,1,none⟩) eC).trans g1;have dg:=(AG (p:=⟨w.heap.size+1+1,2,none⟩) eC).trans g2;have c2:w.heap.size+1+1≠c.heap.size:=Nat.ne_of_lt af.o.k.ne))
    have a9:M.length=m+1:=by rw[aq.length_eq,lAp,bh.o];rfl
    have ar:FA ⟨d,ab,P⟩ M=⟨d,[],P++[M]⟩:=by unfold FA;rw[if_pos (by dsimp only;rw[a9];push_cast;omega)]
    have al:=Sg (g:=a0) (cap2:=az) af.o (by dsimp only;rw[aa.o];exact b0) (by dsimp only;rw[aa.o];exact bs);dsimp only at al;rw[aa.o]at al;have a4:=(a5.trans ag).trans al.2;refine bodyPost_ret (v:=.tuple #[.agg #[vI d,ψ,vS (τ a0) (F+1) az],ω]) (by simp[results,results261,go_sem,ck,cl,cm,c2]) rfl ⟨⟨⟨some ⟨a0,0,none⟩,az,((none,0,0),[]),O++[((some ⟨A,0,none⟩,m+1,z),ao)]⟩,M,?_,aq,be,?_⟩,?_⟩
    ·rw[ar];unfold AF hdV;dsimp only;rw[lAp,aa.o];rfl
    ·rw[ar];exact Gd al.1.k.ob al.1.k.rt _ _ _
    ·exact((a4.setCell ϥ _).setCell ϥ _).setCell ϥ _
   ·go_wp2_with (go_at_call 115;refine bk.o.mono ?_;rintro e B ⟨rfl,ao,M,aq,be,bb,ag,a8⟩;have l:=Se bj.o bb ag.size a8;dsimp only at l;have af:ϝ (PSt B (w.heap.size+1+1) c.heap.size w.heap.size ⟨q,t,((some ⟨A,0,none⟩,m+1,z),ao),O⟩ ⟨d,M,P⟩):=l;have bg:Δ B c 0 (vI d):=l.k.c0;have b5:Δ B c 1 (vS (τ A) (m+1) z):=l.k.c1;have b6:Δ B c 2 (vS q F t):=(by have k:=l.k.c2;dsimp only at k;rw[aa.o]at k;exact k);have j0:=l.k.r0;have j1:=l.k.r1;have j2:=l.k.r2;have g0:=l.k.g0;have g1:=l.k.g1;have g2:=l.k.g2;clear l);have a9:M.length=m+1:=by rw[aq.length_eq,lAp,bh.o];rfl
    have a4:Ϟ w B:=a5.trans ag;have ar:FA ⟨d,ab,P⟩ M=⟨d,M,P⟩:=by unfold FA;rw[if_neg (by dsimp only;rw[a9];push_cast;omega)]
    refine bodyPost_ret (v:=.tuple #[.agg #[vI d,vS (τ A) (m+1) z,vS q F t],ω]) (by simp[results,results261,go_sem,j0,j1,j2]) rfl ⟨⟨⟨q,t,((some ⟨A,0,none⟩,m+1,z),ao),O⟩,M,?_,aq,be,?_⟩,?_⟩
    ·rw[ar];unfold AF hdV;dsimp only;rw[aa.o]
    ·rw[ar];exact Gd af.o.k.ob af.o.k.rt _ _ _
    ·exact((a4.setCell ϥ _).setCell ϥ _).setCell ϥ _
end bf
namespace ch
open vl
theorem Hs(a1 a2:Ϝ)(c1 c2:Nat)(a d:List Chg)(w:ϛ)(h1:BZ w a1 a)(h2:BZ w a2 d)(x1:CU a)(x2:CU d)(l1:a.length<=χ)(l2:d.length<=χ):
 η 18 #[vS a1 a.length c1,vS a2 d.length c2] w (θ w (.bool (decide (a=d)))):=by
 by_cases hl:a.length=d.length
 ·obtain⟨p,F⟩:∃p,a.length=p:=⟨_,rfl⟩;have ad:d.length=p:=ϟ;rw[F]at l1;have HR:=hV0 F;have ah:=hV0 ad;rw[F,ad];clear hl l2 F ad;go_enter func18,ntmps18;go_wp2
  go_loopw [5] (λi wr=> ∃k:Nat,k<=p/\i=vI k/\Ϟ w wr/\a.take k=d.take k) (λi _=>p - (intOf i).toNat)
  case atStart=>exact⟨0,Nat.zero_le _,rfl,bR,rfl⟩
  case round=>
   obtain⟨k,hk,rfl,j,ai⟩:=hrel;have HA:=hV0 ai;clear ai;by_cases al:k<p
   ·have Z:k<a.length:=by rw[HR.o];exact al
    have aa:k<d.length:=by rw[ah.o];exact al
    obtain⟨D,H,r,M,e1,p1,p2,p3⟩:=h1 k Z;obtain⟨E,I,u,O,e2,y1,y2,y3⟩:=h2 k aa;subst e1 e2;have S:=(Q9 x1 k Z).2.1;have U:=(Q9 x2 k aa).2.1;have q:=cLz j p2;have X:ϝ (vl.rowAt wr r (a.getD k ϰ).r):=Ac p3 j;have J:=cLz j p1;have z:=cLz j y2;have Y:ϝ (vl.rowAt wr u (d.getD k ϰ).r):=Ac y3 j;have P:=cLz j y1;clear p1 p2 p3 y1 y2 y3 h1 h2;have A:ϝ (a.getD k ϰ≠d.getD k ϰ->decide (a=d)=false):=Ade;have V:ϝ (a.getD k ϰ=d.getD k ϰ->a.take (k+1)=d.take (k+1)):=Sz Z aa HA.o;obtain⟨⟨m,K⟩,aj⟩:∃c,a.getD k ϰ=c:=⟨_,rfl⟩;obtain⟨⟨G,L⟩,ak⟩:∃c,d.getD k ϰ=c:=⟨_,rfl⟩;rw[aj]at q J X A V S;rw[ak]at z P Y A V U;clear aj ak;dsimp only at q J z P X Y S U;obtain⟨la,ab⟩:∃x,K.length=x:=⟨_,rfl⟩;obtain⟨lb,ac⟩:∃x,L.length=x:=⟨_,rfl⟩;have B:ϝ (∀f,Ϟ wr f->CT 22 #[vS r la M,vS u lb O] f (θ f (.bool (decide (K=L))))):=λf hb=>by
     rw[<-ab,<-ac];exact RU r u M O K L f (Ac X.o hb) (Ac Y.o hb) S U
    rw[ab]at q;rw[ac]at z;clear ab ac S U;have i1:(0:Int)<=(k:Int):=ϟ;have i2:(k:Int)<(p:Int):=ϟ;have dr:Ϟ wr wr.drew:=bR.drew;by_cases Q:m=G
    ·subst Q;by_cases R:K=L
     ·have n:ϝ (a.take (k+1)=d.take (k+1)):=V.o (by rw[R]);rw[decide_eq_true R]at B;go_wp2
      go_region_held3 (λf=>Δ f D (H+k * 2+1) (vS r la M)/\Δ f E (I+k * 2+1) (vS u lb O)/\Δ f D (H+k * 2) (vI m)/\Δ f E (I+k * 2) (vI m)) (first|go_keep|exact⟨cLz l q,cLz l z,cLz l J,cLz l P⟩)
       (first|(go_at_call 22;refine(B.o wr.drew dr).mono ?_;rintro e wq ⟨rfl,l⟩))
      all_goals
       have ae:Ϟ w wq:=j.drew.trans (l.mono j.size);go_wp2;go_roundw
       case rel=>exact⟨k+1,ϟ,by go_num,ae,n.o⟩
       case measure=>simp[intOf];omega
     ·have n:ϝ (decide (a=d)=false):=A.o (λe=>R (by cases e;rfl));rw[decide_eq_false R]at B;go_wp2
      go_region_held3 (λf=>Δ f D (H+k * 2+1) (vS r la M)/\Δ f E (I+k * 2+1) (vS u lb O)/\Δ f D (H+k * 2) (vI m)/\Δ f E (I+k * 2) (vI m)) (first|go_keep|exact⟨cLz l q,cLz l z,cLz l J,cLz l P⟩)
       (first|(go_at_call 22;refine(B.o wr.drew dr).mono ?_;rintro e wq ⟨rfl,l⟩))
      all_goals
       have ae:Ϟ w wq:=j.drew.trans (l.mono j.size);go_wp2;go_ret;exact⟨Ab n.o.symm,ae⟩
    ·have ao:(m==G)=false:=by simpa using Q
     have ap:∀t,binOp .neq t (vI m) (vI G)=pure (.bool true):=λt=>by rw[binOp_neq,show(m !=G)=true by simpa using Q]
     have n:ϝ (decide (a=d)=false):=A.o (λe=>Q (by cases e;rfl));go_wp2
     go_quiet (fail)
     have an:=below_drewN j nq;go_wp2;go_ret;exact⟨Ab n.o.symm,an⟩
   ·have HT:ϝ (decide (a=d)=true):=decide_eq_true (by
     have h:=HA.o;rw[take_of_length_le (by rw[HR.o];omega),take_of_length_le (by rw[ah.o];omega)]at h;exact h)
    go_wp2;go_ret;exact⟨Ab HT.o.symm,j⟩
 ·have am:((a.length:Int)==(d.length:Int))=false:=by rw[beq_eq_false_iff_ne];omega
  have n:ϝ (decide (a=d)=false):=decide_eq_false (λe=>hl (by rw[e]));obtain⟨n1,af⟩:∃x,a.length=x:=⟨_,rfl⟩;obtain⟨n2,ag⟩:∃x,d.length=x:=⟨_,rfl⟩;rw[af,ag]at am;rw[af,ag];rw[af]at l1;rw[ag]at l2;go_enter func18,ntmps18;go_wp2;go_ret;exact⟨Ab n.o.symm,bR⟩
end ch
end Go.Proofs.YtdohnkkbkfhphaaGreat
