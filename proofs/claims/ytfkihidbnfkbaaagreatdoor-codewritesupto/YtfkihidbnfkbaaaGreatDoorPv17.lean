import Derived.Test.YtfkihidbnfkbaaaGreatDoorPv46
import Derived.Test.YtfkihidbnfkbaaaGreatDoorPv16
set_option linter.all false
set_option maxHeartbeats 8000000
set_option maxRecDepth 100000
open Go.ChangeShapes Go.WideShapes Go.ChangeAt Go.RowKit List
namespace Go.Proofs.YtfkihidbnfkbaaaGreatDoor
open Go.Proofs.Tryz
namespace bf
open vl
attribute [local go_sem] Oper.semAt_some
def Pw(l:List Ent):Prop:=∀i j,i<j->j<l.length->¬ltP (l.getD j default) (l.getD i default)
def JY(k:ByteArray)(a z:Int)(y:Ent):Bool:=decide (y.key=k)&&(decide (a<=y.time)&&decide (y.time<=z))
theorem Zu(e:EM)(k:ByteArray)(a z:Int)(i j l:Nat)(w:Ϡ)(h1:Δ w i 0 (.string k))(o:Δ w j 0 (vI a))(p:Δ w l 0 (vI z)):
 χ 377 #[e.val,ω i,ω j,ω l] w (ψ w (.bool (decide (e.key=k)&&(decide (a<=e.time)&&decide (e.time<=z))))):=by
 obtain⟨g,h,s,⟨y,A,B⟩,r⟩:=e;unfold EM.val hdV;dsimp only;have t:i<w.heap.size:=bLt _ _ h1;have u:j<w.heap.size:=bLt _ _ o;have v:l<w.heap.size:=bLt _ _ p;obtain⟨R,c⟩:∃q,(decide (g=k)&&(decide (a<=h)&&decide (h<=z)))=q:=⟨_,rfl⟩;rw[c];by_cases f:g=k
 ·by_cases m:a<=h
  ·by_cases n:h<=z
   ·have d:Ϣ (R=true):=by show _=_;rw[<-c];simp[f,m,n]
    clear c;subst f;go_enter func377,ntmps377;go_wp2;go_ret;exact⟨Aa d.o.symm,ϯ⟩
   ·have d:Ϣ (R=false):=by show _=_;rw[<-c];simp[n]
    clear c;subst f;go_enter func377,ntmps377;go_wp2;go_ret;exact⟨Aa d.o.symm,ϯ⟩
  ·have d:Ϣ (R=false):=by show _=_;rw[<-c];simp[m]
   clear c;subst f;go_enter func377,ntmps377;go_wp2;go_ret;exact⟨Aa d.o.symm,ϯ⟩
 ·have d:Ϣ (R=false):=by show _=_;rw[<-c];simp[f]
  clear c;have D:¬g.toList=k.toList:=λe=>f (by have:=bytes_beq g k;rw[e]at this;simpa using this.symm);go_enter func377,ntmps377;go_wp2;go_ret;exact⟨Aa d.o.symm,ϯ⟩
theorem Aep(b:Buf)(x:BX)(k:ByteArray)(a z:Int)(w:Ϡ)(h:bufAt w b x)(H:∀y∈Ab b,wfE y/\wfP (AK y))(F:(Ab b).length<=4611686018427387904)(j:DK b=0):
 χ 363 #[B5 b x,.string k,vI a,vI z] w λe g=>(∃(f:Hdr) (es':List EM) (l':List Ent),e= .returned (.tuple #[hdV f,Ϗ])/\l'.Perm ((Ab b).filter (JY k a z))/\Pw l'/\OE g w (hdV f) es' l')/\ϣ w g:=by
 have s:Ϣ (∀c,ϣ w c->CT 100 #[B5 b x] c (ψ c (vI 0))):=λc t=>by
  have:=Bi b x c (Ar h t) H F;rwa[j]at this
 have G:=(Fx j).small;have M:=(Fx j).all;have i:Ϣ (∀c,ϣ w c->Δ c (w+1) 0 (.string k)->Δ c (w+1+1) 0 (vI a)->Δ c (w+1+1+1) 0 (vI z)->CT 376 #[B5 b x,.func (.func 377) #[] #[ω (w+1),ω (w+1+1),ω (w+1+1+1)]] c λe g=>(∃(f:Hdr) (es':List EM) (l':List Ent),e= .returned (hdV f)/\l'.Perm ((Ab b).filter (JY k a z))/\Pw l'/\OE g c (hdV f) es' l')/\ϣ c g):=λc t I J K=>
  YT 377 (enters_of func377 ϧ rfl) #[ω (w+1),ω (w+1+1),ω (w+1+1+1)] (JY k a z) b x c (Ar h t) Ϥ G.2.2 (λe y w2 D _ d=>by
   have:=Zu e k a z (w.heap.size+1) (w.heap.size+1+1) (w.heap.size+1+1+1) w2 (cLz d I) (cLz d J) (cLz d K);rw[D.key,D.time]at this;exact this)
 clear h H F j G M;obtain⟨L,A⟩:∃X,(Ab b).filter (JY k a z)=X:=⟨_,rfl⟩;rw[A]at i⊢;clear A;obtain⟨q,r,⟨⟨m,o,p⟩,U⟩,v⟩:=x;obtain⟨l,T,V⟩:=b;rw[show B5 ⟨l,T,V⟩ ⟨q,r,((m,o,p),U),v⟩= .agg #[vI l,vS m o p,vS q v.length r]from rfl]at s i⊢;obtain⟨n,E⟩:∃n,v.length=n:=⟨_,rfl⟩;rw[E]at s i⊢;clear E;have B:ϣ w (ϊ (ϊ (ϊ (ϊ w (τ l m o p q n r) 36) #[.string k] 9) #[vI a] 3) #[vI z] 3):=by
  repeat (first|exact bR|(refine Below.alloc ?_ ϫ _))
 go_enter func363,ntmps363;go_wp2_with (first
  |(go_at_call 100;refine(s.o _ B).mono ?_;rintro e w2 ⟨rfl,d⟩;have u:ϣ w w2:=bT B d;have Y:Δ w2 w 0 (vI l):=cLz d Ϩ;have Z:Δ w2 w 1 (vS m o p):=cLz d Ϩ;have k2:Δ w2 w 2 (vS q n r):=cLz d Ϩ;have Q:Δ w2 (w+1) 0 (.string k):=cLz d Ϩ;have R:Δ w2 (w+1+1) 0 (vI a):=cLz d Ϩ;have S:Δ w2 (w+1+1+1) 0 (vI z):=cLz d Ϩ)
  |(go_at_call 376;refine(i.o _ u Q R S).mono ?_;rintro e w3 ⟨⟨f,es',l',rfl,P,hy,O⟩,N⟩))
 go_ret2
 exact⟨⟨f,es',l',rfl,P,hy,O.mono u.size⟩,bT u N⟩
theorem Af4(k:Int)(w:Ϡ)(h:AA k 1 64=true):χ 152 #[vI k] w (ψ w (.tuple #[.agg #[vI k,ώ,ώ],Ϗ])):=by
 have c:Ϣ (∀a,CT 166 #[vI k] a λe d=>e= .returned (.bool true)/\d=a):=λa=>by have:=IJ k a;rwa[h]at this
 clear h;go_enter func152,ntmps152;go_wp2_with (go_at_call 166;refine(c.o _).mono ?_;rintro e w2 ⟨rfl,rfl⟩);exact bodyPost_ret (v:=.tuple #[.agg #[vI k,ώ,ώ],Ϗ]) (by simp[results,results152,go_sem]) rfl ⟨rfl,ϯ⟩
end bf
namespace bf
open vl
variable {b : Buf} {W W' w w2 : Ϡ} {C NB base : Nat} {x : BX} {es' : List EM} {l' : List Ent}
theorem JZ(h:okB b):Eg (λ_=>true) b=b:=by
 obtain⟨i,d,a⟩:=b;have c:=h.full;unfold Eg EF;dsimp only at c⊢;have e:d.filter (λ_=>true)=d:=filter_eq_self.2 (λ_ _=>rfl);have f:a.map (·.filter (λ_=>true))=a:=by
  conv=>rhs;rw[<-map_id a]
  refine map_congr_left (λr _=>?_);exact filter_eq_self.2 (λ_ _=>rfl)
 rw[e,f,filter_eq_self.2 (λr g=>decide_eq_true (c r g))]
theorem OB.run(h:OB w base x b){p:Part}(f:p∈x.rs):∃i,i<b.runs.length/\x.rs.getD i default=p/\OE w base (hdV p.1) p.2 (b.runs.getD i default):=by
 obtain⟨i,a,rfl⟩:=getElem_of_mem f;have e:x.rs.getD i default=x.rs[i]:=by rw[gDe,gEe a];rfl
 have c:i<b.runs.length:=by rw[<-h.rlen];exact a
 have d:=h.runs i c;rw[e]at d;exact⟨i,c,e,d⟩
theorem Ace{d:Ϡ}{f:Hdr}(h:OB w base x b)(A:OE d base (hdV f) es' l')(u:w.heap.size<=d.heap.size)(s:∀k,k<w.heap.size->(hdV x.m.1).ownBlock≠some k->d.heap[k]? =w.heap[k]?)
 (y:∀g,(hdV f).ownBlock=some g->(hdV x.m.1).ownBlock=some g\/w.heap.size<=g):OB d base ⟨x.ra,x.rc,(f,es'),x.rs⟩ ⟨b.lim,l',b.runs⟩:=by
 have n:=pairwise_cons.1 h.two;refine⟨Nat.le_trans h.low u,A,A1 h.hds (λg a=>s g (AL h.hds a).2 (λe=>Jr h.mem.own h.hds ϥ e a)),h.rlen,λi j=>?_,?_⟩
 ·have l:=h.runs i j;have z:i<x.rs.length:=by rw[h.rlen];exact j
  have v:apB (hdV x.m.1) (hdV (x.rs.getD i default).1):=n.1 _ (mem_map.2 ⟨_,AN z,rfl⟩);refine l.same u (λg E t a m=>s g (Array.getElem?_eq_some_iff.1 a).1 (λe=>?_));rcases m with⟨D,_⟩|m
  ·exact v g e D
  ·subst m;exact tyAt_apart (A9 h.mem.own e) ⟨_,_,a⟩ ϥ rfl
 ·refine pairwise_cons.2 ⟨λc q g a r=>?_,n.2⟩;rcases y g a with o|o
  ·exact n.1 c q g o r
  ·obtain⟨p,B,rfl⟩:=mem_map.1 q;obtain⟨i,j,_,l⟩:=h.run B;have:=(AL l.own r).2;omega
theorem Aeq{g cap2:Nat}(h:OB w base x b)(s:w2.ownsRow base 33 1 (vS (ϋ g) (x.rs.length+1) cap2) (x.rs.length+1) ((x.rs.map λp=>hdV p.1)++[hdV x.m.1]))(d:w.heap.size<=w2.heap.size)
 (m:∀k,Ah w k 166\/Ah w k 119->w2.heap[k]? =w.heap[k]?):OB w2 base ⟨some ⟨g,0,none⟩,cap2,((none,0,0),[]),x.rs++[x.m]⟩ ⟨b.lim,[],b.runs++[b.mem]⟩:=by
 have n:=pairwise_cons.1 h.two;refine⟨Nat.le_trans h.low d,E9 (Nat.le_trans h.low d),?_,?_,λi f=>?_,?_⟩
 ·dsimp only;rw[lAp,map_append];exact s
 ·dsimp only;rw[lAp,lAp,h.rlen];rfl
 ·dsimp only at f⊢;rw[lAp]at f;by_cases j:i<b.runs.length
  ·rw[AQ (by rw[h.rlen];exact j),AQ j];exact(h.runs i j).other d m
  ·have:i=b.runs.length:=by simp at f;omega
   subst this;rw[AW (by rw[h.rlen];exact Nat.le_refl _),AW nR,h.rlen,Nat.sub_self];exact h.mem.other d m
 ·dsimp only;rw[map_cons,map_append];refine pairwise_cons.2 ⟨λc _ l e=>(by cases e),pairwise_append.2 ⟨n.2,pairwise_singleton _ _,λa ha c o l e r=>?_⟩⟩;have q:c=hdV x.m.1:=by simpa using o
  subst q;exact n.1 a ha l r e
structure PSt(W:World)(C NB base:Nat)(x:BX)(b:Buf):Prop where
 k:KSt W C NB base x b
 f1:Ξ W NB 1
theorem PSt.below(h:PSt W C NB base x b)(a:ϣ W W'):PSt W' C NB base x b:=
 ⟨h.k.below a,(a.frozen (p:=⟨NB,1,none⟩) (AH h.k.ty)).trans h.f1⟩
theorem Af5(nb:nbAt w2 C)(h:OB w2 base x b)(d:base<=C):
 PSt (ϊ w2 #[vI b.lim,hdV x.m.1,vS x.ra x.rs.length x.rc] 36) C w2.heap.size base x b:=by
 have c:ϣ w2 (ϊ w2 #[vI b.lim,hdV x.m.1,vS x.ra x.rs.length x.rc] 36):=ϯ;have a:=C6 c nb;have e:=AH nb.ty;refine⟨⟨h.below c,?_,?_,?_,?_,⟨_,_,World.alloc_heap_new _ _⟩,a.n0,a.n1,a.n2,a.o0,a.o1,a.o2,a.ty,e,d⟩,?_⟩
 ·unfold hdV;go_simp
 ·unfold hdV;go_simp
 ·unfold hdV;go_simp
 ·unfold hdV;go_simp
 ·unfold hdV;go_simp
theorem O7(h:PSt W C NB base x b)(c:W.heap.size<=W'.heap.size)(a:∀k,k<W.heap.size->(hdV x.m.1).ownBlock≠some k->W'.heap[k]? =W.heap[k]?):W'.heap[NB]? =W.heap[NB]? /\W'.heap[C]? =W.heap[C]? :=
 ⟨a NB (AH h.k.ty) (λe=>tyAt_apart (A9 h.k.ob.mem.own e) h.k.ty ϥ rfl),a C (AH h.k.rt) (λe=>tyAt_apart (A9 h.k.ob.mem.own e) h.k.rt ϥ rfl)⟩
theorem Ui(h:PSt W C NB base x b)(j:OE W' base (hdV x.m.1) es' l')(f:W.heap.size<=W'.heap.size)(e:∀k,k<W.heap.size->(hdV x.m.1).ownBlock≠some k->W'.heap[k]? =W.heap[k]?):
 PSt W' C NB base ⟨x.ra,x.rc,(x.m.1,es'),x.rs⟩ ⟨b.lim,l',b.runs⟩:=by
 obtain⟨d,c⟩:=O7 h f e;exact⟨⟨Ace h.k.ob j f e (λg i=>.inl i),(cOb (a:=⟨NB,0,none⟩) d).trans h.k.c0,(cOb (a:=⟨NB,1,none⟩) d).trans h.k.c1,(cOb (a:=⟨NB,2,none⟩) d).trans h.k.c2,(Bc (p:=⟨NB,2,none⟩) d).trans h.k.f2,Aq h.k.ty d,
  (cOb (a:=⟨C,0,none⟩) c).trans h.k.r0,(cOb (a:=⟨C,1,none⟩) c).trans h.k.r1,(cOb (a:=⟨C,2,none⟩) c).trans h.k.r2,(Bc (p:=⟨C,0,none⟩) c).trans h.k.g0,(Bc (p:=⟨C,1,none⟩) c).trans h.k.g1,(Bc (p:=⟨C,2,none⟩) c).trans h.k.g2,Aq h.k.rt c,h.k.ne,h.k.up⟩,(Bc (p:=⟨NB,1,none⟩) d).trans h.f1⟩
end bf
namespace jn
open vl
attribute [local go_sem] Oper.semAt_some
def Dg(p:pl.Pln):Jn:=if pl.Ag p=0 then⟨⟨p.limit,[],[]⟩,⟨p.limit,[],[]⟩,noMark,noMark,0⟩else j0
theorem Acf{p:pl.Pln}(h:pl.Ag p=0):bf.AA p.limit 1 64=true:=(bf.Bh _ _ _).2 (pl.Bv h).2.1.2.2
theorem Zv(p:pl.Pln)(x:pl.PA)(w:Ϡ)(P:pl.wfPlan p)(O:pl.planAt w p x):
 χ 95 #[pl.Aj p x] w (ψ w (.tuple #[joinV (Dg p) jx0,vI (pl.Ag p)])):=by
 have l:=hIz (λ(a:Ϡ) (T:ϣ w a)=>pl.Dd p x a P (pl.Ae O T));have m:Ϣ (pl.Ag p=0->∀a,CT 152 #[vI p.limit] a (ψ a (.tuple #[.agg #[vI p.limit,ώ,ώ],Ϗ]))):=λh a=>bf.Af4 p.limit a (Acf h);obtain⟨Z,s⟩:=nM (joinV (Dg p) jx0);have f:=hV0 s;rw[s];clear s;unfold Dg at f;obtain⟨E,K⟩:=nM (pl.Ag p);rw[K]at l m f⊢;clear K P O;unfold pl.Aj at l⊢;go_enter func95,ntmps95;go_wp2_with fail;generalize d:(World.alloc (World.alloc w _) _)=V;have t:ϣ w V:=by rw[<-d];exact ϯ.alloc Ϧ _
 have i:Ϣ (boxP V w p x):=by
  subst d;exact Af (BQ ..) ϯ
 have c:Ϣ (noJ V (w+1)):=by
  subst d;have:=Ra (ϊ w (Φ p x) 32);rw[World.size_alloc]at this;exact this
 clear d;refine(l.o _ t).mono ?_;rintro e a ⟨rfl,n⟩;have y:ϣ w a:=bT t n;replace i:Ϣ (boxP a w p x):=Af i.o n;replace c:Ϣ (noJ a (w+1)):=DF c.o n;clear n t l;by_cases r:E=0
 ·subst r;rw[if_pos rfl]at f;have Y:=i.o.2.2.2.2.2.1;go_wp2_with fail;refine(m.o Ϭ _).mono ?_;rintro e w2 ⟨rfl,o⟩;have L:ϣ w w2:=bT y o;have u5:=(Af i.o o).2.2.2.2.2.1;replace c:Ϣ (noJ w2 (w+1)):=DF c.o o;have lw:=Abw c.o;have ab:w.heap.size<w2.heap.size:=Ϥ;clear Y o i;go_wp2_with fail;generalize d:(World.alloc w2 _)=g;have u:ϣ w2 g:=by rw[<-d];exact ϯ
  have M:ϣ w g:=bT L u;have Q:Δ g w2 0 (vI p.limit):=by subst d;go_simp
  have R:Δ g w2 1 (vS none 0 0):=by subst d;go_simp
  have S:Δ g w2 2 (vS none 0 0):=by subst d;go_simp
  replace c:Ϣ (noJ g (w+1)):=DF c.o u;clear d u5;refine(m.o Ϭ _).mono ?_;rintro e w4 ⟨rfl,q⟩;have N:ϣ w w4:=bT M q;obtain⟨X,q1,q2⟩:=lk3 q Q R S;have ac:w2.heap.size<w4.heap.size:=bLt _ _ X;have ad:w.heap.size+1<w4.heap.size:=Ϥ;replace c:Ϣ (noJ (ϊ w4 #[vI p.limit,ώ,ώ] 36) (w.heap.size+1)):=DF (DF c.o q) ϯ;have U:ϣ w (ϊ w4 #[vI p.limit,ώ,ώ] 36):=N.alloc N.size _;clear Q R S u q M L y m;have k:Ϣ ((World.setCells (ϊ w4 #[vI p.limit,ώ,ώ] 36) (w.heap.size+1) 0 [vI p.limit,ώ,ώ,vI p.limit,ώ,ώ,vI (-1099511627777),vI (-1099511627777),Ϗ]).rangeAt (w.heap.size+1) 0 [vI p.limit,ώ,ώ,vI p.limit,ώ,ώ,vI (-1099511627777),vI (-1099511627777),Ϗ]):=Ie c.o rfl;have j:Ϣ (ϣ w (World.setCells (ϊ w4 #[vI p.limit,ώ,ώ] 36) (w.heap.size+1) 0 [vI p.limit,ώ,ώ,vI p.limit,ώ,ώ,vI (-1099511627777),vI (-1099511627777),Ϗ])):=below_setCells (Nat.le_succ w.heap.size) _ 0 _ U;go_wp2_with ((with_reducible refine wpList_store_mid ?_ 38 (.tmp 2) (.tmp 29) ?_ (w.heap.size+1) 0 #[vI p.limit,ώ,ώ,vI p.limit,ώ,ώ,vI (-1099511627777),vI (-1099511627777),Ϗ] ?_ ?_ ?_ ?_ ?_ ?_);exact rfl;exact rfl;exact rfl;exact rfl;exact c.o;exact Lc;exact ϭ);generalize (World.setCells (ϊ w4 #[vI p.limit,ώ,ώ] 36) (w.heap.size+1) 0 [vI p.limit,ώ,ώ,vI p.limit,ώ,ώ,vI (-1099511627777),vI (-1099511627777),Ϗ])=W' at k j⊢;obtain⟨z,A,B,D,F,G,H,I,J⟩:=rg9 k.o;exact bodyPost_ret (v:=.tuple #[.agg #[vI p.limit,ώ,ώ,vI p.limit,ώ,ώ,vI (-1099511627777),vI (-1099511627777),Ϗ],Ϗ]) (by simp[results,results95,go_sem,z,A,B,D,F,G,H,I,J]) rfl ⟨by rw[<-f.o];rfl,j.o⟩
 ·rw[if_neg r]at f;have aa:(E !=0)=true:=by simpa using r
  have k:Ϣ ((World.setCells a (w.heap.size+1) 0 [Ϗ,ώ,ώ,Ϗ,ώ,ώ,Ϗ,Ϗ,Ϗ]).rangeAt (w.heap.size+1) 0 [Ϗ,ώ,ώ,Ϗ,ώ,ώ,Ϗ,Ϗ,Ϗ]):=Ie c.o rfl;have j:Ϣ (ϣ w (World.setCells a (w.heap.size+1) 0 [Ϗ,ώ,ώ,Ϗ,ώ,ώ,Ϗ,Ϗ,Ϗ])):=below_setCells (Nat.le_succ w.heap.size) _ 0 _ y;go_wp2_with ((with_reducible refine wpList_store_mid ?_ 38 (.tmp 2) (.tmp 13) ?_ (w.heap.size+1) 0 #[Ϗ,ώ,ώ,Ϗ,ώ,ώ,Ϗ,Ϗ,Ϗ] ?_ ?_ ?_ ?_ ?_ ?_);exact rfl;exact rfl;exact rfl;exact rfl;exact c.o;exact Lc;exact ϭ);generalize (World.setCells a (w.heap.size+1) 0 [Ϗ,ώ,ώ,Ϗ,ώ,ώ,Ϗ,Ϗ,Ϗ])=W' at k j⊢;obtain⟨z,A,B,D,F,G,H,I,J⟩:=rg9 k.o;exact bodyPost_ret (v:=.tuple #[.agg #[Ϗ,ώ,ώ,Ϗ,ώ,ώ,Ϗ,Ϗ,Ϗ],vI E]) (by simp[results,results95,go_sem,z,A,B,D,F,G,H,I,J]) rfl ⟨by rw[<-f.o];rfl,j.o⟩
theorem J9(m:Int)(w:Ϡ):χ 169 #[vI m] w (ψ w (.bool (Du m))):=by
 unfold Du;have c:=tm.Dr m;by_cases h:m=noMark
 ·have d:(m== -1099511627777)=true:=by unfold noMark at h;simpa using h
  have a:Ϣ (true=(decide (m=noMark)||tm.Bt m)):=by show _=_;rw[decide_eq_true h];rfl
  clear c;unfold noMark at h;subst h;go_enter func169,ntmps169;go_wp2;go_ret;exact⟨Aa a.o,bR⟩
 ·have d:(m== -1099511627777)=false:=by unfold noMark at h;simpa using h
  have a:Ϣ (tm.Bt m=(decide (m=noMark)||tm.Bt m)):=by show _=_;rw[decide_eq_false h];rfl
  go_enter func169,ntmps169;go_wp2_with (go_at_call 197;refine(c _).mono ?_;rintro e w2 ⟨rfl,rfl⟩);go_ret;exact⟨Aa a.o,bR⟩
theorem FI(s:Jn)(y:JX)(w:Ϡ):χ 101 #[joinV s y] w (ψ w (.bool (Et s))):=by
 have o:Ϣ (∀a,CT 169 #[vI s.lm] a (ψ a (.bool (Du s.lm)))):=λa=>J9 _ a;have p:Ϣ (∀a,CT 169 #[vI s.rm] a (ψ a (.bool (Du s.rm)))):=λa=>J9 _ a;obtain⟨R,q⟩:=nM (Et s);have d:=hV0 q;rw[q];clear q;unfold Et at d;obtain⟨E,g⟩:=nM (Du s.lm);obtain⟨F,h⟩:=nM (Du s.rm);rw[g]at o d;rw[h]at p d;clear g h;rw[AY];obtain⟨⟨Z,aa,⟨⟨K,L,M⟩,N⟩,H⟩,⟨ad,ae,⟨⟨O,P,Q⟩,bl⟩,J⟩⟩:=y;obtain⟨⟨T,X,ab⟩,⟨r0,ac,af⟩,U,I,m⟩:=s;dsimp only at *;obtain⟨Y,B⟩:∃n,H.length=n:=⟨_,rfl⟩;obtain⟨rn,D⟩:∃n,J.length=n:=⟨_,rfl⟩;rw[B,D];clear B D;go_enter func101,ntmps101;go_wp2_with fail;generalize i:(World.alloc w _)=V;have A:ϣ w V:=by rw[<-i];exact ϯ
 have u:Δ V w 7 (vI I):=by subst i;go_simp
 have v:Δ V w 8 (vI m):=by subst i;go_simp
 clear i;refine(o.o _).mono ?_;rintro e a ⟨rfl,j⟩;have t:ϣ w a:=bT A j;have G:=cLz j u;have z:=cLz j v;clear u v j A o
 cases E with
 |false=>
  have c:Ϣ (false=R):=by show _=_;rw[<-d.o];rfl
  go_wp2;go_ret;exact⟨Aa c.o,t⟩
 |true=>
  go_wp2_with fail;refine(p.o _).mono ?_;rintro e w2 ⟨rfl,r⟩;have l:ϣ w w2:=bT t r;have S:=cLz r z;clear G z r t p
  cases F with
  |false=>
   have c:Ϣ (false=R):=by show _=_;rw[<-d.o];rfl
   go_wp2;go_ret;exact⟨Aa c.o,l⟩
  |true=>
   have c:Ϣ (R=bf.AA m 0 1099511627776):=by show _=_;rw[<-d.o];rfl
   by_cases g:0<=m
   ·by_cases h:m<=1099511627776
    ·have f:Ϣ (true=R):=by show _=_;rw[c.o];exact((bf.Bh _ _ _).2 ⟨g,h⟩).symm
     go_wp2;go_ret;exact⟨Aa f.o,l⟩
    ·have f:Ϣ (false=R):=by show _=_;rw[c.o];exact((bf.CH _ _ _).2 (λk=>h k.2)).symm
     go_wp2;go_ret;exact⟨Aa (by rw[decide_eq_false Ϥ];exact f.o),l⟩
   ·have f:Ϣ (false=R):=by show _=_;rw[c.o];exact((bf.CH _ _ _).2 (λk=>g k.1)).symm
    go_wp2;go_ret;exact⟨Aa f.o,l⟩
theorem Dc(p:pl.Pln)(x:pl.PA)(s:Jn)(y:JX)(w:Ϡ)(F:pl.wfPlan p)(E:pl.planAt w p x)(h:joinAt w s y)(q:wfJ s)(hl:(bf.Ab s.L).length<=100000)(hr:(bf.Ab s.R).length<=100000):
 χ 102 #[pl.Aj p x,joinV s y] w (ψ w (.bool (Cx p s))):=by
 have t:Ϣ (∀a,ϣ w a->CT 170 #[joinV s y] a (ψ a (.bool (J4 s)))):=λa g=>OY s y a (h.below g) (λz r=>(by
  rcases mem_append.1 r with k|k
  ·exact(q.l.ents z k).2.seq
  ·exact(q.r.ents z k).2.seq)) hl hr
 have m:=hIz (λ(a:Ϡ) (g:ϣ w a)=>J5 p x 1 s.L y.l a F (pl.Ae E g) (bf.Ar h.l g) (λz r=>(q.l.ents z r).1));have n:=hIz (λ(a:Ϡ) (g:ϣ w a)=>J5 p x 2 s.R y.r a F (pl.Ae E g) (bf.Ar h.r g) (λz r=>(q.r.ents z r).1));obtain⟨R,B⟩:=nM (Cx p s);have c:=hV0 B;rw[B];clear B F E h q hl hr;unfold Cx at c;obtain⟨S,X⟩:=nM (J4 s);obtain⟨B1,Y⟩:=nM (Io p 1 s.L);obtain⟨B2,Z⟩:=nM (Io p 2 s.R);rw[X]at t c;rw[Y]at m c;rw[Z]at n c;clear X Y Z;unfold pl.Aj at m n⊢;rw[AY]at t⊢;unfold bf.B5 bf.hdV at m n;go_enter func102,ntmps102;by_cases l:s.L.lim=p.limit
 rotate_left
 ·have ab:(s.L.lim==p.limit)=false:=by simpa using l
  have d:Ϣ (false=R):=by show _=_;rw[<-c.o,decide_eq_false l];rfl
  go_wp2;go_ret;exact⟨Aa d.o,ϯ.alloc Ϧ _⟩
 have ab:(s.L.lim==p.limit)=true:=by simpa using l
 by_cases o:s.R.lim=p.limit
 rotate_left
 ·have ac:(s.R.lim==p.limit)=false:=by simpa using o
  have d:Ϣ (false=R):=by show _=_;rw[<-c.o,decide_eq_false o,decide_eq_true l];rfl
  go_wp2;go_ret;exact⟨Aa d.o,ϯ.alloc Ϧ _⟩
 have ac:(s.R.lim==p.limit)=true:=by simpa using o
 rw[decide_eq_true l,decide_eq_true o]at c;clear l o;go_wp2_with fail;generalize u:(World.alloc (World.alloc w _) _)=V;have D:ϣ w V:=by rw[<-u];exact ϯ.alloc Ϧ _
 have j:Ϣ (boxP V w p x):=by
  subst u;exact Af (BQ ..) ϯ
 have i:Ϣ (BZ V (w+1) s y):=by
  subst u;have:=C7 (ϊ w (Φ p x) 32) s y 38;rw[World.size_alloc]at this;exact this
 clear u;refine(t.o _ D).mono ?_;rintro e a ⟨rfl,v⟩;have f:ϣ w a:=bT D v;replace j:Ϣ (boxP a w p x):=Af j.o v;replace i:Ϣ (BZ a (w+1) s y):=A4 i.o v;clear v D t
 cases S with
 |false=>
  have d:Ϣ (false=R):=by show _=_;rw[<-c.o];rfl
  go_wp2;go_ret;exact⟨Aa d.o,f⟩
 |true=>
  obtain⟨G,H,L,M,N,O,P,Q,T,U,I,J,K⟩:=j.o;obtain⟨u0,u1,u2,u3,u4,u5,u6,u7,u8⟩:=i.o;go_wp2_with fail;refine(m.o _ f).mono ?_;rintro e w2 ⟨rfl,A⟩;replace f:ϣ w w2:=bT f A;replace j:Ϣ (boxP w2 w p x):=Af j.o A;replace i:Ϣ (BZ w2 (w+1) s y):=A4 i.o A;clear G H L M N O P Q T U I J K u0 u1 u2 u3 u4 u5 u6 u7 u8 A m
  cases B1 with
  |false=>
   have d:Ϣ (false=R):=by show _=_;rw[<-c.o];rfl
   go_wp2;go_ret;exact⟨Aa d.o,f⟩
  |true=>
   obtain⟨G,H,L,M,N,O,P,Q,T,U,I,J,K⟩:=j.o;obtain⟨u0,u1,u2,u3,u4,u5,u6,u7,u8⟩:=i.o;go_wp2_with fail;refine(n.o _ f).mono ?_;rintro e w3 ⟨rfl,aa⟩;replace f:ϣ w w3:=bT f aa;have d:Ϣ (B2=R):=by show _=_;rw[<-c.o];rfl
   clear G H L M N O P Q T U I J K u0 u1 u2 u3 u4 u5 u6 u7 u8 aa n;go_wp2;go_ret;exact⟨Aa d.o,f⟩
theorem Bi(p:pl.Pln)(x:pl.PA)(s:Jn)(y:JX)(w:Ϡ)(L:pl.wfPlan p)(K:pl.planAt w p x)(h:joinAt w s y)(l:wfJ s):
 χ 50 #[pl.Aj p x,joinV s y] w (ψ w (vI (Ba p s))):=by
 have o:=hIz (λ(a:Ϡ) (j:ϣ w a)=>pl.Dd p x a L (pl.Ae K j));have n:=hIz (λ(a:Ϡ) (j:ϣ w a)=>bf.Bi s.L y.l a (bf.Ar h.l j) l.l.ents l.l.size);have q:=hIz (λ(a:Ϡ) (j:ϣ w a)=>bf.Bi s.R y.r a (bf.Ar h.r j) l.r.ents l.r.size);have m:=hIz (λ(a:Ϡ)=>FI s y a);have k:Ϣ (bf.DK s.L=0->bf.DK s.R=0->∀a,ϣ w a->CT 102 #[pl.Aj p x,joinV s y] a (ψ a (.bool (Cx p s)))):=λr t a j=>Dc p x s y a L (pl.Ae K j) (h.below j) l (by have:=(bf.Fx r).all;omega) (by have:=(bf.Fx t).all;omega);obtain⟨R,I⟩:=nM (Ba p s);have d:=hV0 I;rw[I];clear I L K h l;unfold Ba at d;obtain⟨D,r⟩:=nM (pl.Ag p);obtain⟨E,t⟩:=nM (bf.DK s.L);obtain⟨H,Q⟩:=nM (bf.DK s.R);obtain⟨G,S⟩:=nM (Et s);obtain⟨F,T⟩:=nM (Cx p s);rw[r]at o d;rw[t]at n k d;rw[Q]at q k d;rw[S]at m d;rw[T]at k d;clear r t Q S T;unfold pl.Aj at o k⊢;rw[AY]at m k⊢;unfold bf.B5 bf.hdV at n q;go_enter func50,ntmps50;go_wp2_with fail;generalize u:(World.alloc (World.alloc w _) _)=V;have J:ϣ w V:=by rw[<-u];exact ϯ.alloc Ϧ _
 have i:Ϣ (boxP V w p x):=by
  subst u;exact Af (BQ ..) ϯ
 have f:Ϣ (BZ V (w+1) s y):=by
  subst u;have:=C7 (ϊ w (Φ p x) 32) s y 38;rw[World.size_alloc]at this;exact this
 clear u;refine(o.o _ J).mono ?_;rintro e a ⟨rfl,v⟩;have c:ϣ w a:=bT J v;replace i:Ϣ (boxP a w p x):=Af i.o v;replace f:Ϣ (BZ a (w+1) s y):=A4 f.o v;clear v J o;by_cases M:D=0
 rotate_left
 ·have ac:(D !=0)=true:=by simpa using M
  have g:Ϣ (D=R):=by show _=_;rw[<-d.o,if_pos M]
  go_wp2;go_ret;exact⟨Ad g.o,c⟩
 subst M;rw[if_neg ϥ]at d;obtain⟨u0,u1,u2,u3,u4,u5,u6,u7,u8⟩:=f.o;go_wp2_with fail;refine(n.o _ c).mono ?_;rintro e w2 ⟨rfl,z⟩;replace c:ϣ w w2:=bT c z;replace i:Ϣ (boxP w2 w p x):=Af i.o z;replace f:Ϣ (BZ w2 (w+1) s y):=A4 f.o z;clear u0 u1 u2 u3 u4 u5 u6 u7 u8 z n;by_cases N:E=0
 rotate_left
 ·have ad:(E !=0)=true:=by simpa using N
  have g:Ϣ (E=R):=by show _=_;rw[<-d.o,if_pos N]
  go_wp2;go_ret;exact⟨Ad g.o,c⟩
 subst N;rw[if_neg ϥ]at d;obtain⟨u0,u1,u2,u3,u4,u5,u6,u7,u8⟩:=f.o;go_wp2_with fail;refine(q.o _ c).mono ?_;rintro e P ⟨rfl,A⟩;replace c:ϣ w P:=bT c A;replace i:Ϣ (boxP P w p x):=Af i.o A;replace f:Ϣ (BZ P (w+1) s y):=A4 f.o A;clear u0 u1 u2 u3 u4 u5 u6 u7 u8 A q;by_cases O:H=0
 rotate_left
 ·have ae:(H !=0)=true:=by simpa using O
  have g:Ϣ (H=R):=by show _=_;rw[<-d.o,if_pos O]
  go_wp2;go_ret;exact⟨Ad g.o,c⟩
 subst O;rw[if_neg ϥ]at d;obtain⟨u0,u1,u2,u3,u4,u5,u6,u7,u8⟩:=f.o;go_wp2_with fail;refine(m.o _).mono ?_;rintro e w4 ⟨rfl,B⟩;replace c:ϣ w w4:=bT c B;replace i:Ϣ (boxP w4 w p x):=Af i.o B;replace f:Ϣ (BZ w4 (w+1) s y):=A4 f.o B;clear u0 u1 u2 u3 u4 u5 u6 u7 u8 B m
 cases G with
 |false=>
  have g:Ϣ ((3:Int)=R):=by show _=_;rw[<-d.o,if_pos rfl]
  go_wp2;go_ret;exact⟨Ad g.o,c⟩
 |true=>
  rw[if_neg ϥ]at d;obtain⟨X,Y,v2,v3,v4,v5,v6,v7,v8,v9,Z,aa,ab⟩:=i.o;obtain⟨u0,u1,u2,u3,u4,u5,u6,u7,u8⟩:=f.o;go_wp2_with fail;refine(k.o Ϭ Ϭ _ c).mono ?_;rintro e w5 ⟨rfl,U⟩;replace c:ϣ w w5:=bT c U;clear X Y v2 v3 v4 v5 v6 v7 v8 v9 Z aa ab u0 u1 u2 u3 u4 u5 u6 u7 u8 U k
  cases F with
  |false=>
   have g:Ϣ ((1:Int)=R):=by show _=_;rw[<-d.o,if_pos rfl]
   go_wp2;go_ret;exact⟨Ad g.o,c⟩
  |true=>
   have g:Ϣ ((0:Int)=R):=by show _=_;rw[<-d.o,if_neg ϥ]
   go_wp2;go_ret;exact⟨Ad g.o,c⟩
end jn
end Go.Proofs.YtfkihidbnfkbaaaGreatDoor
