import Derived.Test.YtfkihidbnfkbaaaGreatDoorPv34
set_option linter.all false
set_option maxHeartbeats 8000000
set_option maxRecDepth 100000
open Go.ChangeShapes Go.WideShapes Go.ChangeAt Go.RowKit List
namespace Go.Proofs.YtfkihidbnfkbaaaGreatDoor
open Go.Proofs.Tryz
namespace jn
open vl bf
attribute [local go_sem] Oper.semAt_some
variable {w w' wr : Ϡ} {e : Eng} {y y0 : EX} {t : TypeId} {B R : Nat}
theorem O9{b:Nat}(h:Co w b e y)(d:w'.heap[b]? =w.heap[b]?):Co w' b e y:=by
 have c:∀{i:Nat} {v:Value},Δ w b i v->Δ w' b i v:=λ{i v} f=>(cOb (w:=w) (a:=⟨b,i,none⟩) d).trans f;obtain⟨u0,u1,u2,u3,u4,u5,u6,u7,u8,u9,u10⟩:=h;exact⟨c u0,c u1,c u2,c u3,c u4,c u5,c u6,c u7,c u8,c u9,c u10⟩
theorem IU{N:Nat}:∀(l:List Value) (o:Nat) (w:Ϡ),Ah w N 42->Oh 42 w (w.setCells N o l)
 |[],_,w,_=>⟨bR,λ_ _ _ _=>rfl⟩
 |u::l,o,w,h=>by
  have k:=IU l (o+1) (ό w N o u) (Ao h _ _);have c:∀g e,Ah w g e->e≠42->(w.setCell ⟨N,o,none⟩ u).heap[g]? =w.heap[g]? :=λg e b a=>heap_setCell_other _ _ _ _ (tyAt_apart b h a);exact⟨((Below.refl 0 w).setCell (Nat.zero_le _) u).trans k.1,λg e b a=>(k.2 g e (Aq b (c g e b a)) a).trans (c g e b a)⟩
def eAt(e0:Eng)(y0:EX)(w wr:World)(e:Eng)(y:EX):Prop:=ϣ w wr/\(((e=e0/\y=y0)/\enAt w e y)\/(OB wr w.heap.size y.y.l e.j.L/\OB wr w.heap.size y.y.r e.j.R/\ch.VO wr w.heap.size (vS y.va e.v.length y.vc) e.v))
theorem eAt.at{e0:Eng}(h:eAt e0 y0 w wr e y):enAt wr e y:=by
 rcases h.2 with a|a
 ·exact a.2.below h.1
 ·exact⟨⟨a.1.at,a.2.1.at⟩,a.2.2.at⟩
theorem eAt.below{e0:Eng}(h:eAt e0 y0 w wr e y)(a:ϣ wr w'):eAt e0 y0 w w' e y:=⟨h.1.trans (a.mono h.1.size),h.2.imp id (λk=>⟨k.1.below a,k.2.1.below a,k.2.2.below a⟩)⟩
theorem eAt.keep{e0:Eng}(h:eAt e0 y0 w wr e y)(a:Oh t wr w')(j:ϣ w w')(h1:t≠166)(c:t≠119)(f:t≠33)(i:t≠83):eAt e0 y0 w w' e y:=by
 have d:∀{Z:BX} {B:Buf},OB wr w Z B->OB w' w Z B:=λk=>OB.other k a.1.size (λg b=>b.elim (λq=>a.2 g _ q h1.symm) (λq=>a.2 g _ q c.symm)) (λg q=>a.2 g _ q f.symm);exact⟨j,h.2.imp id (λk=>⟨d k.1,d k.2.1,k.2.2.other (λg b=>b.elim (λq=>a.2 g _ q i.symm) (λq=>a.2 g _ q c.symm))⟩)⟩
structure PCoE(e0:Eng)(y0:EX)(w wr:World)(R B:Nat)(e:Eng)(y:EX):Prop where
 box:Co wr B e y
 nb:Fh wr B
 tb:Ah wr B 42
 nr:Fh wr R
 tr:Ah wr R 42
 j:eAt e0 y0 w wr e y
theorem PCoE.below{e0:Eng}(h:PCoE e0 y0 w wr R B e y)(a:ϣ wr w'):PCoE e0 y0 w w' R B e y:=
 ⟨Bg h.box a,BC h.nb a,Ak h.tb a,BC h.nr a,Ak h.tr a,h.j.below a⟩
theorem PCoE.keep{e0:Eng}(h:PCoE e0 y0 w wr R B e y)(a:Oh t wr w')(f:ϣ w w')(h0:t≠42)(h1:t≠166)(b:t≠119)(c:t≠33)(d:t≠83):PCoE e0 y0 w w' R B e y:=
 ⟨O9 h.box (a.2 B _ h.tb h0.symm),Fl h.nb (a.2 B _ h.tb h0.symm),Aq h.tb (a.2 B _ h.tb h0.symm),Fl h.nr (a.2 R _ h.tr h0.symm),Aq h.tr (a.2 R _ h.tr h0.symm),h.j.keep a f h1 b c d⟩
theorem PCoE.put{e0:Eng}{a:Eng}{b:EX}(h:PCoE e0 y0 w wr R B e y)(d:w.heap.size<=B)(f:OB wr w b.y.l a.j.L)(g:OB wr w b.y.r a.j.R)(i:ch.VO wr w.heap.size (vS b.va a.v.length b.vc) a.v):
 PCoE e0 y0 w (wr.setCells B 0 (μ a b)) R B a b:=by
 refine⟨?_,World.there_setCells h.nb _ _ _,F3 _ _ _ h.tb,World.there_setCells h.nr _ _ _,F3 _ _ _ h.tr,below_setCells d _ 0 _ h.j.1,.inr ⟨BI DJ _ _ _ f h.tb,BI DJ _ _ _ g h.tb,Gk _ _ _ i h.tb⟩⟩;have c:=Fa h.nb (l:=(μ a b)) rfl;obtain⟨j,k,n,o,q,r,s,u,v,x,m⟩:=OZ c;exact⟨j,k,n,o,q,r,s,u,v,x,m⟩
theorem Z0(w:Ϡ)(e:Eng)(y:EX):Fh (ϊ w (ξ e y) 42) w.heap.size:=by
 intro j a
 match j,a with
 |0,_=>exact⟨Ϩ,Ϩ⟩
 |1,_=>exact⟨Ϩ,Ϩ⟩
 |2,_=>exact⟨Ϩ,Ϩ⟩
 |3,_=>exact⟨Ϩ,Ϩ⟩
 |4,_=>exact⟨Ϩ,Ϩ⟩
 |5,_=>exact⟨Ϩ,Ϩ⟩
 |6,_=>exact⟨Ϩ,Ϩ⟩
 |7,_=>exact⟨Ϩ,Ϩ⟩
 |8,_=>exact⟨Ϩ,Ϩ⟩
 |9,_=>exact⟨Ϩ,Ϩ⟩
 |10,_=>exact⟨Ϩ,Ϩ⟩
theorem Z1{p:pl.Pln}{v:Ev}{r:Int×Eng×List ch.Chg}(h:F4 p e v r):r.2.2.length<=10000:=by
 rcases h.2 with⟨_,rfl⟩|⟨_,_,_,_,out,_,_,rfl⟩
 ·exact Nat.zero_le _
 ·exact T9 p e.j v
structure playsTo(p:pl.Pln)(l:List Ev)(E:Nat->Eng)(R:Nat->Int×Eng×List ch.Chg):Prop where
 wf:∀k,k<=l.length->wfEn (E k)
 step:∀k,k<l.length->F4 p (E k) (l.getD k default) (R k)
 next:∀k,k<l.length->E (k+1)=if (R k).1≠0 then E k else(R k).2.1
theorem Wp(p:pl.Pln)(x:pl.PA)(e0:Eng)(y0:EX)(l:List Ev)(xs:List RX)(la:ϡ)(lc J:Nat)(E:Nat->Eng)(R:Nat->Int×Eng×List ch.Chg)(w:Ϡ)(hw:pl.wfPlan p)(hp:pl.planAt w p x)(D:p.grouped=false/\p.kind=1)(ai:boxP w J p x)(h:enAt w e0 y0)(hE:E 0=e0)(a5:playsTo p l E R)(Q:Lf w la l xs)(hn:l.length<=120):
 χ 46 #[enV e0 y0,vS la l.length lc,.func (.func 47) #[] #[ω J]] w λe w'=>(∃j t nv,e= .returned (.tuple #[enV (E l.length) j,t,nv,Ϗ])/\eAt e0 y0 w w' (E l.length) j)/\ϣ w w':=by
 have af:Ϣ (pl.wfPlan p/\(∀a,ϣ w a->pl.planAt a p x/\boxP a J p x)):=⟨hw,λa O=>⟨pl.Ae hp O,Af ai O⟩⟩;have bc:=hV0 h;have bb:=hV0 Q;have HP:=hV0 a5;have HE:=hV0 hE;have HG:=hV0 D;obtain⟨n,ao⟩:=nM l.length;have U:=hV0 ao;have bu:=MO ai;rw[ao]at hn⊢;obtain⟨u,ah⟩:=nM (E n);have bd:=hV0 ah;rw[ah];clear hw hp ai h hE a5 Q ao D ah;rw[D5 e0 y0];go_enter func46,ntmps46;have D:∀t,binOp .gtr t (vI (n:Int)) (vI 120)=pure (.bool false):=pl.Ex false ϩ;go_upto_region 7 with fail;generalize hV:(World.alloc (World.alloc (World.alloc w _) _) _)=V;have bg:ϣ w V:=by rw[<-hV];exact(ϯ.alloc Ϧ _).alloc ϫ _
 have ad:Ϣ (PCoE e0 y0 w V (w.heap.size+1) (w.heap.size+1+1) e0 y0):=by
  subst hV;have e1:=World.size_alloc w (.cells (ξ e0 y0) 42);have e2:=World.size_alloc (ϊ w (ξ e0 y0) 42) (.cells #[Ϗ,ώ,ώ,Ϗ,ώ,ώ,Ϗ,Ϗ,Ϗ,ώ,ώ] 42);rw[e1]at e2;have h1:=Gq (ϊ w (ξ e0 y0) 42);have h2:=World.alloc_heap_new (ϊ w (ξ e0 y0) 42) (.cells #[Ϗ,ώ,ώ,Ϗ,ώ,ώ,Ϗ,Ϗ,Ϗ,ώ,ώ] 42);have h3:=Z0 (ϊ (ϊ w (ξ e0 y0) 42) #[Ϗ,ώ,ώ,Ϗ,ώ,ώ,Ϗ,Ϗ,Ϗ,ώ,ώ] 42) e0 y0;have h4:=World.alloc_heap_new (ϊ (ϊ w (ξ e0 y0) 42) #[Ϗ,ώ,ώ,Ϗ,ώ,ώ,Ϗ,Ϗ,Ϗ,ώ,ώ] 42) (.cells (ξ e0 y0) 42);have h5:=DG (ϊ (ϊ w (ξ e0 y0) 42) #[Ϗ,ώ,ώ,Ϗ,ώ,ώ,Ϗ,Ϗ,Ϗ,ώ,ώ] 42) e0 y0 42;rw[e1]at h1 h2;rw[e2]at h3 h4 h5;exact⟨h5,h3,⟨_,_,h4⟩,BC h1 ϯ,Ak ⟨_,_,h2⟩ ϯ,bg,.inl ⟨⟨rfl,rfl⟩,bc.o⟩⟩
 clear hV;go_wp2_with fail
 go_loopw [12,13,26] (λtv nv i wr=> ∃(k:Nat) (j:EX) (L:List CO) (N:List Int),k<=n/\i=vI k/\PCoE e0 y0 w wr (w.heap.size+1) (w.heap.size+1+1) (E k) j/\TG wr w tv L/\L.length<=10000 * k/\pl.Cm wr w nv N/\N.length<=k) (λ_ _ i _=>n - (intOf i).toNat)
 case atStart=>exact⟨0,y0,[],[],Nat.zero_le _,rfl,by rw[HE.o];exact ad.o,Afs _ _,Nat.zero_le _,World.ownsRow_nil _ _ _ _,Nat.zero_le _⟩
 case round=>
  obtain⟨k,y,L,N,bj,rfl,m,ar,ak,am,an⟩:=hrel;by_cases al:k<n
  ·obtain⟨b,bv,e,F,G,H,A,ab⟩:=bb.o k (by rw[U.o];exact al);have C:Ϣ (E (k+1)=_):=HP.o.next k (by rw[U.o];exact al);have Y:Ϣ (F4 p (E k) (l.getD k default) (R k)):=HP.o.step k (by rw[U.o];exact al);have a9:wfEn (E k):=HP.o.wf k (by rw[U.o];exact bj);obtain⟨v,Q⟩:=nM (l.getD k default);obtain⟨ra,a6⟩:=nM ((xs.getD k (none,0)).1);obtain⟨rc,a7⟩:=nM ((xs.getD k (none,0)).2);rw[Q]at F G H A ab Y;rw[a6]at A ab;rw[a7]at A;have aa:ϣ w wr:=m.j.1;have z:Ϣ (∀a,ϣ wr a->CT 47 #[enV (E k) y,evV v ra rc,ω J] a λe w'=>(∃j t L,e= .returned (.tuple #[enV (R k).2.1 j,t,vI (R k).1])/\L.map CO.chg=(R k).2.2/\stepEAt a w' (R k).2.1 j t L)/\ϣ a w'):=λa O=>by
    have P:=bT aa O;exact Vq p x (E k) y v ra rc J (R k) a af.o.1 (af.o.2 a P).1 HG.o (af.o.2 a P).2 (m.j.below O).at a9 (ab.below P) Y.o
   have ae:Ϣ ((R k).2.2.length<=10000):=Z1 Y.o;obtain⟨ST,az⟩:=nM (R k);rw[az]at z ae C;obtain⟨S,hS⟩:=nM (E k);rw[hS]at z C m;obtain⟨SE,s,SC⟩:=ST;dsimp only at z ae C;subst e;have zz:=lk4 aa F G H A;clear F G H A;obtain⟨F,G,H,A⟩:=zz;clear az hS ab a9 a6 a7 Q Y;rw[D5]at z;unfold evV at z;obtain⟨kd,aj⟩:=nM v.kind;obtain⟨sd,aq⟩:=nM v.side;obtain⟨bw,au⟩:=nM v.time;obtain⟨rl,ap⟩:=nM v.row.length;rw[aj,aq,au,ap]at z;rw[aj]at F;rw[aq]at G;rw[au]at H;rw[ap]at A;clear aj aq au ap;have d:=hV0 m;have q:Ϣ (TG wr w u12 L/\L.length<=10000 * k):=⟨ar,ak⟩;have o:Ϣ (pl.Cm wr w u13 N/\N.length<=k):=⟨am,an⟩;have i1:=nn0 k;have i2:(k:Int)<(n:Int):=Ϥ;obtain⟨u0,u1,u2,u3,u4,u5,u6,u7,u8,u9,u10⟩:=m.box;have lB:(w.heap.size+1+1)<wr.heap.size:=Un m.box;clear m ar ak am an ad;go_wp2_with fail;refine(z.o _ ϯ).mono ?_;rintro e a ⟨⟨j,t,M,rfl,hM,a8⟩,a0⟩;have Z:ϣ wr a:=((Below.refl wr.heap.size wr).alloc nR _).trans (a0.mono Ϧ);have bq:ϣ w a:=bT aa Z;replace d:Ϣ (PCoE e0 y0 w a (w.heap.size+1) (w.heap.size+1+1) S y):=d.o.below Z;replace q:Ϣ (TG a w u12 L/\L.length<=10000 * k):=⟨q.o.1.below Z,q.o.2⟩;replace o:Ϣ (pl.Cm a w u13 N/\N.length<=k):=⟨own_below o.o.1 Z,o.o.2⟩;have HM:=hV0 hM;have X:Ϣ (stepEAt w a s j t M):=Li (w0':=w) a8 (by have:=aa.size;simp;omega);have bs:(w.heap.size+1+1)<a.heap.size:=Un d.o.box;clear u0 u1 u2 u3 u4 u5 u6 u7 u8 u9 u10 F G H A hM a8 a0 lB z;rw[D5];by_cases h0:SE=0
   ·subst h0;rw[if_neg ϥ]at C;go_upto_region 13 with fail;generalize I:(World.alloc a _)=c;have r:ϣ a c:=by rw[<-I];exact ϯ
    have ba:Ϣ (Co c a.heap.size s j):=by
     subst I;exact DG ..
    clear I;replace d:Ϣ (PCoE e0 y0 w c (w.heap.size+1) (w.heap.size+1+1) S y):=d.o.below r;replace q:Ϣ (TG c w u12 L/\L.length<=10000 * k):=⟨q.o.1.below r,q.o.2⟩;replace o:Ϣ (pl.Cm c w u13 N/\N.length<=k):=⟨own_below o.o.1 r,o.o.2⟩;have ax:Ϣ (CG (World.setCells c (w.heap.size+1+1) 0 (μ s j)) w.heap.size t M):=Oi _ _ _ (X.o.cg.below r) d.o.tb;have T:Ϣ (PCoE e0 y0 w (World.setCells c (w.heap.size+1+1) 0 (μ s j)) (w.heap.size+1) (w.heap.size+1+1) s j):=d.o.put Ϥ (X.o.l.below r) (X.o.r.below r) (X.o.v.below r);have ag:Ϣ (TG (World.setCells c (w.heap.size+1+1) 0 (μ s j)) w.heap.size u12 L/\L.length<=10000 * k):=⟨q.o.1.keep (IU _ _ _ d.o.tb) ϥ ϥ,q.o.2⟩;have W:Ϣ (pl.Cm (World.setCells c (w.heap.size+1+1) 0 (μ s j)) w.heap.size u13 N/\N.length<=k):=⟨A1 o.o.1 (λg D=>(IU _ _ _ d.o.tb).2 g _ (A9 o.o.1 D) ϥ),o.o.2⟩;obtain⟨u0,u1,u2,u3,u4,u5,u6,u7,u8,u9,u10⟩:=ba.o;go_upto_region 14 with((with_reducible refine wpList_store_mid ?_ 42 (.tmp 11) (.tmp 45) ?_ (w.heap.size+1+1) 0 (ξ s j) ?_ ?_ ?_ ?_ ?_ ?_);exact rfl;exact rfl;exact rfl;exact rfl;exact d.o.nb;exact Ha;exact ϭ);generalize (World.setCells c (w.heap.size+1+1) 0 (μ s j))=w3 at ax T ag W⊢;clear u0 u1 u2 u3 u4 u5 u6 u7 u8 u9 u10;have bo:M.length<=10000:=by rw[<-lMp (f:=CO.chg),HM.o];exact ae.o
    have be:=ag.o.2;have ac:=T.o.j.1.size;go_wp2_with (at_builtin;refine TE rfl (.tmp 46) (.tmp 47) rfl w.heap.size w.heap.size u12 t L M w3 rfl rfl ag.o.1 ax.o Ϥ ac ?_;intro v2 w4 bm a4 bh);go_roundw;exact⟨k+1,j,L++M,N,Ϥ,by go_num,by rw[C.o];exact T.o.keep a4 (T.o.j.1.trans bh) ϥ ϥ ϥ ϥ ϥ,bm,by rw[lAp];omega,A1 W.o.1 (λg D=>a4.2 g _ (A9 W.o.1 D) ϥ),by have:=W.o.2;omega⟩;simp[intOf];omega
   ·have br:(SE !=0)=true:=by simpa using h0
    rw[if_pos h0]at C;go_upto_region 12 with fail;generalize I:(World.alloc a _)=c;have r:ϣ a c:=by rw[<-I];exact ϯ
    clear I;replace d:Ϣ (PCoE e0 y0 w c (w.heap.size+1) (w.heap.size+1+1) S y):=d.o.below r;replace q:Ϣ (TG c w u12 L/\L.length<=10000 * k):=⟨q.o.1.below r,q.o.2⟩;replace o:Ϣ (pl.Cm c w u13 N/\N.length<=k):=⟨own_below o.o.1 r,o.o.2⟩;have ac:=d.o.j.1.size;have bp:=o.o.2;have be:=q.o.2;go_wp2_with (at_builtin;refine pl.Fw rfl (.tmp 41) (.tmp 43) rfl w.heap.size u13 N rfl c o.o.1 (k:Int) c.heap.size rfl rfl Ϥ ac ?_;intro v2 w3 bk a2);have bi:=pl.D8 d.o.j.1 ac o.o.1 a2;have a3:=LW (World.ownsRow.alloc o.o.1 _) a2;have a1:ϣ c (ϊ c #[vI (k:Int)] 3):=ϯ;go_roundw;exact⟨k+1,y,L,N++[(k:Int)],Ϥ,by go_num,by rw[C.o];exact(d.o.below a1).keep a3 bi ϥ ϥ ϥ ϥ ϥ,(q.o.1.below a1).keep a3 ϥ ϥ,Ϥ,bk,by rw[lAp,length_singleton];omega⟩;simp[intOf];omega
  ·have hk:k=n:=Ϥ;subst hk;have i2:¬((k:Int)<(k:Int)):=Ϥ;rw[bd.o]at m;have d:=hV0 m;have aw:Ϣ (ϣ w (World.setCells wr (w.heap.size+1) 0 (μ u y))):=below_setCells Ϥ _ 0 _ m.j.1;have ay:Ϣ (eAt e0 y0 w (World.setCells wr (w.heap.size+1) 0 (μ u y)) u y):=⟨aw.o,m.j.2.imp id (λk=>⟨BI DJ _ _ _ k.1 m.tr,BI DJ _ _ _ k.2.1 m.tr,Gk _ _ _ k.2.2 m.tr⟩)⟩;have P:=m.j.1;obtain⟨u0,u1,u2,u3,u4,u5,u6,u7,u8,u9,u10⟩:=m.box;clear m ar ak am an ad aw;have HR:Ϣ ((World.setCells wr (w.heap.size+1) 0 (μ u y)).rangeAt (w.heap.size+1) 0 (μ u y)):=Fa d.o.nr rfl;have av:Ϣ (ϣ w (World.setCells wr (w.heap.size+1) 0 (μ u y))):=below_setCells Ϥ _ 0 _ P;go_wp2_with ((with_reducible refine wpList_store_mid ?_ 42 (.tmp 6) (.tmp 50) ?_ (w.heap.size+1) 0 (ξ u y) ?_ ?_ ?_ ?_ ?_ ?_);exact rfl;exact rfl;exact rfl;exact rfl;exact d.o.nr;exact Ha;exact ϭ);generalize (World.setCells wr (w.heap.size+1) 0 (μ u y))=W' at HR av ay⊢;obtain⟨z0,z1,z2,z3,z4,z5,z6,z7,z8,z9,bn⟩:=OZ HR.o;exact bodyPost_ret (v:=.tuple #[.agg (ξ u y),u12,u13,Ϗ]) (by simp[results,results46,go_sem,z0,z1,z2,z3,z4,z5,z6,z7,z8,z9,bn]) rfl ⟨⟨y,⟨u12,u13,rfl⟩,ay.o⟩,av.o⟩
end jn
namespace jn
open vl bf
variable {p : pl.Pln} {e : Eng} {K : ByteArray}
def vw1:List ch.Cnt:=[⟨rw2 7 1++bt.D3 2,1⟩]
def vw2:List ch.Cnt:=[⟨rw2 7 1++rw2 7 2,1⟩]
def vw3:List ch.Cnt:=[⟨rw2 7 1++rw2 7 2,1⟩,⟨rw2 7 4++rw2 7 2,1⟩]
theorem RD{a b:Int}(ha: -9223372036854775808<=a/\a<=9223372036854775807)(c: -9223372036854775808<=b/\b<=9223372036854775807){r:List Cel}(d:Bq r):Bq (rw2 a b++r):=Afd (Ej ha c) d
theorem Aci:Bq ch1.r:=RD ϥ ϥ (Ad0 2)
theorem Xu:Bq ch3.r:=RD ϥ ϥ (Ej ϥ ϥ)
theorem Acj:Bq ch4.r:=RD ϥ ϥ (Ej ϥ ϥ)
theorem AeF:ch.Cc vw1:=by
 intro c a;rw[mem_singleton.1 a];exact⟨Aci,ϥ,ϥ⟩
theorem Xv:ch.Cc vw2:=by
 intro c a;rw[mem_singleton.1 a];exact⟨Xu,ϥ,ϥ⟩
theorem Ack:ch.Cc vw3:=by
 intro c a;rcases mem_cons.1 a with rfl|a
 ·exact⟨Xu,ϥ,ϥ⟩
 ·rw[mem_singleton.1 a];exact⟨Acj,ϥ,ϥ⟩
theorem AfZ:∀c∈vw1,rowOk c.r:=ch.Hd AeF (by decide+kernel)
theorem AeG:∀c∈vw2,rowOk c.r:=ch.Hd Xv (by decide+kernel)
theorem AeH:∀c∈vw3,rowOk c.r:=ch.Hd Ack (by decide+kernel)
theorem wfs1:ch.Gg [ch1]:=by
 intro c a;rw[mem_singleton.1 a];exact⟨Aci,ϥ,ϥ⟩
theorem wfs2:ch.Gg [ch2,ch3]:=by
 intro c a;rcases mem_cons.1 a with rfl|a
 ·exact⟨Aci,ϥ,ϥ⟩
 ·rw[mem_singleton.1 a];exact⟨Xu,ϥ,ϥ⟩
theorem wfs4:ch.Gg [ch4]:=by
 intro c a;rw[mem_singleton.1 a];exact⟨Acj,ϥ,ϥ⟩
theorem OA(b:pl.Ag p=0)(h:goodJ p e.j)(h1:ch.Az e.v=0)(a:bt.Eh (pl.Ce p) e.v=0):DY p e=0:=by
 unfold DY;rw[h.ok.none b,if_neg (λk=>k rfl),h1,if_neg (λk=>k rfl),a]
abbrev sP:=pl.Gx
def sK:ByteArray:=pl.A6 pl.Gx 1 (rw2 7 1)
theorem sB:begP sP sK:=Vr
def En0:Eng:=⟨Dg sP,[]⟩
def En1:Eng:=⟨St1 sK,vw1⟩
def En2:Eng:=⟨St2 sK,vw2⟩
def En3:Eng:=⟨St3 sK,vw2⟩
theorem en0:DY sP En0=0:=OA pl.Dy (good_start pl.Dy) ϧ ϧ
theorem en1:DY sP En1=0:=OA pl.Dy (Xi sB) ϧ ϧ
theorem en2:DY sP En2=0:=OA pl.Dy (Xj sB) ϧ ϧ
theorem en3:DY sP En3=0:=OA pl.Dy (Om sB) ϧ ϧ
theorem RF{a:ch.KV}{l:List ch.Chg}(n:Nat)(h:(List.range n).all (λi=>ch.Kv a l i==0)=true):∀i,i<n->ch.Kv a l i=0:=λi b=>by
 have:=all_eq_true.1 h i (mem_range.2 b);simpa using this
theorem st1:F4 sP En0 ev1 (0,En1,[ch1]):=by
 refine⟨en0,.inr ?_⟩;show _/\_;rw[show stepJ sP En0.j ev1=_ from Aft sB];exact⟨rfl,ϧ,wfs1,RF 1 ϧ,vw1,ϧ,AfZ,rfl⟩
theorem st2:F4 sP En1 ev2 (0,En2,[ch2,ch3]):=by
 refine⟨en1,.inr ?_⟩;show _/\_;rw[show stepJ sP En1.j ev2=_ from Afu sB];exact⟨rfl,ϧ,wfs2,RF 2 ϧ,vw2,ϧ,AeG,rfl⟩
theorem st3:F4 sP En2 ev3 (0,En3,[]):=by
 refine⟨en2,.inr ?_⟩;show _/\_;rw[show stepJ sP En2.j ev3=_ from Afv sB];exact⟨rfl,ϧ,λc a=>absurd a not_mem_nil,λi b=>absurd b (Nat.not_lt_zero i),vw2,ϧ,AeG,rfl⟩
theorem st4:F4 sP En3 ev4 (7,e0,[]):=by
 refine⟨en3,.inl ?_⟩;rw[show stepJ sP En3.j ev4=_ from beg4 sB];exact⟨ϥ,rfl⟩
def Lm(K:ByteArray):Ent:=⟨K,1,0,rw2 7 1,true⟩
def Lm2(K:ByteArray):Ent:=⟨K,5,2,rw2 7 4,true⟩
def Rm(K:ByteArray):Ent:=⟨K,2,1,rw2 7 2,true⟩
def St5(K:ByteArray):Jn:=⟨Ds ⟨2,[Lm K],[]⟩ (Lm2 K),⟨2,[Rm K],[]⟩,4,noMark,3⟩
theorem IV(K:ByteArray):(Ds ⟨2,[Lm K],[]⟩ (Lm2 K)).lim=2/\(Ds ⟨2,[Lm K],[]⟩ (Lm2 K)).runs=[]/\(Ds ⟨2,[Lm K],[]⟩ (Lm2 K)).mem.Perm [Lm K,Lm2 K]:=by
 have a:=Dh ([Lm K]++[Lm2 K]);have b:=a.length_eq;unfold Ds Is;rw[show(Dw ((⟨2,[Lm K],[]⟩:Buf).mem++[Lm2 K])).length=2 from b];exact⟨rfl,rfl,a⟩
theorem AeI(h:begP p K):stepJ p (St3 K) ev5=(0,St5 K,[ch4]):=by
 rw[F0 h.err (Om h)];have e:AP p (St3 K) ev5=0:=by
  simp[AP,ev5,pl.B8,tm.Bt,h.e4,BN,noMark,Av,Ab,partsB,St3]
 have a:partners p (St3 K) ev5=[⟨K,2,1,rw2 7 2,true⟩]:=by
  simp[partners,ev5,h.h4,FN,Av,Ab,partsB,Lj,St3,h.k4,GN,toJ,h.kind,h.low,h.high]
 have c:Dj p (St3 K) ev5=⟨⟨2,[Lm K],[]⟩,⟨2,[Rm K],[]⟩,4,noMark,2⟩:=by
  unfold Dj;rw[a];rfl
 have b:(Iv p (St3 K) ev5).2=[ch4]:=by
  simp only[Iv,h.kind,DZ,a];simp[ev5,Ek,h.mode,DV,ch4]
 rw[Ll h.kind]at b;rw[if_neg (by rw[e];exact λk=>k rfl),if_neg ϥ,Ll h.kind,c,a,Oj _ h.h4 (by rw[Ih rfl];decide)];dsimp only at b;rw[b];show(0,(⟨(AU _ 1 (Ds _ ⟨pl.A6 p 1 (rw2 7 4),5,2,rw2 7 4,true⟩)).L,_,_,_,_⟩:Jn),[ch4])=_;rw[h.k4];rfl
theorem Acl(h:begP p K):goodJ p (St5 K):=by
 obtain⟨s,e,_,_,_,a⟩:=beg5 h;rw[AeI h]at e;injection e with _ e
 injection e with e _
 rw[e];exact a
theorem st5:F4 sP En3 ev5 (0,⟨St5 sK,vw3⟩,[ch4])/\DY sP ⟨St5 sK,vw3⟩=0:=by
 refine⟨⟨en3,.inr ?_⟩,OA pl.Dy (Acl sB) ϧ ϧ⟩;show _/\_;rw[show stepJ sP En3.j ev5=_ from AeI sB];exact⟨rfl,ϧ,wfs4,RF 1 ϧ,vw3,ϧ,AeH,rfl⟩
theorem OD(h:goodJ sP e.j)(b:ch.Cc e.v)(a:e.v.length<=ύ):wfEn e:=⟨AdZ h,b,a⟩
def En5:Eng:=⟨St5 sK,vw3⟩
theorem Acm:∃(E:Nat->Eng) (R:Nat->Int×Eng×List ch.Chg),playsTo sP JP E R/\E 0=⟨Dg sP,[]⟩/\E 5=En5:=by
 obtain⟨b,g⟩:=st5;have f:=Acl (p:=sP) sB;refine⟨fun|0=>En0|1=>En1|2=>En2|3=>En3|4=>En3|_=>En5,fun|0=>(0,En1,[ch1])|1=>(0,En2,[ch2,ch3])|2=>(0,En3,[])|3=>(7,e0,[])|_=>(0,En5,[ch4]),⟨?_,?_,?_⟩,rfl,rfl⟩
 ·intro k a
  match k,a with
  |0,_=>exact show wfEn En0 from OD (good_start pl.Dy) (λc d=>absurd d not_mem_nil) ϥ
  |1,_=>exact show wfEn En1 from OD (Xi sB) AeF ϥ
  |2,_=>exact show wfEn En2 from OD (Xj sB) Xv ϥ
  |3,_=>exact show wfEn En3 from OD (Om sB) Xv ϥ
  |4,_=>exact show wfEn En3 from OD (Om sB) Xv ϥ
  |5,_=>exact show wfEn En5 from OD f Ack (by show(2:Nat)<=_;decide)
 ·intro k a
  match k,a with
  |0,_=>exact st1
  |1,_=>exact st2
  |2,_=>exact st3
  |3,_=>exact st4
  |4,_=>exact b
 ·intro k a
  match k,a with
  |0,_=>rfl
  |1,_=>rfl
  |2,_=>rfl
  |3,_=>rfl
  |4,_=>rfl
end jn
namespace jn
open vl bf
attribute [local go_sem] Oper.semAt_some
theorem OG{p:pl.Pln}(h:pl.Ag p=0)(w:Ϡ):enAt w ⟨Dg p,[]⟩ ex0:=⟨Ro h w,λi a=>absurd a (Nat.not_lt_zero i)⟩
theorem Wq{e0:Eng}{y0:EX}{wr d:Ϡ}{e:Eng}{y:EX}{N:Nat}(h:eAt e0 y0 d wr e y)(c:∀W,enAt W e0 y0)(b:Ah wr N 42)(l:List Value):enAt (wr.setCells N 0 l) e y:=by
 rcases h.2 with a|a
 ·obtain⟨⟨rfl,rfl⟩,_⟩:=a;exact c _
 ·exact⟨⟨(BI DJ _ _ _ a.1 b).at,(BI DJ _ _ _ a.2.1 b).at⟩,(Gk _ _ _ a.2.2 b).at⟩
theorem Z2(p:pl.Pln)(x:pl.PA)(l:List Ev)(xs:List RX)(u:ϡ)(I:Nat)(E:Nat->Eng)(R:Nat->Int×Eng×List ch.Chg)(w:Ϡ)(H:pl.wfPlan p)(G:pl.planAt w p x)(Y:p.grouped=false/\p.kind=1)(h0:pl.Ag p=0)(T:E 0=⟨Dg p,[]⟩)(aa:playsTo p l E R)(hv:Lf w u l xs)(hn:l.length<=120):
 χ 22 #[pl.Aj p x,vS u l.length I] w λe w'=>(∃b t h,e= .returned (.tuple #[enV (E l.length) b,t,h,Ϗ])/\enAt w' (E l.length) b)/\ϣ w w':=by
 have j:=hIz (λ(a:Ϡ) (r:ϣ w a)=>Wv p x a H (pl.Ae G r) h0);have m:Ϣ (∀a o,ϣ w a->boxP a o p x->CT 46 #[enV ⟨Dg p,[]⟩ ex0,vS u l.length I,.func (.func 47) #[] #[ω o]] a λe w'=>(∃b t h,e= .returned (.tuple #[enV (E l.length) b,t,h,Ϗ])/\eAt ⟨Dg p,[]⟩ ex0 a w' (E l.length) b)/\ϣ a w'):=λa o r ad=>
  Wp p x ⟨Dg p,[]⟩ ex0 l xs u I o E R a H (pl.Ae G r) Y ad (OG h0 a) T aa (T8 hv r) hn
 have O:Ϣ (∀W,enAt W ⟨Dg p,[]⟩ ex0):=λW=>OG h0 W;obtain⟨J,U⟩:=nM (⟨Dg p,[]⟩:Eng);obtain⟨d,z⟩:=nM (E l.length);obtain⟨n,F⟩:=nM l.length;rw[U]at j m O;rw[z,F]at m;rw[z,F];clear U z F H G hv hn Y h0 T aa;unfold pl.Aj at j⊢;rw[D5 J ex0]at j m;go_enter func22,ntmps22;go_wp2_with fail;generalize q:(World.alloc (World.alloc w _) _)=V;have C:ϣ w V:=by rw[<-q];exact ϯ.alloc Ϧ _
 have i:Ϣ (boxP V w p x):=by
  subst q;exact Af (BQ ..) ϯ
 have c:Ϣ (Fh V (w.heap.size+1)/\Ah V (w+1) 42):=by
  subst q;have Q:=Gq (ϊ w (Φ p x) 32);have S:=World.alloc_heap_new (ϊ w (Φ p x) 32) (.cells #[Ϗ,ώ,ώ,Ϗ,ώ,ώ,Ϗ,Ϗ,Ϗ,ώ,ώ] 42);rw[World.size_alloc]at Q S;exact⟨Q,_,_,S⟩
 clear q;refine(j.o _ C).mono ?_;rintro e a ⟨rfl,k⟩;have ac:ϣ w a:=bT C k;replace i:Ϣ (boxP a w p x):=Af i.o k;replace c:Ϣ (Fh a (w.heap.size+1)/\Ah a (w+1) 42):=⟨BC c.o.1 k,Ak c.o.2 k⟩;have lz:(w.heap.size+1)<a.heap.size:=RH c.o.1;clear C k j;go_upto_region 4 with fail;generalize A:(World.alloc a _)=f;have s:ϣ a f:=by rw[<-A];exact ϯ
 have M:Ϣ (Co f a.heap.size J ex0):=by
  subst A;exact DG ..
 clear A;have X:ϣ w f:=bT ac s;obtain⟨u0,u1,u2,u3,u4,u5,u6,u7,u8,u9,u10⟩:=M.o;replace c:Ϣ (Fh f (w.heap.size+1)/\Ah f (w+1) 42):=⟨BC c.o.1 s,Ak c.o.2 s⟩;replace i:Ϣ (boxP f w p x):=Af i.o s;go_wp2_with fail;refine(m.o f w.heap.size X i.o).mono ?_;rintro e g ⟨⟨b,t,h,rfl,Z⟩,D⟩;clear u0 u1 u2 u3 u4 u5 u6 u7 u8 u9 u10 M;have ab:ϣ w g:=bT X D;replace c:Ϣ (Fh g (w.heap.size+1)/\Ah g (w+1) 42):=⟨BC c.o.1 D,Ak c.o.2 D⟩;have N:Ϣ (enAt (World.setCells g (w.heap.size+1) 0 (μ d b)) d b):=Wq Z O.o c.o.2 _;clear Z;rw[D5 d b];have P:Ϣ ((World.setCells g (w.heap.size+1) 0 (μ d b)).rangeAt (w.heap.size+1) 0 (μ d b)):=Fa c.o.1 rfl;have L:Ϣ (ϣ w (World.setCells g (w.heap.size+1) 0 (μ d b))):=below_setCells Ϥ _ 0 _ ab;go_wp2_with ((with_reducible refine wpList_store_mid ?_ 42 (.tmp 4) (.tmp 23) ?_ (w.heap.size+1) 0 (ξ d b) ?_ ?_ ?_ ?_ ?_ ?_);exact rfl;exact rfl;exact rfl;exact rfl;exact c.o.1;exact Ha;exact ϭ);generalize (World.setCells g (w.heap.size+1) 0 (μ d b))=W' at P L N⊢;obtain⟨z0,z1,z2,z3,z4,z5,z6,z7,z8,z9,ae⟩:=OZ P.o;exact bodyPost_ret (v:=.tuple #[.agg (ξ d b),t,h,Ϗ]) (by simp[results,results22,go_sem,z0,z1,z2,z3,z4,z5,z6,z7,z8,z9,ae]) rfl ⟨⟨b,t,h,rfl,N.o⟩,L.o⟩
end jn
end Go.Proofs.YtfkihidbnfkbaaaGreatDoor
