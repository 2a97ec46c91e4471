import Derived.Test.YtfkihidbnfkbaaaGreatDoorPv32
set_option linter.all false
set_option maxHeartbeats 8000000
set_option maxRecDepth 100000
open List renaming length->ϲ
namespace Go.Proofs.YtfkihidbnfkbaaaGreatDoor
open ChangeShapes WideShapes ChangeAt RowKit List Proofs.Tryz
namespace jn
open vl bf
attribute [local go_sem] Oper.semAt_some
variable {w w' wr : ϟ} {e : Eng} {y y0 : EX} {t : TypeId} {B R : Nat}
def Vl{b:Nat}(h:Ek w b e y)(d:w'.heap[b]? =w.heap[b]?):Ek w' b e y:=by
 have c:∀{i:Nat} {v:Value},Δ w b i v->Δ w' b i v:=λ{i v} f=>(cOb (w:=w) (a:=⟨b,i,none⟩) d).trans f;obtain⟨u0,u1,u2,u3,u4,u5,u6,u7,u8,u9,u10⟩:=h;exact⟨c u0,c u1,c u2,c u3,c u4,c u5,c u6,c u7,c u8,c u9,c u10⟩
theorem II{N:Nat}:∀(l:List Value) (o:Nat) (w:ϟ),Am w N 42->MX 42 w (w.setCells N o l)
 |[],_,w,_=>⟨bR,λ_ _ _ _=>rfl⟩
 |u::l,o,w,h=>by
  have k:=II l (o+1) (ό w N o u) (tyAt_set h _ _);have c:∀g e,Am w g e->e≠42->(w.setCell ⟨N,o,none⟩ u).heap[g]? =w.heap[g]? :=λg e b a=>CB _ _ _ _ (tyAt_apart b h a);exact⟨((RK 0 w).setCell (At _) u).trans k.1,λg e b a=>(k.2 g e (A1 b (c g e b a)) a).trans (c g e b a)⟩
def eAt(e0:Eng)(y0:EX)(w wr:World)(e:Eng)(y:EX):Prop:=Ϣ w wr/\(((e=e0/\y=y0)/\enAt w e y)\/(OB wr w.heap.size y.y.l e.j.L/\OB wr w.heap.size y.y.r e.j.R/\ch.VO wr w.heap.size (vS y.va (ϲ e.v) y.vc) e.v))
def eAt.at{e0:Eng}(h:eAt e0 y0 w wr e y):enAt wr e y:=by
 rcases h.2 with a|a
 ·exact a.2.below h.1
 ·exact⟨⟨a.1.at,a.2.1.at⟩,a.2.2.at⟩
def eAt.below{e0:Eng}(h:eAt e0 y0 w wr e y)(a:Ϣ wr w'):eAt e0 y0 w w' e y:=⟨h.1.trans (a.mono h.1.size),h.2.imp id (λk=>⟨k.1.below a,k.2.1.below a,k.2.2.below a⟩)⟩
def eAt.keep{e0:Eng}(h:eAt e0 y0 w wr e y)(a:MX t wr w')(j:Ϣ w w')(h1:t≠166)(c:t≠119)(f:t≠33)(i:t≠83):eAt e0 y0 w w' e y:=by
 have d:∀{Z:BX} {B:Buf},OB wr w Z B->OB w' w Z B:=λk=>OB.other k a.1.size (λg b=>b.elim (λq=>a.2 g _ q h1.symm) (λq=>a.2 g _ q c.symm)) (λg q=>a.2 g _ q f.symm);exact⟨j,h.2.imp id (λk=>⟨d k.1,d k.2.1,k.2.2.other (λg b=>b.elim (λq=>a.2 g _ q i.symm) (λq=>a.2 g _ q c.symm))⟩)⟩
structure PCoE(e0:Eng)(y0:EX)(w wr:World)(R B:Nat)(e:Eng)(y:EX):Prop where
 box:Ek wr B e y
 nb:GJ wr B
 tb:Am wr B 42
 nr:GJ wr R
 tr:Am wr R 42
 j:eAt e0 y0 w wr e y
def PCoE.below{e0:Eng}(h:PCoE e0 y0 w wr R B e y)(a:Ϣ wr w'):PCoE e0 y0 w w' R B e y:=
 ⟨B5 h.box a,Ca h.nb a,Ak h.tb a,Ca h.nr a,Ak h.tr a,h.j.below a⟩
def PCoE.keep{e0:Eng}(h:PCoE e0 y0 w wr R B e y)(a:MX t wr w')(f:Ϣ w w')(h0:t≠42)(h1:t≠166)(b:t≠119)(c:t≠33)(d:t≠83):PCoE e0 y0 w w' R B e y:=
 ⟨Vl h.box (a.2 B _ h.tb h0.symm),Ip h.nb (a.2 B _ h.tb h0.symm),A1 h.tb (a.2 B _ h.tb h0.symm),Ip h.nr (a.2 R _ h.tr h0.symm),A1 h.tr (a.2 R _ h.tr h0.symm),h.j.keep a f h1 b c d⟩
def PCoE.put{e0:Eng}{a:Eng}{b:EX}(h:PCoE e0 y0 w wr R B e y)(d:w.heap.size<=B)(f:OB wr w b.y.l a.j.L)(g:OB wr w b.y.r a.j.R)(i:ch.VO wr w.heap.size (vS b.va (ϲ a.v) b.vc) a.v):
 PCoE e0 y0 w (wr.setCells B 0 (μ a b)) R B a b:=by
 refine⟨?_,dD h.nb _ _ _,DI _ _ _ h.tb,dD h.nr _ _ _,DI _ _ _ h.tr,below_setCells d _ 0 _ h.j.1,.inr ⟨BG Ji _ _ _ f h.tb,BG Ji _ _ _ g h.tb,Jj _ _ _ i h.tb⟩⟩;have c:=Gs h.nb (l:=(μ a b)) rfl;obtain⟨j,k,n,o,q,r,s,u,v,x,m⟩:=TU c;exact⟨j,k,n,o,q,r,s,u,v,x,m⟩
theorem YK(w:ϟ)(e:Eng)(y:EX):GJ (ϊ w (ξ e y) 42) w.heap.size:=by
 intro j a
 match j,a with
 |0,_=>exact⟨ϧ,ϧ⟩
 |1,_=>exact⟨ϧ,ϧ⟩
 |2,_=>exact⟨ϧ,ϧ⟩
 |3,_=>exact⟨ϧ,ϧ⟩
 |4,_=>exact⟨ϧ,ϧ⟩
 |5,_=>exact⟨ϧ,ϧ⟩
 |6,_=>exact⟨ϧ,ϧ⟩
 |7,_=>exact⟨ϧ,ϧ⟩
 |8,_=>exact⟨ϧ,ϧ⟩
 |9,_=>exact⟨ϧ,ϧ⟩
 |10,_=>exact⟨ϧ,ϧ⟩
def YL{p:pl.Pln}{v:Ev}{r:Int×Eng×List ch.Chg}(h:FG p e v r):ϲ r.2.2<=10000:=by
 rcases h.2 with⟨_,rfl⟩|⟨_,_,_,_,out,_,_,rfl⟩
 ·exact At _
 ·exact Ud p e.j v
structure playsTo(p:pl.Pln)(l:List Ev)(E:Nat->Eng)(R:Nat->Int×Eng×List ch.Chg):Prop where
 wf:∀k,k<=ϲ l->wfEn (E k)
 step:∀k,k<ϲ l->FG p (E k) (l.getD k default) (R k)
 next:∀k,k<ϲ l->E (k+1)=if (R k).1≠0 then E k else(R k).2.1
theorem Vm(p:pl.Pln)(x:pl.PA)(e0:Eng)(y0:EX)(l:List Ev)(xs:List RX)(la:Ϡ)(lc J:Nat)(E:Nat->Eng)(R:Nat->Int×Eng×List ch.Chg)(w:ϟ)(hw:pl.wfPlan p)(hp:pl.planAt w p x)(D:p.grouped=false/\p.kind=1)(ai:boxP w J p x)(h:enAt w e0 y0)(hE:E 0=e0)(a5:playsTo p l E R)(Q:L4 w la l xs)(hn:ϲ l<=120):
 χ 46 #[enV e0 y0,vS la (ϲ l) lc,.func (.func 47) #[] #[ω J]] w λe w'=>(∃j t nv,e= .returned (.tuple #[enV (E (ϲ l)) j,t,nv,Ϗ])/\eAt e0 y0 w w' (E (ϲ l)) j)/\Ϣ w w':=by
 have af:ϡ (pl.wfPlan p/\(∀a,Ϣ w a->pl.planAt a p x/\boxP a J p x)):=⟨hw,λa O=>⟨pl.Ae hp O,Af ai O⟩⟩;have bc:=hV0 h;have bb:=hV0 Q;have HP:=hV0 a5;have HE:=hV0 hE;have HG:=hV0 D;obtain⟨n,ao⟩:=nM (ϲ l);have U:=hV0 ao;have bu:=Le ai;rw[ao]at hn⊢;obtain⟨u,ah⟩:=nM (E n);have bd:=hV0 ah;rw[ah];clear hw hp ai h hE a5 Q ao D ah;rw[FQ e0 y0];go_enter func46,ntmps46;have D:∀t,binOp .gtr t (vI (n:Int)) (vI 120)=pure (.bool false):=pl.EH false Ϩ;go_upto_region 7 with fail;generalize hV:(World.alloc (World.alloc (World.alloc w _) _) _)=V;have bg:Ϣ w V:=by rw[<-hV];exact(Ϯ.alloc ϥ _).alloc Ϫ _
 have ad:ϡ (PCoE e0 y0 w V (w.heap.size+1) (w.heap.size+1+1) e0 y0):=by
  subst hV;have e1:=D0 w (.cells (ξ e0 y0) 42);have e2:=D0 (ϊ w (ξ e0 y0) 42) (.cells #[Ϗ,ώ,ώ,Ϗ,ώ,ώ,Ϗ,Ϗ,Ϗ,ώ,ώ] 42);rw[e1]at e2;have h1:=Jb (ϊ w (ξ e0 y0) 42);have h2:=DE (ϊ w (ξ e0 y0) 42) (.cells #[Ϗ,ώ,ώ,Ϗ,ώ,ώ,Ϗ,Ϗ,Ϗ,ώ,ώ] 42);have h3:=YK (ϊ (ϊ w (ξ e0 y0) 42) #[Ϗ,ώ,ώ,Ϗ,ώ,ώ,Ϗ,Ϗ,Ϗ,ώ,ώ] 42) e0 y0;have h4:=DE (ϊ (ϊ w (ξ e0 y0) 42) #[Ϗ,ώ,ώ,Ϗ,ώ,ώ,Ϗ,Ϗ,Ϗ,ώ,ώ] 42) (.cells (ξ e0 y0) 42);have h5:=F7 (ϊ (ϊ w (ξ e0 y0) 42) #[Ϗ,ώ,ώ,Ϗ,ώ,ώ,Ϗ,Ϗ,Ϗ,ώ,ώ] 42) e0 y0 42;rw[e1]at h1 h2;rw[e2]at h3 h4 h5;exact⟨h5,h3,⟨_,_,h4⟩,Ca h1 Ϯ,Ak ⟨_,_,h2⟩ Ϯ,bg,.inl ⟨⟨rfl,rfl⟩,bc.o⟩⟩
 clear hV;go_wp2_with fail
 go_loopw [12,13,26] (λtv nv i wr=> ∃(k:Nat) (j:EX) (L:List CO) (N:List Int),k<=n/\i=vI k/\PCoE e0 y0 w wr (w.heap.size+1) (w.heap.size+1+1) (E k) j/\TG wr w tv L/\(ϲ L)<=10000 * k/\pl.Cm wr w nv N/\(ϲ N)<=k) (λ_ _ i _=>n - (intOf i).toNat)
 case atStart=>exact⟨0,y0,[],[],At _,rfl,by rw[HE.o];exact ad.o,Agu _ _,At _,KX _ _ _ _,At _⟩
 case round=>
  obtain⟨k,y,L,N,bj,rfl,m,ar,ak,am,an⟩:=hrel;by_cases al:k<n
  ·obtain⟨b,bv,e,F,G,H,A,ab⟩:=bb.o k (by rw[U.o];exact al);have C:ϡ (E (k+1)=_):=HP.o.next k (by rw[U.o];exact al);have Y:ϡ (FG p (E k) (l.getD k default) (R k)):=HP.o.step k (by rw[U.o];exact al);have a9:wfEn (E k):=HP.o.wf k (by rw[U.o];exact bj);obtain⟨v,Q⟩:=nM (l.getD k default);obtain⟨ra,a6⟩:=nM ((xs.getD k (none,0)).1);obtain⟨rc,a7⟩:=nM ((xs.getD k (none,0)).2);rw[Q]at F G H A ab Y;rw[a6]at A ab;rw[a7]at A;have aa:Ϣ w wr:=m.j.1;have z:ϡ (∀a,Ϣ wr a->CT 47 #[enV (E k) y,evV v ra rc,ω J] a λe w'=>(∃j t L,e= .returned (.tuple #[enV (R k).2.1 j,t,vI (R k).1])/\L.map CO.chg=(R k).2.2/\stepEAt a w' (R k).2.1 j t L)/\Ϣ a w'):=λa O=>by
    have P:=bT aa O;exact WA p x (E k) y v ra rc J (R k) a af.o.1 (af.o.2 a P).1 HG.o (af.o.2 a P).2 (m.j.below O).at a9 (ab.below P) Y.o
   have ae:ϡ (ϲ (R k).2.2<=10000):=YL Y.o;obtain⟨ST,az⟩:=nM (R k);rw[az]at z ae C;obtain⟨S,hS⟩:=nM (E k);rw[hS]at z C m;obtain⟨SE,s,SC⟩:=ST;dsimp only at z ae C;subst e;have zz:=lk4 aa F G H A;clear F G H A;obtain⟨F,G,H,A⟩:=zz;clear az hS ab a9 a6 a7 Q Y;rw[FQ]at z;unfold evV at z;obtain⟨kd,aj⟩:=nM v.kind;obtain⟨sd,aq⟩:=nM v.side;obtain⟨bw,au⟩:=nM v.time;obtain⟨rl,ap⟩:=nM (ϲ v.row);rw[aj,aq,au,ap]at z;rw[aj]at F;rw[aq]at G;rw[au]at H;rw[ap]at A;clear aj aq au ap;have d:=hV0 m;have q:ϡ (TG wr w u12 L/\(ϲ L)<=10000 * k):=⟨ar,ak⟩;have o:ϡ (pl.Cm wr w u13 N/\(ϲ N)<=k):=⟨am,an⟩;have i1:=nn0 k;have i2:(k:Int)<(n:Int):=ϣ;obtain⟨u0,u1,u2,u3,u4,u5,u6,u7,u8,u9,u10⟩:=m.box;have lB:(w.heap.size+1+1)<wr.heap.size:=TN m.box;clear m ar ak am an ad;go_wp2_with fail;refine(z.o _ Ϯ).mono ?_;rintro e a ⟨⟨j,t,M,rfl,hM,a8⟩,a0⟩;have Z:Ϣ wr a:=((RK wr.heap.size wr).alloc nR _).trans (a0.mono ϥ);have bq:Ϣ w a:=bT aa Z;replace d:ϡ (PCoE e0 y0 w a (w.heap.size+1) (w.heap.size+1+1) S y):=d.o.below Z;replace q:ϡ (TG a w u12 L/\(ϲ L)<=10000 * k):=⟨q.o.1.below Z,q.o.2⟩;replace o:ϡ (pl.Cm a w u13 N/\(ϲ N)<=k):=⟨own_below o.o.1 Z,o.o.2⟩;have HM:=hV0 hM;have X:ϡ (stepEAt w a s j t M):=LA (w0':=w) a8 (by have:=aa.size;simp;omega);have bs:(w.heap.size+1+1)<a.heap.size:=TN d.o.box;clear u0 u1 u2 u3 u4 u5 u6 u7 u8 u9 u10 F G H A hM a8 a0 lB z;rw[FQ];by_cases h0:SE=0
   ·subst h0;rw[AC Ϥ]at C;go_upto_region 13 with fail;generalize I:(World.alloc a _)=c;have r:Ϣ a c:=by rw[<-I];exact Ϯ
    have ba:ϡ (Ek c a.heap.size s j):=by
     subst I;exact F7 ..
    clear I;replace d:ϡ (PCoE e0 y0 w c (w.heap.size+1) (w.heap.size+1+1) S y):=d.o.below r;replace q:ϡ (TG c w u12 L/\(ϲ L)<=10000 * k):=⟨q.o.1.below r,q.o.2⟩;replace o:ϡ (pl.Cm c w u13 N/\(ϲ N)<=k):=⟨own_below o.o.1 r,o.o.2⟩;have ax:ϡ (CG (World.setCells c (w.heap.size+1+1) 0 (μ s j)) w.heap.size t M):=OV _ _ _ (X.o.cg.below r) d.o.tb;have T:ϡ (PCoE e0 y0 w (World.setCells c (w.heap.size+1+1) 0 (μ s j)) (w.heap.size+1) (w.heap.size+1+1) s j):=d.o.put ϣ (X.o.l.below r) (X.o.r.below r) (X.o.v.below r);have ag:ϡ (TG (World.setCells c (w.heap.size+1+1) 0 (μ s j)) w.heap.size u12 L/\(ϲ L)<=10000 * k):=⟨q.o.1.keep (II _ _ _ d.o.tb) Ϥ Ϥ,q.o.2⟩;have W:ϡ (pl.Cm (World.setCells c (w.heap.size+1+1) 0 (μ s j)) w.heap.size u13 N/\(ϲ N)<=k):=⟨A4 o.o.1 (λg D=>(II _ _ _ d.o.tb).2 g _ (Az o.o.1 D) Ϥ),o.o.2⟩;obtain⟨u0,u1,u2,u3,u4,u5,u6,u7,u8,u9,u10⟩:=ba.o;go_upto_region 14 with((with_reducible refine Ft ?_ 42 (.tmp 11) (.tmp 45) ?_ (w.heap.size+1+1) 0 (ξ s j) ?_ ?_ ?_ ?_ ?_ ?_);exact rfl;exact rfl;exact rfl;exact rfl;exact d.o.nb;exact Kr;exact Ϭ);generalize (World.setCells c (w.heap.size+1+1) 0 (μ s j))=w3 at ax T ag W⊢;clear u0 u1 u2 u3 u4 u5 u6 u7 u8 u9 u10;have bo:ϲ M<=10000:=by rw[<-lMp (f:=CO.chg),HM.o];exact ae.o
    have be:=ag.o.2;have ac:=T.o.j.1.size;go_wp2_with (at_builtin;refine Uf rfl (.tmp 46) (.tmp 47) rfl w.heap.size w.heap.size u12 t L M w3 rfl rfl ag.o.1 ax.o ϣ ac ?_;intro v2 w4 bm a4 bh);go_roundw;exact⟨k+1,j,L++M,N,ϣ,by go_num,by rw[C.o];exact T.o.keep a4 (T.o.j.1.trans bh) Ϥ Ϥ Ϥ Ϥ Ϥ,bm,by rw[lAp];omega,A4 W.o.1 (λg D=>a4.2 g _ (Az W.o.1 D) Ϥ),by have:=W.o.2;omega⟩;simp[intOf];omega
   ·have br:(SE !=0)=true:=by simpa using h0
    rw[AE h0]at C;go_upto_region 12 with fail;generalize I:(World.alloc a _)=c;have r:Ϣ a c:=by rw[<-I];exact Ϯ
    clear I;replace d:ϡ (PCoE e0 y0 w c (w.heap.size+1) (w.heap.size+1+1) S y):=d.o.below r;replace q:ϡ (TG c w u12 L/\(ϲ L)<=10000 * k):=⟨q.o.1.below r,q.o.2⟩;replace o:ϡ (pl.Cm c w u13 N/\(ϲ N)<=k):=⟨own_below o.o.1 r,o.o.2⟩;have ac:=d.o.j.1.size;have bp:=o.o.2;have be:=q.o.2;go_wp2_with (at_builtin;refine pl.F9 rfl (.tmp 41) (.tmp 43) rfl w.heap.size u13 N rfl c o.o.1 (k:Int) c.heap.size rfl rfl ϣ ac ?_;intro v2 w3 bk a2);have bi:=pl.DD d.o.j.1 ac o.o.1 a2;have a3:=Mz (WD o.o.1 _) a2;have a1:Ϣ c (ϊ c #[vI (k:Int)] 3):=Ϯ;go_roundw;exact⟨k+1,y,L,N++[(k:Int)],ϣ,by go_num,by rw[C.o];exact(d.o.below a1).keep a3 bi Ϥ Ϥ Ϥ Ϥ Ϥ,(q.o.1.below a1).keep a3 Ϥ Ϥ,ϣ,bk,by rw[lAp,bV];omega⟩;simp[intOf];omega
  ·have hk:k=n:=ϣ;subst hk;have i2:¬((k:Int)<(k:Int)):=ϣ;rw[bd.o]at m;have d:=hV0 m;have aw:ϡ (Ϣ w (World.setCells wr (w.heap.size+1) 0 (μ u y))):=below_setCells ϣ _ 0 _ m.j.1;have ay:ϡ (eAt e0 y0 w (World.setCells wr (w.heap.size+1) 0 (μ u y)) u y):=⟨aw.o,m.j.2.imp id (λk=>⟨BG Ji _ _ _ k.1 m.tr,BG Ji _ _ _ k.2.1 m.tr,Jj _ _ _ k.2.2 m.tr⟩)⟩;have P:=m.j.1;obtain⟨u0,u1,u2,u3,u4,u5,u6,u7,u8,u9,u10⟩:=m.box;clear m ar ak am an ad aw;have HR:ϡ ((World.setCells wr (w.heap.size+1) 0 (μ u y)).rangeAt (w.heap.size+1) 0 (μ u y)):=Gs d.o.nr rfl;have av:ϡ (Ϣ w (World.setCells wr (w.heap.size+1) 0 (μ u y))):=below_setCells ϣ _ 0 _ P;go_wp2_with ((with_reducible refine Ft ?_ 42 (.tmp 6) (.tmp 50) ?_ (w.heap.size+1) 0 (ξ u y) ?_ ?_ ?_ ?_ ?_ ?_);exact rfl;exact rfl;exact rfl;exact rfl;exact d.o.nr;exact Kr;exact Ϭ);generalize (World.setCells wr (w.heap.size+1) 0 (μ u y))=W' at HR av ay⊢;obtain⟨z0,z1,z2,z3,z4,z5,z6,z7,z8,z9,bn⟩:=TU HR.o;exact CD (v:=.tuple #[.agg (ξ u y),u12,u13,Ϗ]) (by simp[results,results46,go_sem,z0,z1,z2,z3,z4,z5,z6,z7,z8,z9,bn]) rfl ⟨⟨y,⟨u12,u13,rfl⟩,ay.o⟩,av.o⟩
end jn
namespace jn
open vl bf
variable {p : pl.Pln} {e : Eng} {K : ByteArray}
def vw1:List ch.Cnt:=[⟨rw2 7 1++bt.D3 2,1⟩]
def vw2:List ch.Cnt:=[⟨rw2 7 1++rw2 7 2,1⟩]
def vw3:List ch.Cnt:=[⟨rw2 7 1++rw2 7 2,1⟩,⟨rw2 7 4++rw2 7 2,1⟩]
def Ri{a b:Int}(ha: -9223372036854775808<=a/\a<=9223372036854775807)(c: -9223372036854775808<=b/\b<=9223372036854775807){r:List Cel}(d:B8 r):B8 (rw2 a b++r):=Agl (FA ha c) d
def AaW:B8 ch1.r:=Ri Ϥ Ϥ (Ae2 2)
def XA:B8 ch3.r:=Ri Ϥ Ϥ (FA Ϥ Ϥ)
def AaX:B8 ch4.r:=Ri Ϥ Ϥ (FA Ϥ Ϥ)
def Af6:ch.BK vw1:=by
 intro c a;rw[M2.1 a];exact⟨AaW,Ϥ,Ϥ⟩
def XB:ch.BK vw2:=by
 intro c a;rw[M2.1 a];exact⟨XA,Ϥ,Ϥ⟩
def AaY:ch.BK vw3:=by
 intro c a;rcases E3.1 a with rfl|a
 ·exact⟨XA,Ϥ,Ϥ⟩
 ·rw[M2.1 a];exact⟨AaX,Ϥ,Ϥ⟩
def AgJ:∀c∈vw1,rowOk c.r:=ch.Hv Af6 (by decide+kernel)
def Af7:∀c∈vw2,rowOk c.r:=ch.Hv XB (by decide+kernel)
def AgK:∀c∈vw3,rowOk c.r:=ch.Hv AaY (by decide+kernel)
def wfs1:ch.Gq [ch1]:=by
 intro c a;rw[M2.1 a];exact⟨AaW,Ϥ,Ϥ⟩
def wfs2:ch.Gq [ch2,ch3]:=by
 intro c a;rcases E3.1 a with rfl|a
 ·exact⟨AaW,Ϥ,Ϥ⟩
 ·rw[M2.1 a];exact⟨XA,Ϥ,Ϥ⟩
def wfs4:ch.Gq [ch4]:=by
 intro c a;rw[M2.1 a];exact⟨AaX,Ϥ,Ϥ⟩
def ND(b:pl.Ag p=0)(h:goodJ p e.j)(h1:ch.Av e.v=0)(a:bt.Ej (pl.Cc p) e.v=0):En p e=0:=by
 unfold En;rw[h.ok.none b,AC (λk=>k rfl),h1,AC (λk=>k rfl),a]
abbrev sP:=pl.GV
def sK:ByteArray:=pl.A0 pl.GV 1 (rw2 7 1)
def sB:begP sP sK:=W9
def En0:Eng:=⟨Db sP,[]⟩
def En1:Eng:=⟨St1 sK,vw1⟩
def En2:Eng:=⟨St2 sK,vw2⟩
def En3:Eng:=⟨St3 sK,vw2⟩
def en0:En sP En0=0:=ND pl.Da (good_start pl.Da) Ϧ Ϧ
def en1:En sP En1=0:=ND pl.Da (Yg sB) Ϧ Ϧ
def en2:En sP En2=0:=ND pl.Da (Yh sB) Ϧ Ϧ
def en3:En sP En3=0:=ND pl.Da (OU sB) Ϧ Ϧ
def Rj{a:ch.KV}{l:List ch.Chg}(n:Nat)(h:(List.range n).all (λi=>ch.Lu a l i==0)=true):∀i,i<n->ch.Lu a l i=0:=λi b=>by
 have:=aT.1 h i (mem_range.2 b);simpa using this
def st1:FG sP En0 ev1 (0,En1,[ch1]):=by
 refine⟨en0,.inr ?_⟩;show _/\_;rw[show stepJ sP En0.j ev1=_ from Agv sB];exact⟨rfl,Ϧ,wfs1,Rj 1 Ϧ,vw1,Ϧ,AgJ,rfl⟩
def st2:FG sP En1 ev2 (0,En2,[ch2,ch3]):=by
 refine⟨en1,.inr ?_⟩;show _/\_;rw[show stepJ sP En1.j ev2=_ from Agw sB];exact⟨rfl,Ϧ,wfs2,Rj 2 Ϧ,vw2,Ϧ,Af7,rfl⟩
def st3:FG sP En2 ev3 (0,En3,[]):=by
 refine⟨en2,.inr ?_⟩;show _/\_;rw[show stepJ sP En2.j ev3=_ from Agx sB];exact⟨rfl,Ϧ,λc a=>absurd a SW,λi b=>absurd b (CA i),vw2,Ϧ,Af7,rfl⟩
def st4:FG sP En3 ev4 (7,e0,[]):=by
 refine⟨en3,.inl ?_⟩;rw[show stepJ sP En3.j ev4=_ from beg4 sB];exact⟨Ϥ,rfl⟩
def Lm(K:ByteArray):Ent:=⟨K,1,0,rw2 7 1,true⟩
def Lm2(K:ByteArray):Ent:=⟨K,5,2,rw2 7 4,true⟩
def Rm(K:ByteArray):Ent:=⟨K,2,1,rw2 7 2,true⟩
def St5(K:ByteArray):Jn:=⟨Dr ⟨2,[Lm K],[]⟩ (Lm2 K),⟨2,[Rm K],[]⟩,4,noMark,3⟩
def NF(K:ByteArray):(Dr ⟨2,[Lm K],[]⟩ (Lm2 K)).lim=2/\(Dr ⟨2,[Lm K],[]⟩ (Lm2 K)).runs=[]/\(Dr ⟨2,[Lm K],[]⟩ (Lm2 K)).mem.Perm [Lm K,Lm2 K]:=by
 have a:=De ([Lm K]++[Lm2 K]);have b:=a.length_eq;unfold Dr IE;rw[show(ϲ (Dx ((⟨2,[Lm K],[]⟩:Buf).mem++[Lm2 K])))=2 from b];exact⟨rfl,rfl,a⟩
theorem Af8(h:begP p K):stepJ p (St3 K) ev5=(0,St5 K,[ch4]):=by
 rw[FC h.err (OU h)];have e:AN p (St3 K) ev5=0:=by
  simp[AN,ev5,pl.Bw,tm.Br,h.e4,BJ,noMark,Ar,Ab,partsB,St3]
 have a:partners p (St3 K) ev5=[⟨K,2,1,rw2 7 2,true⟩]:=by
  simp[partners,ev5,h.h4,FX,Ar,Ab,partsB,L6,St3,h.k4,Hg,toJ,h.kind,h.low,h.high]
 have c:Dh p (St3 K) ev5=⟨⟨2,[Lm K],[]⟩,⟨2,[Rm K],[]⟩,4,noMark,2⟩:=by
  unfold Dh;rw[a];rfl
 have b:(IG p (St3 K) ev5).2=[ch4]:=by
  simp only[IG,h.kind,DX,a];simp[ev5,Eo,h.mode,DT,ch4]
 rw[L9 h.kind]at b;rw[AC (by rw[e];exact λk=>k rfl),AC Ϥ,L9 h.kind,c,a,OS _ h.h4 (by rw[I0 rfl];decide)];dsimp only at b;rw[b];show(0,(⟨(AP _ 1 (Dr _ ⟨pl.A0 p 1 (rw2 7 4),5,2,rw2 7 4,true⟩)).L,_,_,_,_⟩:Jn),[ch4])=_;rw[h.k4];rfl
def AaZ(h:begP p K):goodJ p (St5 K):=by
 obtain⟨s,e,_,_,_,a⟩:=beg5 h;rw[Af8 h]at e;injection e with _ e
 injection e with e _
 rw[e];exact a
def st5:FG sP En3 ev5 (0,⟨St5 sK,vw3⟩,[ch4])/\En sP ⟨St5 sK,vw3⟩=0:=by
 refine⟨⟨en3,.inr ?_⟩,ND pl.Da (AaZ sB) Ϧ Ϧ⟩;show _/\_;rw[show stepJ sP En3.j ev5=_ from Af8 sB];exact⟨rfl,Ϧ,wfs4,Rj 1 Ϧ,vw3,Ϧ,AgK,rfl⟩
def NG(h:goodJ sP e.j)(b:ch.BK e.v)(a:ϲ e.v<=ύ):wfEn e:=⟨AeQ h,b,a⟩
def En5:Eng:=⟨St5 sK,vw3⟩
theorem Aba:∃(E:Nat->Eng) (R:Nat->Int×Eng×List ch.Chg),playsTo sP Kv E R/\E 0=⟨Db sP,[]⟩/\E 5=En5:=by
 obtain⟨b,g⟩:=st5;have f:=AaZ (p:=sP) sB;refine⟨fun|0=>En0|1=>En1|2=>En2|3=>En3|4=>En3|_=>En5,fun|0=>(0,En1,[ch1])|1=>(0,En2,[ch2,ch3])|2=>(0,En3,[])|3=>(7,e0,[])|_=>(0,En5,[ch4]),⟨?_,?_,?_⟩,rfl,rfl⟩
 ·intro k a
  match k,a with
  |0,_=>exact show wfEn En0 from NG (good_start pl.Da) (λc d=>absurd d SW) Ϥ
  |1,_=>exact show wfEn En1 from NG (Yg sB) Af6 Ϥ
  |2,_=>exact show wfEn En2 from NG (Yh sB) XB Ϥ
  |3,_=>exact show wfEn En3 from NG (OU sB) XB Ϥ
  |4,_=>exact show wfEn En3 from NG (OU sB) XB Ϥ
  |5,_=>exact show wfEn En5 from NG f AaY (by show(2:Nat)<=_;decide)
 ·intro k a
  match k,a with
  |0,_=>exact st1
  |1,_=>exact st2
  |2,_=>exact st3
  |3,_=>exact st4
  |4,_=>exact b
 ·intro k a
  match k,a with
  |0,_=>rfl
  |1,_=>rfl
  |2,_=>rfl
  |3,_=>rfl
  |4,_=>rfl
attribute [local go_sem] Oper.semAt_some
def NH{p:pl.Pln}(h:pl.Ag p=0)(w:ϟ):enAt w ⟨Db p,[]⟩ ex0:=⟨Sg h w,λi a=>absurd a (CA i)⟩
def Vn{e0:Eng}{y0:EX}{wr d:ϟ}{e:Eng}{y:EX}{N:Nat}(h:eAt e0 y0 d wr e y)(c:∀W,enAt W e0 y0)(b:Am wr N 42)(l:List Value):enAt (wr.setCells N 0 l) e y:=by
 rcases h.2 with a|a
 ·obtain⟨⟨rfl,rfl⟩,_⟩:=a;exact c _
 ·exact⟨⟨(BG Ji _ _ _ a.1 b).at,(BG Ji _ _ _ a.2.1 b).at⟩,(Jj _ _ _ a.2.2 b).at⟩
theorem YM(p:pl.Pln)(x:pl.PA)(l:List Ev)(xs:List RX)(u:Ϡ)(I:Nat)(E:Nat->Eng)(R:Nat->Int×Eng×List ch.Chg)(w:ϟ)(H:pl.wfPlan p)(G:pl.planAt w p x)(Y:p.grouped=false/\p.kind=1)(h0:pl.Ag p=0)(T:E 0=⟨Db p,[]⟩)(aa:playsTo p l E R)(hv:L4 w u l xs)(hn:ϲ l<=120):
 χ 22 #[pl.Ai p x,vS u (ϲ l) I] w λe w'=>(∃b t h,e= .returned (.tuple #[enV (E (ϲ l)) b,t,h,Ϗ])/\enAt w' (E (ϲ l)) b)/\Ϣ w w':=by
 have j:=hIz (λ(a:ϟ) (r:Ϣ w a)=>Xw p x a H (pl.Ae G r) h0);have m:ϡ (∀a o,Ϣ w a->boxP a o p x->CT 46 #[enV ⟨Db p,[]⟩ ex0,vS u (ϲ l) I,.func (.func 47) #[] #[ω o]] a λe w'=>(∃b t h,e= .returned (.tuple #[enV (E (ϲ l)) b,t,h,Ϗ])/\eAt ⟨Db p,[]⟩ ex0 a w' (E (ϲ l)) b)/\Ϣ a w'):=λa o r ad=>
  Vm p x ⟨Db p,[]⟩ ex0 l xs u I o E R a H (pl.Ae G r) Y ad (NH h0 a) T aa (Uc hv r) hn
 have O:ϡ (∀W,enAt W ⟨Db p,[]⟩ ex0):=λW=>NH h0 W;obtain⟨J,U⟩:=nM (⟨Db p,[]⟩:Eng);obtain⟨d,z⟩:=nM (E (ϲ l));obtain⟨n,F⟩:=nM (ϲ l);rw[U]at j m O;rw[z,F]at m;rw[z,F];clear U z F H G hv hn Y h0 T aa;unfold pl.Ai at j⊢;rw[FQ J ex0]at j m;go_enter func22,ntmps22;go_wp2_with fail;generalize q:(World.alloc (World.alloc w _) _)=V;have C:Ϣ w V:=by rw[<-q];exact Ϯ.alloc ϥ _
 have i:ϡ (boxP V w p x):=by
  subst q;exact Af (BF ..) Ϯ
 have c:ϡ (GJ V (w.heap.size+1)/\Am V (w+1) 42):=by
  subst q;have Q:=Jb (ϊ w (Φ p x) 32);have S:=DE (ϊ w (Φ p x) 32) (.cells #[Ϗ,ώ,ώ,Ϗ,ώ,ώ,Ϗ,Ϗ,Ϗ,ώ,ώ] 42);rw[D0]at Q S;exact⟨Q,_,_,S⟩
 clear q;refine(j.o _ C).mono ?_;rintro e a ⟨rfl,k⟩;have ac:Ϣ w a:=bT C k;replace i:ϡ (boxP a w p x):=Af i.o k;replace c:ϡ (GJ a (w.heap.size+1)/\Am a (w+1) 42):=⟨Ca c.o.1 k,Ak c.o.2 k⟩;have lz:(w.heap.size+1)<a.heap.size:=AeH c.o.1;clear C k j;go_upto_region 4 with fail;generalize A:(World.alloc a _)=f;have s:Ϣ a f:=by rw[<-A];exact Ϯ
 have M:ϡ (Ek f a.heap.size J ex0):=by
  subst A;exact F7 ..
 clear A;have X:Ϣ w f:=bT ac s;obtain⟨u0,u1,u2,u3,u4,u5,u6,u7,u8,u9,u10⟩:=M.o;replace c:ϡ (GJ f (w.heap.size+1)/\Am f (w+1) 42):=⟨Ca c.o.1 s,Ak c.o.2 s⟩;replace i:ϡ (boxP f w p x):=Af i.o s;go_wp2_with fail;refine(m.o f w.heap.size X i.o).mono ?_;rintro e g ⟨⟨b,t,h,rfl,Z⟩,D⟩;clear u0 u1 u2 u3 u4 u5 u6 u7 u8 u9 u10 M;have ab:Ϣ w g:=bT X D;replace c:ϡ (GJ g (w.heap.size+1)/\Am g (w+1) 42):=⟨Ca c.o.1 D,Ak c.o.2 D⟩;have N:ϡ (enAt (World.setCells g (w.heap.size+1) 0 (μ d b)) d b):=Vn Z O.o c.o.2 _;clear Z;rw[FQ d b];have P:ϡ ((World.setCells g (w.heap.size+1) 0 (μ d b)).rangeAt (w.heap.size+1) 0 (μ d b)):=Gs c.o.1 rfl;have L:ϡ (Ϣ w (World.setCells g (w.heap.size+1) 0 (μ d b))):=below_setCells ϣ _ 0 _ ab;go_wp2_with ((with_reducible refine Ft ?_ 42 (.tmp 4) (.tmp 23) ?_ (w.heap.size+1) 0 (ξ d b) ?_ ?_ ?_ ?_ ?_ ?_);exact rfl;exact rfl;exact rfl;exact rfl;exact c.o.1;exact Kr;exact Ϭ);generalize (World.setCells g (w.heap.size+1) 0 (μ d b))=W' at P L N⊢;obtain⟨z0,z1,z2,z3,z4,z5,z6,z7,z8,z9,ae⟩:=TU P.o;exact CD (v:=.tuple #[.agg (ξ d b),t,h,Ϗ]) (by simp[results,results22,go_sem,z0,z1,z2,z3,z4,z5,z6,z7,z8,z9,ae]) rfl ⟨⟨b,t,h,rfl,N.o⟩,L.o⟩
end jn
