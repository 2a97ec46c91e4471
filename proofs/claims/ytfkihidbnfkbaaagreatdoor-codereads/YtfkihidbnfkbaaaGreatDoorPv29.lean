import Derived.Test.YtfkihidbnfkbaaaGreatDoorPv28
set_option linter.all false
set_option maxHeartbeats 8000000
set_option maxRecDepth 100000
namespace Go.Proofs.YtfkihidbnfkbaaaGreatDoor
open ChangeShapes WideShapes ChangeAt RowKit Proofs.Tryz
namespace jn
open vl bf
attribute [local go_sem] Oper.semAt_some
variable {b base : Nat} {p : pl.Pln} {x : pl.PA} {s : Jn} {t : Value} {L : List CO} {w : ϟ}
structure stepAt(w0 w':World)(s:Jn)(y:JX)(t:Value)(L:List CO):Prop where
 l:OB w' w0.heap.size y.l s.L
 r:OB w' w0.heap.size y.r s.R
 cg:CG w' w0.heap.size t L
def Ab3{y:JX}(h:boxC w b p x s y t)(a:CG w base t L):
 χ 341 #[ω b] w (ψ w (.tuple #[joinV s y,t])):=by
 have e:=(CG.chgs a).1;rw[e]at h⊢;exact Adp b p x s y _ _ _ w h
def Zf{v:Ev}(c:goodJ p s)(a:comeJ p s v):goodJ p (M5 p s v)/\comeJ p (M5 p s v) v:=by
 unfold M5;split
 ·split
  ·exact⟨c,a⟩
  ·have e:Ar s 1=s.L:=rfl;have d:=LW c 1 ((I6 p s v).map (·.seq));have f:=LX a 1 ((I6 p s v).map (·.seq));rw[e]at d f;exact⟨d,f⟩
 ·exact⟨LW c _ _,LX a _ _⟩
def Ip{w':ϟ}{o n:Nat}(h:w.there b o n)(d:w'.heap[b]? =w.heap[b]?):w'.there b o n:=λj c=>by
 obtain⟨u,e⟩:=cD.1 (h j c).1;exact⟨by rw[(cOb (w:=w) (a:=⟨b,o+j,none⟩) d).trans e];rfl,(aG (w:=w) (a:=⟨b,o+j,none⟩) d).trans (h j c).2⟩
theorem Tn{base N:Nat}{v:Value}{L:List CO}:∀(l:List Value) (o:Nat) (w:ϟ),CG w base v L->Am w N 38->CG (w.setCells N o l) base v L
 |[],_,_,h,_=>h
 |u::l,o,w,h,hN=>Tn l (o+1) _ (P6 h hN Ϥ Ϥ o u) (tyAt_set hN _ _)
def RD{c:Nat}{v:Value}(h:CG w base v L)(d:c<=base):CG w c v L:=by
 have a:bt.Est w base ((⟨v,217,2,L.length,ch.Bv (L.map CO.pair)⟩:bt.Own1)::L.map λx=>Cz x.rv x.row):=h;exact bt.Est.mk (B0 d (bt.Est.low a)) (λz e=>D7 (bt.Est.own a z e) d) (bt.Est.two a)
theorem step_end{w2 i a:ϟ}{K:Nat}{T:TypeId}{j:Jn}{m:JX}{f:Nat}(e:JSt w2 i K T p x j m t L)(d:Ϣ w w2)(n:Ϣ i a)(c:Array Value)(o:w.heap.size<=f)(q:Am a f 38)(l:List Value):
 stepAt w (World.setCells (a.alloc (.cells c 38)) f 0 l) j m t L/\Ϣ w (World.setCells (a.alloc (.cells c 38)) f 0 l):=by
 have k:Ϣ a (a.alloc (.cells c 38)):=Ϯ;have g:Ϣ i (a.alloc (.cells c 38)):=bT n k;have h:=Ak q k;refine⟨⟨BG P0 _ _ _ (CL (e.l.below g) d.size) h,BG P0 _ _ _ (CL (e.r.below g) d.size) h,Tn _ _ _ (RD (e.cg.below g) d.size) h⟩,below_setCells o _ _ _ ?_⟩;exact(d.trans (e.bl.mono d.size)).trans (g.mono (B0 d.size e.bl.size))
theorem Ab4(p:pl.Pln)(x:pl.PA)(s:Jn)(y:JX)(v:Ev)(i:Ϡ)(l:Nat)(w:ϟ)(ba:p.kind=1)(hw:pl.wfPlan p)(hp:pl.planAt w p x)(h:joinAt w s y)(an:wfJ s)(hv:evAt w v i):
 χ 96 #[pl.Ai p x,joinV s y,evV v i l] w λe j=>(∃I t L,e= .returned (.tuple #[joinV (stepJ p s v).2.1 I,t,vI (stepJ p s v).1])/\L.map CO.chg=(stepJ p s v).2.2/\stepAt w j (stepJ p s v).2.1 I t L)/\Ϣ w j:=by
 have KC:=hIz (λ(a:ϟ) (m:Ϣ w a)=>jn.Bb p x s y a hw (pl.Ae hp m) (h.below m) an);have Y:=hIz (λ(a:ϟ) (m:Ϣ w a)=>Pz p x s y v i l a hw (pl.Ae hp m) (h.below m) an (hv.below m));have Q:ϡ (stepJ p s v=if AV p s≠0 then(AV p s,j0,[])else if AN p s v≠0 then(AN p s v,j0,[])else if v.kind=2 then(0,E8 p (Fy s v.side v.time),[])else(0,IG p s v)):=rfl;have KK:ϡ (AV p s=0->∀a,Ϣ w a->CT 154 #[pl.Ai p x,joinV s y] a λe j=> ∃K I,e= .returned (.iface (kindP p.kind) (.pointer (ϋ K)))/\JSt a j K (kindT p.kind) p x s I (vS none 0 0) []):=λhe a m=>Xb p x s y a ba (h.below m) (Eh he).2.L (Eh he).2.R;have ah:=hIz (λ(a:ϟ) (m:Ϣ w a)=>UT p x v i l a hw (pl.Ae hp m) (hv.below m));have HX:ϡ (AV p s=0->goodJ p s/\∃ff fm,KindK p (kindT p.kind) (kindP p.kind) ff fm):=λhe=>by
  obtain⟨Z,r⟩:=Eh he;exact⟨⟨r,λz hz=>by
   rcases List.mem_append.1 hz with hz|hz
   ·exact an.l.ents z hz
   ·exact an.r.ents z hz⟩,kinds ba⟩
 have HP:ϡ (pl.wfPlan p/\(∀a,Ϣ w a->pl.planAt a p x)/\∀a,Ϣ w a->evAt a v i):=⟨hw,λa m=>pl.Ae hp m,λa m=>hv.below m⟩;obtain⟨SJ,bk⟩:=nM (stepJ p s v);rw[bk]at Q⊢;clear hw hp h an hv bk ba;obtain⟨JE,a2⟩:=nM (AV p s);obtain⟨EE,a1⟩:=nM (AN p s v);have ca:=hV0 a2;have b0:=hV0 a1;rw[a2]at KC Q KK HX;rw[a1]at Y Q;clear a2 a1;unfold pl.Ai at KC Y KK ah⊢;rw[AU]at KC Y KK⊢;unfold evV at Y ah⊢;obtain⟨H,aw⟩:=nM v.kind;obtain⟨f,ax⟩:=nM v.side;obtain⟨g,ay⟩:=nM v.time;obtain⟨u,bb⟩:=nM v.row.length;have ab:ϡ (v.kind=H/\v.side=f/\v.time=g/\v.row.length=u):=⟨aw,ax,ay,bb⟩;rw[aw,ax,ay,bb]at Y ah⊢;rw[aw,ax,ay]at Q;clear aw ax ay bb;go_enter func96,ntmps96;go_wp2_with fail;generalize hV:(World.alloc (World.alloc (World.alloc (World.alloc w _) _) _) _)=V;have a4:Ϣ w V:=by rw[<-hV];exact((Ϯ.alloc ϥ _).alloc Ϫ _).alloc Ϫ _
 have W:ϡ (boxP V w p x):=by
  subst hV;exact Af (BF ..) ((Ϯ.alloc ϥ _).alloc Ϫ _)
 have aa:ϡ (BU V (w+1) s y):=by
  subst hV;have:=C5 (ϊ w (Φ p x) 32) s y 38;rw[D0]at this;exact Ay this (Ϯ.alloc ϥ _)
 have n:ϡ (ϝ V (w+1+1) (vI H) (vI f) (vI g) (vS i u l)):=by
  subst hV;exact⟨ϧ,ϧ,ϧ,ϧ⟩
 have q:ϡ (noJ V (w+1+1+1)/\Am V (w+1+1+1) 38):=by
  subst hV;have Z:=Ry (ϊ (ϊ (ϊ w (Φ p x) 32) (Ψ s y) 38) #[vI H,vI f,vI g,vS i u l] 90);have r:=DE (ϊ (ϊ (ϊ w (Φ p x) 32) (Ψ s y) 38) #[vI H,vI f,vI g,vS i u l] 90) (.cells #[Ϗ,ώ,ώ,Ϗ,ώ,ώ,Ϗ,Ϗ,Ϗ] 38);rw[D0,D0,D0]at Z r;exact⟨Z,_,_,r⟩
 have af:ϡ (Am V (w+1+1) 90):=by
  subst hV;have r:=DE (ϊ (ϊ w (Φ p x) 32) (Ψ s y) 38) (.cells #[vI H,vI f,vI g,vS i u l] 90);rw[D0,D0]at r;exact Ak ⟨_,_,r⟩ (bR.alloc ϥ _)
 clear hV;refine(KC.o _ a4).mono ?_;rintro e a ⟨rfl,F⟩;have a8:Ϣ w a:=bT a4 F;replace W:ϡ (boxP a w p x):=Af W.o F;replace aa:ϡ (BU a (w+1) s y):=Ay aa.o F;replace n:ϡ (ϝ a (w+1+1) (vI H) (vI f) (vI g) (vS i u l)):=⟨cLz F n.o.1,cLz F n.o.2.1,cLz F n.o.2.2.1,cLz F n.o.2.2.2⟩;replace q:ϡ (noJ a (w+1+1+1)/\Am a (w+1+1+1) 38):=⟨D9 q.o.1 F,Ak q.o.2 F⟩;replace af:ϡ (Am a (w+1+1) 90):=Ak af.o F;clear F a4 KC;by_cases h0:JE=0
 ·subst h0;obtain⟨v0,v1,v2,v3,v4,v5,v6,v7,v8,v9,ao,ap,aq⟩:=W.o;obtain⟨u0,u1,u2,u3,u4,u5,u6,u7,u8⟩:=aa.o;obtain⟨e0,e1,e2,e3⟩:=n.o;go_wp2_with fail;refine(Y.o _ a8).mono ?_;rintro e c ⟨rfl,G⟩;have P:Ϣ w c:=bT a8 G;replace W:ϡ (boxP c w p x):=Af W.o G;replace aa:ϡ (BU c (w+1) s y):=Ay aa.o G;replace n:ϡ (ϝ c (w+1+1) (vI H) (vI f) (vI g) (vS i u l)):=⟨cLz G n.o.1,cLz G n.o.2.1,cLz G n.o.2.2.1,cLz G n.o.2.2.2⟩;replace q:ϡ (noJ c (w+1+1+1)/\Am c (w+1+1+1) 38):=⟨D9 q.o.1 G,Ak q.o.2 G⟩;replace af:ϡ (Am c (w+1+1) 90):=Ak af.o G;clear G Y v0 v1 v2 v3 v4 v5 v6 v7 v8 v9 ao ap aq u0 u1 u2 u3 u4 u5 u6 u7 u8 e0 e1 e2 e3;by_cases Z:EE=0
  ·subst Z;obtain⟨v0,v1,v2,v3,v4,v5,v6,v7,v8,v9,ao,ap,aq⟩:=W.o;obtain⟨u0,u1,u2,u3,u4,u5,u6,u7,u8⟩:=aa.o;go_wp2_with fail;refine(KK.o trivial _ P).mono ?_;rintro e A ⟨K,y3,rfl,ak⟩;obtain⟨bo,ff,fm,B⟩:=HX.o trivial;generalize kindT p.kind=T at ak B;generalize kindP p.kind=kp at B⊢;have ar:=hV0 ak;have o:=hV0 B;have a0:=hV0 bo;have O:=ak.bl;have b4:Ϣ w A:=bT P O;have bc:ϡ (ϝ A (w+1+1) (vI H) (vI f) (vI g) (vS i u l)):=⟨cLz O n.o.1,cLz O n.o.2.1,cLz O n.o.2.2.1,cLz O n.o.2.2.2⟩;have bz:ϡ (boxP A w p x):=Af W.o O;have R:ϡ (noJ A (w+1+1+1)/\Am A (w+1+1+1) 38):=⟨D9 q.o.1 O,Ak q.o.2 O⟩;have b9:ϡ (Am A (w+1+1) 90):=Ak af.o O;have ci:=B.go K;have cg:=B.fo K;have cm:=B.me K;have ck:=B.ke K;have cl:=B.ma K;have cn:=B.ni K;have cd:=B.ef;have cf:=B.em;have bd:=hV0 b0.o;have cb:ϡ (c.heap.size<=K):=ak.up;have cc:(w.heap.size+1+1+1)<c.heap.size:=Abz q.o.1;clear ak B bo v0 v1 v2 v3 v4 v5 v6 v7 v8 v9 ao ap aq u0 u1 u2 u3 u4 u5 u6 u7 u8 KK HX;by_cases r:H=2
   ·subst r;have br:=Y4 bd.o ab.o.1;have k:ϡ (SJ=(0,E8 p (Fy s f g),[])):=by show _=_;rw[Q.o,AC ϥ,AC ϥ,AE rfl]
    have b1:ϡ (goodJ p (Fy s f g)):=Y2 a0.o f g (by rw[<-ab.o.2.2.1];exact br.2.1);obtain⟨d,ac⟩:=nM (E8 p (Fy s f g));have b3:ϡ (CT 339 #[ω K,vI f,vI g] A λe j=>e= .returned (.tuple #[])/\JSt c j K T p x (Fy s f g) y3 (vS none 0 0) []/\Cv T A j):=(Ado K p x s y3 _ f g A ar.o.box).mono (by
     rintro e j ⟨rfl,rfl⟩;exact⟨rfl,AeE ar.o o.o.calm f g,F6 ar.o.ty _ _⟩)
    have b2:ϡ (∀w4,JSt c w4 K T p x (Fy s f g) y3 (vS none 0 0) []->CT ff #[ω K] w4 λe j=>e= .returned (.tuple #[])/\∃I,JSt c j K T p x d I (vS none 0 0) []/\Cv T w4 j):=λw4 hj=>by
     rw[<-ac];exact o.o.cf K x _ y3 _ [] c w4 hj HP.o.1 (HP.o.2.1 c P) b1.o
    rw[ac]at k;obtain⟨e0,e1,e2,e3⟩:=bc.o;clear br ac;go_wp2_with (first
     |(go_at_call 339;refine b3.o.mono ?_;rintro e w4 ⟨rfl,b5,b6⟩)
     |(go_at_fn ff;refine(b2.o _ b5).mono ?_;rintro e w5 ⟨rfl,C,ad,av⟩;have ag:ϡ (Cv T A w5):=b6.trans av)
     |(go_at_call 341;refine(Ab3 ad.box ad.cg).mono ?_;rintro e w6 ⟨rfl,a5⟩;rw[AU];have a3:Am w6 (w.heap.size+1+1+1) 38:=Ak (A1 R.o.2 (ag.o.2 _ _ R.o.2 o.o.cj.symm Ϥ Ϥ)) a5;have am:(w6.alloc (.cells (Ψ d C) 38)).there (w.heap.size+1+1+1) 0 9:=Ci (Ci (Ip R.o.1 (ag.o.2 _ _ R.o.2 o.o.cj.symm Ϥ Ϥ)) a5) Ϯ)
     |((with_reducible refine Ft ?_ 38 (.tmp 6) (.tmp 61) ?_ (w.heap.size+1+1+1) 0 (Ψ d C) ?_ ?_ ?_ ?_ ?_ ?_);exact rfl;exact rfl;exact rfl;exact rfl;exact am;exact Oj;exact Ϭ))
    have X:=step_end ad P a5 (Ψ d C) (show w.heap.size<=(w.heap.size+1+1+1) by omega) a3 (Γ d C);have E:ϡ ((World.setCells (ϊ w6 (Ψ d C) 38) (w.heap.size+1+1+1) 0 (Γ d C)).rangeAt (w.heap.size+1+1+1) 0 (Γ d C)):=Io am rfl;generalize (World.setCells (ϊ w6 (Ψ d C) 38) (w.heap.size+1+1+1) 0 (Γ d C))=W' at E X⊢;obtain⟨z0,z1,z2,z3,z4,z5,z6,z7,z8⟩:=rg9 E.o;exact CD (v:=.tuple #[.agg (Ψ d C),ώ,Ϗ]) (by simp[results,results96,go_sem,z0,z1,z2,z3,z4,z5,z6,z7,z8]) rfl ⟨⟨C,ώ,[],by rw[k.o];rfl,by rw[k.o];rfl,by rw[k.o];exact X.1⟩,X.2⟩
   ·have HC:ϡ (comeJ p s v):=Y3 bd.o (by rw[ab.o.1];exact r);obtain⟨bp,bn⟩:=Zf a0.o HC.o;have k:ϡ (SJ=(0,Fs p (M5 p s v) v (Sn p s v),PY p s v)):=by show _=_;rw[Q.o,AC ϥ,AC ϥ,AC r,Yl]
    have cj:(H==2)=false:=by simpa using r
    have az:ϡ (∀a,Ϣ w a->CT 155 #[pl.Ai p x,.agg #[vI H,vI f,vI g,vS i u l]] a (ψ a (Ep p v i l))):=ah.o;have aj:ϡ (∀a,Ϣ A a->CT fm #[ω K,Ep p v i l] a λe j=>e= .returned (.bool (Sn p s v))/\∃I t' L',JSt c j K T p x (M5 p s v) I t' L'/\L'.map CO.chg=PY p s v/\Cv T a j):=λa m=>o.o.cm K x s y3 v i l c a (ar.o.below m) a0.o HC.o (HP.o.2.2 c P).row;have ai:=hIz (λ(a:ϟ) I t' L' (hj:JSt c a K T p x (M5 p s v) I t' L')=>C8 K T p x (M5 p s v) I t' L' v i l (Sn p s v) c a hj o.o.calm HP.o.1 (HP.o.2.1 c P) bp bn (HP.o.2.2 c P));obtain⟨MB,bh⟩:=nM (Sn p s v);obtain⟨MJ,bi⟩:=nM (M5 p s v);obtain⟨MT,bj⟩:=nM (PY p s v);rw[bh,bi]at aj ai k;rw[bj]at aj k;obtain⟨d,ac⟩:=nM (Fs p MJ v MB);rw[ac]at ai k;unfold Ep at az aj ai;obtain⟨kb,h3⟩:=nM (pl.A0 p v.side v.row);obtain⟨kh,h4⟩:=nM (pl.hasB p v.side v.row);rw[h3,h4,ab.o.2.1,ab.o.2.2.1,ab.o.2.2.2]at az aj ai;obtain⟨e0,e1,e2,e3⟩:=bc.o;obtain⟨v0,v1,v2,v3,v4,v5,v6,v7,v8,v9,ao,ap,aq⟩:=bz.o;clear bp bn r bh bi bj ac h3 h4 ah;go_upto_region 12 with(go_at_call 155;refine(az.o _ b4).mono ?_;rintro e wc ⟨rfl,a7⟩);generalize U:(wc.alloc (.cells #[vI f,vI g,vS i u l,.string kb,.bool kh] 208))=M at *;have bm:Ϣ A M:=by subst U;exact a7.alloc a7.size _
    have ae:ϡ (Am M wc 208):=by subst U;exact⟨_,_,DE wc _⟩
    have bs:Δ M wc 0 (vI f):=by subst U;go_simp
    have bu:Δ M wc 1 (vI g):=by subst U;go_simp
    have bv:Δ M wc 2 (vS i u l):=by subst U;go_simp
    have bw:Δ M wc 3 (.string kb):=by subst U;go_simp
    have bx:Δ M wc 4 (.bool kh):=by subst U;go_simp
    clear U;have au:ϡ (∀j,Cv T M j->ϖ j wc (vI f) (vI g) (vS i u l) (.string kb) (.bool kh)):=λj al=>⟨al.cell ae.o o.o.co.symm Ϥ Ϥ bs,al.cell ae.o o.o.co.symm Ϥ Ϥ bu,al.cell ae.o o.o.co.symm Ϥ Ϥ bv,al.cell ae.o o.o.co.symm Ϥ Ϥ bw,al.cell ae.o o.o.co.symm Ϥ Ϥ bx⟩;clear v0 v1 v2 v3 v4 v5 v6 v7 v8 v9 ao ap aq e0 e1 e2 e3 a7;refine gr.CZ 9 rfl Ϧ (S:=λj=>ϖ j wc (vI f) (vI g) (vS i u l) (.string kb) (.bool kh)) (au.o _ (Bi bR.drew)) (λN=>?_);refine tkz 0 47 N ?_;refine tkz 1 48 N ?_;refine tkz 2 49 N ?_;refine tkz 3 50 N ?_;refine tkz 5 52 N ?_;refine tkz 6 53 N ?_;refine tkz 7 54 N ?_;refine rD 4 λK hK=>?_;go_simp
    go_at_fn fm
    refine(aj.o _ bm.drew).mono ?_;rintro e w5 ⟨rfl,C,t5,L5,ad,b7,av⟩;have be:ϡ (Cv T M w5):=(Bi bR.drew).trans av;go_wp2_with fail;refine hK.out _ _ (au.o _ be.o) (λN=>?_);clear hK K
    try simp only[Act.put,sI,sZ,sSz]
    refine rD 8 λK hK=>?_;go_simp;go_at_call 340;refine(ai.o _ _ _ _ ad).mono ?_;rintro e w6 ⟨rfl,J,a9,bq⟩;have bg:ϡ (Cv T M w6):=be.o.trans bq;go_wp2_with fail;refine hK.out _ _ (au.o _ bg.o) (λN=>?_);clear hK K;refine GT Ϧ ?_ _;have ag:ϡ (Cv T A w6):=(Bi bm).trans bg.o;clear ad av bq au bs bu bv bw bx N;go_wp2_with (first
     |(go_at_call 341;refine(Ab3 a9.box a9.cg).mono ?_;rintro e w7 ⟨rfl,a6⟩;rw[AU];have a3:Am w7 (w.heap.size+1+1+1) 38:=Ak (A1 R.o.2 (ag.o.2 _ _ R.o.2 o.o.cj.symm Ϥ Ϥ)) a6;have am:(w7.alloc (.cells (Ψ d J) 38)).there (w.heap.size+1+1+1) 0 9:=Ci (Ci (Ip R.o.1 (ag.o.2 _ _ R.o.2 o.o.cj.symm Ϥ Ϥ)) a6) Ϯ)
     |((with_reducible refine Ft ?_ 38 (.tmp 6) (.tmp 61) ?_ (w.heap.size+1+1+1) 0 (Ψ d J) ?_ ?_ ?_ ?_ ?_ ?_);exact rfl;exact rfl;exact rfl;exact rfl;exact am;exact Oj;exact Ϭ))
    have X:=step_end a9 P a6 (Ψ d J) (show w.heap.size<=(w.heap.size+1+1+1) by omega) a3 (Γ d J);have E:ϡ ((World.setCells (ϊ w7 (Ψ d J) 38) (w.heap.size+1+1+1) 0 (Γ d J)).rangeAt (w.heap.size+1+1+1) 0 (Γ d J)):=Io am rfl;generalize (World.setCells (ϊ w7 (Ψ d J) 38) (w.heap.size+1+1+1) 0 (Γ d J))=W' at E X⊢;obtain⟨z0,z1,z2,z3,z4,z5,z6,z7,z8⟩:=rg9 E.o;exact CD (v:=.tuple #[.agg (Ψ d J),t5,Ϗ]) (by simp[results,results96,go_sem,z0,z1,z2,z3,z4,z5,z6,z7,z8]) rfl ⟨⟨J,t5,L5,by rw[k.o];rfl,by rw[k.o];exact b7,by rw[k.o];exact X.1⟩,X.2⟩
  ·have b8:(EE !=0)=true:=by simpa using Z
   have k:ϡ (SJ=(EE,j0,[])):=by show _=_;rw[Q.o,AC ϥ,AE Z]
   have E:ϡ ((World.setCells c (w.heap.size+1+1+1) 0 [Ϗ,ώ,ώ,Ϗ,ώ,ώ,Ϗ,Ϗ,Ϗ]).rangeAt (w.heap.size+1+1+1) 0 [Ϗ,ώ,ώ,Ϗ,ώ,ώ,Ϗ,Ϗ,Ϗ]):=Io q.o.1 rfl;have D:ϡ (Ϣ w (World.setCells c (w.heap.size+1+1+1) 0 [Ϗ,ώ,ώ,Ϗ,ώ,ώ,Ϗ,Ϗ,Ϗ])):=below_setCells ϣ _ 0 _ P;go_wp2_with ((with_reducible refine Ft ?_ 38 (.tmp 6) (.tmp 28) ?_ (w.heap.size+1+1+1) 0 #[Ϗ,ώ,ώ,Ϗ,ώ,ώ,Ϗ,Ϗ,Ϗ] ?_ ?_ ?_ ?_ ?_ ?_);exact rfl;exact rfl;exact rfl;exact rfl;exact q.o.1;exact Oj;exact Ϭ);generalize (World.setCells c (w.heap.size+1+1+1) 0 [Ϗ,ώ,ώ,Ϗ,ώ,ώ,Ϗ,Ϗ,Ϗ])=W' at E D⊢;obtain⟨z0,z1,z2,z3,z4,z5,z6,z7,z8⟩:=rg9 E.o;exact CD (v:=.tuple #[.agg #[Ϗ,ώ,ώ,Ϗ,ώ,ώ,Ϗ,Ϗ,Ϗ],ώ,vI EE]) (by simp[results,results96,go_sem,z0,z1,z2,z3,z4,z5,z6,z7,z8]) rfl ⟨⟨jx0,ώ,[],by rw[k.o];rfl,by rw[k.o];rfl,by rw[k.o];exact⟨Es (DJ D.o.size),Es (DJ D.o.size),CG.start D.o.size⟩⟩,D.o⟩
 ·have b8:(JE !=0)=true:=by simpa using h0
  have k:ϡ (SJ=(JE,j0,[])):=by show _=_;rw[Q.o,AE h0]
  have E:ϡ ((World.setCells a (w.heap.size+1+1+1) 0 [Ϗ,ώ,ώ,Ϗ,ώ,ώ,Ϗ,Ϗ,Ϗ]).rangeAt (w.heap.size+1+1+1) 0 [Ϗ,ώ,ώ,Ϗ,ώ,ώ,Ϗ,Ϗ,Ϗ]):=Io q.o.1 rfl;have D:ϡ (Ϣ w (World.setCells a (w.heap.size+1+1+1) 0 [Ϗ,ώ,ώ,Ϗ,ώ,ώ,Ϗ,Ϗ,Ϗ])):=below_setCells ϣ _ 0 _ a8;go_wp2_with ((with_reducible refine Ft ?_ 38 (.tmp 6) (.tmp 20) ?_ (w.heap.size+1+1+1) 0 #[Ϗ,ώ,ώ,Ϗ,ώ,ώ,Ϗ,Ϗ,Ϗ] ?_ ?_ ?_ ?_ ?_ ?_);exact rfl;exact rfl;exact rfl;exact rfl;exact q.o.1;exact Oj;exact Ϭ);generalize (World.setCells a (w.heap.size+1+1+1) 0 [Ϗ,ώ,ώ,Ϗ,ώ,ώ,Ϗ,Ϗ,Ϗ])=W' at E D⊢;obtain⟨z0,z1,z2,z3,z4,z5,z6,z7,z8⟩:=rg9 E.o;exact CD (v:=.tuple #[.agg #[Ϗ,ώ,ώ,Ϗ,ώ,ώ,Ϗ,Ϗ,Ϗ],ώ,vI JE]) (by simp[results,results96,go_sem,z0,z1,z2,z3,z4,z5,z6,z7,z8]) rfl ⟨⟨jx0,ώ,[],by rw[k.o];rfl,by rw[k.o];rfl,by rw[k.o];exact⟨Es (DJ D.o.size),Es (DJ D.o.size),CG.start D.o.size⟩⟩,D.o⟩
end jn
