import Derived.Test.YtfkihidbnfkbaaaGreatDoorPv28
set_option linter.all false
set_option maxHeartbeats 8000000
set_option maxRecDepth 100000
open Go.ChangeShapes Go.WideShapes Go.ChangeAt Go.RowKit
namespace Go.Proofs.YtfkihidbnfkbaaaGreatDoor
open Go.Proofs.Tryz
namespace jn
open vl bf
attribute [local go_sem] Oper.semAt_some
variable {b base : Nat} {p : pl.Pln} {x : pl.PA} {s : Jn} {t : Value} {L : List CO} {w : Ϡ}
structure stepAt(w0 w':World)(s:Jn)(y:JX)(t:Value)(L:List CO):Prop where
 l:OB w' w0.heap.size y.l s.L
 r:OB w' w0.heap.size y.r s.R
 cg:CG w' w0.heap.size t L
theorem Aaf{y:JX}(h:boxC w b p x s y t)(a:CG w base t L):
 χ 341 #[ω b] w (ψ w (.tuple #[joinV s y,t])):=by
 have e:=(CG.chgs a).1;rw[e]at h⊢;exact Acu b p x s y _ _ _ w h
theorem XJ{v:Ev}(c:goodJ p s)(a:comeJ p s v):goodJ p (LZ p s v)/\comeJ p (LZ p s v) v:=by
 unfold LZ;split
 ·split
  ·exact⟨c,a⟩
  ·have e:Av s 1=s.L:=rfl;have d:=L1 c 1 ((Ik p s v).map (·.seq));have f:=L2 a 1 ((Ik p s v).map (·.seq));rw[e]at d f;exact⟨d,f⟩
 ·exact⟨L1 c _ _,L2 a _ _⟩
theorem Fl{e:Ϡ}{o n:Nat}(h:w.there b o n)(d:e.heap[b]? =w.heap[b]?):e.there b o n:=λj c=>by
 obtain⟨u,f⟩:=Option.isSome_iff_exists.1 (h j c).1;exact⟨by rw[(cOb (w:=w) (a:=⟨b,o+j,none⟩) d).trans f];rfl,(World.frozen?_of_block (w:=w) (a:=⟨b,o+j,none⟩) d).trans (h j c).2⟩
theorem Ss{base N:Nat}{v:Value}{L:List CO}:∀(l:List Value) (o:Nat) (w:Ϡ),CG w base v L->Ah w N 38->CG (w.setCells N o l) base v L
 |[],_,_,h,_=>h
 |u::l,o,w,h,hN=>Ss l (o+1) _ (OS h hN ϥ ϥ o u) (Ao hN _ _)
theorem Q8{c:Nat}{v:Value}(h:CG w base v L)(d:c<=base):CG w c v L:=by
 have a:bt.Est w base ((⟨v,217,2,L.length,ch.BF (L.map CO.pair)⟩:bt.Own1)::L.map λx=>Dx x.rv x.row):=h;exact bt.Est.mk (Nat.le_trans d (bt.Est.low a)) (λz e=>D7 (bt.Est.own a z e) d) (bt.Est.two a)
theorem step_end{w2 i a:Ϡ}{K:Nat}{T:TypeId}{j:Jn}{m:JX}{f:Nat}(e:JSt w2 i K T p x j m t L)(d:ϣ w w2)(n:ϣ i a)(c:Array Value)(o:w.heap.size<=f)(q:Ah a f 38)(l:List Value):
 stepAt w (World.setCells (a.alloc (.cells c 38)) f 0 l) j m t L/\ϣ w (World.setCells (a.alloc (.cells c 38)) f 0 l):=by
 have k:ϣ a (a.alloc (.cells c 38)):=ϯ;have g:ϣ i (a.alloc (.cells c 38)):=bT n k;have h:=Ak q k;refine⟨⟨BI DU _ _ _ (CX (e.l.below g) d.size) h,BI DU _ _ _ (CX (e.r.below g) d.size) h,Ss _ _ _ (Q8 (e.cg.below g) d.size) h⟩,below_setCells o _ _ _ ?_⟩;exact(d.trans (e.bl.mono d.size)).trans (g.mono (Nat.le_trans d.size e.bl.size))
theorem Aag(p:pl.Pln)(x:pl.PA)(s:Jn)(y:JX)(v:Ev)(i:ϡ)(l:Nat)(w:Ϡ)(ba:p.kind=1)(hw:pl.wfPlan p)(hp:pl.planAt w p x)(h:joinAt w s y)(an:wfJ s)(hv:evAt w v i):
 χ 96 #[pl.Aj p x,joinV s y,evV v i l] w λe j=>(∃I t L,e= .returned (.tuple #[joinV (stepJ p s v).2.1 I,t,vI (stepJ p s v).1])/\L.map CO.chg=(stepJ p s v).2.2/\stepAt w j (stepJ p s v).2.1 I t L)/\ϣ w j:=by
 have KC:=hIz (λ(a:Ϡ) (m:ϣ w a)=>jn.Bi p x s y a hw (pl.Ae hp m) (h.below m) an);have Y:=hIz (λ(a:Ϡ) (m:ϣ w a)=>ON p x s y v i l a hw (pl.Ae hp m) (h.below m) an (hv.below m));have Q:Ϣ (stepJ p s v=if Ba p s≠0 then(Ba p s,j0,[])else if AP p s v≠0 then(AP p s v,j0,[])else if v.kind=2 then(0,Eu p (Fi s v.side v.time),[])else(0,Iv p s v)):=rfl;have KK:Ϣ (Ba p s=0->∀a,ϣ w a->CT 154 #[pl.Aj p x,joinV s y] a λe j=> ∃K I,e= .returned (.iface (kindP p.kind) (.pointer (ϋ K)))/\JSt a j K (kindT p.kind) p x s I (vS none 0 0) []):=λhe a m=>VF p x s y a ba (h.below m) (Ee he).2.L (Ee he).2.R;have ah:=hIz (λ(a:Ϡ) (m:ϣ w a)=>Ut p x v i l a hw (pl.Ae hp m) (hv.below m));have HX:Ϣ (Ba p s=0->goodJ p s/\∃ff fm,KindK p (kindT p.kind) (kindP p.kind) ff fm):=λhe=>by
  obtain⟨Z,r⟩:=Ee he;exact⟨⟨r,λz hz=>by
   rcases List.mem_append.1 hz with hz|hz
   ·exact an.l.ents z hz
   ·exact an.r.ents z hz⟩,kinds ba⟩
 have HP:Ϣ (pl.wfPlan p/\(∀a,ϣ w a->pl.planAt a p x)/\∀a,ϣ w a->evAt a v i):=⟨hw,λa m=>pl.Ae hp m,λa m=>hv.below m⟩;obtain⟨SJ,bk⟩:=nM (stepJ p s v);rw[bk]at Q⊢;clear hw hp h an hv bk ba;obtain⟨JE,a2⟩:=nM (Ba p s);obtain⟨EE,a1⟩:=nM (AP p s v);have ca:=hV0 a2;have b0:=hV0 a1;rw[a2]at KC Q KK HX;rw[a1]at Y Q;clear a2 a1;unfold pl.Aj at KC Y KK ah⊢;rw[AY]at KC Y KK⊢;unfold evV at Y ah⊢;obtain⟨H,aw⟩:=nM v.kind;obtain⟨f,ax⟩:=nM v.side;obtain⟨g,ay⟩:=nM v.time;obtain⟨u,bb⟩:=nM v.row.length;have ab:Ϣ (v.kind=H/\v.side=f/\v.time=g/\v.row.length=u):=⟨aw,ax,ay,bb⟩;rw[aw,ax,ay,bb]at Y ah⊢;rw[aw,ax,ay]at Q;clear aw ax ay bb;go_enter func96,ntmps96;go_wp2_with fail;generalize hV:(World.alloc (World.alloc (World.alloc (World.alloc w _) _) _) _)=V;have a4:ϣ w V:=by rw[<-hV];exact((ϯ.alloc Ϧ _).alloc ϫ _).alloc ϫ _
 have W:Ϣ (boxP V w p x):=by
  subst hV;exact Af (BQ ..) ((ϯ.alloc Ϧ _).alloc ϫ _)
 have aa:Ϣ (BZ V (w+1) s y):=by
  subst hV;have:=C7 (ϊ w (Φ p x) 32) s y 38;rw[World.size_alloc]at this;exact A4 this (ϯ.alloc Ϧ _)
 have n:Ϣ (ϙ V (w+1+1) (vI H) (vI f) (vI g) (vS i u l)):=by
  subst hV;exact⟨Ϩ,Ϩ,Ϩ,Ϩ⟩
 have q:Ϣ (noJ V (w+1+1+1)/\Ah V (w+1+1+1) 38):=by
  subst hV;have Z:=Ra (ϊ (ϊ (ϊ w (Φ p x) 32) (Ψ s y) 38) #[vI H,vI f,vI g,vS i u l] 90);have r:=World.alloc_heap_new (ϊ (ϊ (ϊ w (Φ p x) 32) (Ψ s y) 38) #[vI H,vI f,vI g,vS i u l] 90) (.cells #[Ϗ,ώ,ώ,Ϗ,ώ,ώ,Ϗ,Ϗ,Ϗ] 38);rw[World.size_alloc,World.size_alloc,World.size_alloc]at Z r;exact⟨Z,_,_,r⟩
 have af:Ϣ (Ah V (w+1+1) 90):=by
  subst hV;have r:=World.alloc_heap_new (ϊ (ϊ w (Φ p x) 32) (Ψ s y) 38) (.cells #[vI H,vI f,vI g,vS i u l] 90);rw[World.size_alloc,World.size_alloc]at r;exact Ak ⟨_,_,r⟩ (bR.alloc Ϧ _)
 clear hV;refine(KC.o _ a4).mono ?_;rintro e a ⟨rfl,F⟩;have a8:ϣ w a:=bT a4 F;replace W:Ϣ (boxP a w p x):=Af W.o F;replace aa:Ϣ (BZ a (w+1) s y):=A4 aa.o F;replace n:Ϣ (ϙ a (w+1+1) (vI H) (vI f) (vI g) (vS i u l)):=⟨cLz F n.o.1,cLz F n.o.2.1,cLz F n.o.2.2.1,cLz F n.o.2.2.2⟩;replace q:Ϣ (noJ a (w+1+1+1)/\Ah a (w+1+1+1) 38):=⟨DF q.o.1 F,Ak q.o.2 F⟩;replace af:Ϣ (Ah a (w+1+1) 90):=Ak af.o F;clear F a4 KC;by_cases h0:JE=0
 ·subst h0;obtain⟨v0,v1,v2,v3,v4,v5,v6,v7,v8,v9,ao,ap,aq⟩:=W.o;obtain⟨u0,u1,u2,u3,u4,u5,u6,u7,u8⟩:=aa.o;obtain⟨e0,e1,e2,e3⟩:=n.o;go_wp2_with fail;refine(Y.o _ a8).mono ?_;rintro e c ⟨rfl,G⟩;have P:ϣ w c:=bT a8 G;replace W:Ϣ (boxP c w p x):=Af W.o G;replace aa:Ϣ (BZ c (w+1) s y):=A4 aa.o G;replace n:Ϣ (ϙ c (w+1+1) (vI H) (vI f) (vI g) (vS i u l)):=⟨cLz G n.o.1,cLz G n.o.2.1,cLz G n.o.2.2.1,cLz G n.o.2.2.2⟩;replace q:Ϣ (noJ c (w+1+1+1)/\Ah c (w+1+1+1) 38):=⟨DF q.o.1 G,Ak q.o.2 G⟩;replace af:Ϣ (Ah c (w+1+1) 90):=Ak af.o G;clear G Y v0 v1 v2 v3 v4 v5 v6 v7 v8 v9 ao ap aq u0 u1 u2 u3 u4 u5 u6 u7 u8 e0 e1 e2 e3;by_cases Z:EE=0
  ·subst Z;obtain⟨v0,v1,v2,v3,v4,v5,v6,v7,v8,v9,ao,ap,aq⟩:=W.o;obtain⟨u0,u1,u2,u3,u4,u5,u6,u7,u8⟩:=aa.o;go_wp2_with fail;refine(KK.o trivial _ P).mono ?_;rintro e A ⟨K,y3,rfl,ak⟩;obtain⟨bo,ff,fm,B⟩:=HX.o trivial;generalize kindT p.kind=T at ak B;generalize kindP p.kind=kp at B⊢;have ar:=hV0 ak;have o:=hV0 B;have a0:=hV0 bo;have O:=ak.bl;have b4:ϣ w A:=bT P O;have bc:Ϣ (ϙ A (w+1+1) (vI H) (vI f) (vI g) (vS i u l)):=⟨cLz O n.o.1,cLz O n.o.2.1,cLz O n.o.2.2.1,cLz O n.o.2.2.2⟩;have bz:Ϣ (boxP A w p x):=Af W.o O;have R:Ϣ (noJ A (w+1+1+1)/\Ah A (w+1+1+1) 38):=⟨DF q.o.1 O,Ak q.o.2 O⟩;have b9:Ϣ (Ah A (w+1+1) 90):=Ak af.o O;have ci:=B.go K;have cg:=B.fo K;have cm:=B.me K;have ck:=B.ke K;have cl:=B.ma K;have cn:=B.ni K;have cd:=B.ef;have cf:=B.em;have bd:=hV0 b0.o;have cb:Ϣ (c.heap.size<=K):=ak.up;have cc:(w.heap.size+1+1+1)<c.heap.size:=Abw q.o.1;clear ak B bo v0 v1 v2 v3 v4 v5 v6 v7 v8 v9 ao ap aq u0 u1 u2 u3 u4 u5 u6 u7 u8 KK HX;by_cases r:H=2
   ·subst r;have br:=X5 bd.o ab.o.1;have k:Ϣ (SJ=(0,Eu p (Fi s f g),[])):=by show _=_;rw[Q.o,if_neg Ϧ,if_neg Ϧ,if_pos rfl]
    have b1:Ϣ (goodJ p (Fi s f g)):=X3 a0.o f g (by rw[<-ab.o.2.2.1];exact br.2.1);obtain⟨d,ac⟩:=nM (Eu p (Fi s f g));have b3:Ϣ (CT 339 #[ω K,vI f,vI g] A λe j=>e= .returned (.tuple #[])/\JSt c j K T p x (Fi s f g) y3 (vS none 0 0) []/\Cy T A j):=(Acs K p x s y3 _ f g A ar.o.box).mono (by
     rintro e j ⟨rfl,rfl⟩;exact⟨rfl,Ad2 ar.o o.o.calm f g,Fu ar.o.ty _ _⟩)
    have b2:Ϣ (∀w4,JSt c w4 K T p x (Fi s f g) y3 (vS none 0 0) []->CT ff #[ω K] w4 λe j=>e= .returned (.tuple #[])/\∃I,JSt c j K T p x d I (vS none 0 0) []/\Cy T w4 j):=λw4 hj=>by
     rw[<-ac];exact o.o.cf K x _ y3 _ [] c w4 hj HP.o.1 (HP.o.2.1 c P) b1.o
    rw[ac]at k;obtain⟨e0,e1,e2,e3⟩:=bc.o;clear br ac;go_wp2_with (first
     |(go_at_call 339;refine b3.o.mono ?_;rintro e w4 ⟨rfl,b5,b6⟩)
     |(go_at_fn ff;refine(b2.o _ b5).mono ?_;rintro e w5 ⟨rfl,C,ad,av⟩;have ag:Ϣ (Cy T A w5):=b6.trans av)
     |(go_at_call 341;refine(Aaf ad.box ad.cg).mono ?_;rintro e w6 ⟨rfl,a5⟩;rw[AY];have a3:Ah w6 (w.heap.size+1+1+1) 38:=Ak (Aq R.o.2 (ag.o.2 _ _ R.o.2 o.o.cj.symm ϥ ϥ)) a5;have am:(w6.alloc (.cells (Ψ d C) 38)).there (w.heap.size+1+1+1) 0 9:=Ci (Ci (Fl R.o.1 (ag.o.2 _ _ R.o.2 o.o.cj.symm ϥ ϥ)) a5) ϯ)
     |((with_reducible refine wpList_store_mid ?_ 38 (.tmp 6) (.tmp 61) ?_ (w.heap.size+1+1+1) 0 (Ψ d C) ?_ ?_ ?_ ?_ ?_ ?_);exact rfl;exact rfl;exact rfl;exact rfl;exact am;exact Lc;exact ϭ))
    have X:=step_end ad P a5 (Ψ d C) (show w.heap.size<=(w.heap.size+1+1+1) by omega) a3 (Γ d C);have E:Ϣ ((World.setCells (ϊ w6 (Ψ d C) 38) (w.heap.size+1+1+1) 0 (Γ d C)).rangeAt (w.heap.size+1+1+1) 0 (Γ d C)):=Ie am rfl;generalize (World.setCells (ϊ w6 (Ψ d C) 38) (w.heap.size+1+1+1) 0 (Γ d C))=W' at E X⊢;obtain⟨z0,z1,z2,z3,z4,z5,z6,z7,z8⟩:=rg9 E.o;exact bodyPost_ret (v:=.tuple #[.agg (Ψ d C),ώ,Ϗ]) (by simp[results,results96,go_sem,z0,z1,z2,z3,z4,z5,z6,z7,z8]) rfl ⟨⟨C,ώ,[],by rw[k.o];rfl,by rw[k.o];rfl,by rw[k.o];exact X.1⟩,X.2⟩
   ·have HC:Ϣ (comeJ p s v):=X4 bd.o (by rw[ab.o.1];exact r);obtain⟨bp,bn⟩:=XJ a0.o HC.o;have k:Ϣ (SJ=(0,Fc p (LZ p s v) v (Rv p s v),Ps p s v)):=by show _=_;rw[Q.o,if_neg Ϧ,if_neg Ϧ,if_neg r,Xo]
    have cj:(H==2)=false:=by simpa using r
    have az:Ϣ (∀a,ϣ w a->CT 155 #[pl.Aj p x,.agg #[vI H,vI f,vI g,vS i u l]] a (ψ a (El p v i l))):=ah.o;have aj:Ϣ (∀a,ϣ A a->CT fm #[ω K,El p v i l] a λe j=>e= .returned (.bool (Rv p s v))/\∃I t' L',JSt c j K T p x (LZ p s v) I t' L'/\L'.map CO.chg=Ps p s v/\Cy T a j):=λa m=>o.o.cm K x s y3 v i l c a (ar.o.below m) a0.o HC.o (HP.o.2.2 c P).row;have ai:=hIz (λ(a:Ϡ) I t' L' (hj:JSt c a K T p x (LZ p s v) I t' L')=>C2 K T p x (LZ p s v) I t' L' v i l (Rv p s v) c a hj o.o.calm HP.o.1 (HP.o.2.1 c P) bp bn (HP.o.2.2 c P));obtain⟨MB,bh⟩:=nM (Rv p s v);obtain⟨MJ,bi⟩:=nM (LZ p s v);obtain⟨MT,bj⟩:=nM (Ps p s v);rw[bh,bi]at aj ai k;rw[bj]at aj k;obtain⟨d,ac⟩:=nM (Fc p MJ v MB);rw[ac]at ai k;unfold El at az aj ai;obtain⟨kb,h3⟩:=nM (pl.A6 p v.side v.row);obtain⟨kh,h4⟩:=nM (pl.hasB p v.side v.row);rw[h3,h4,ab.o.2.1,ab.o.2.2.1,ab.o.2.2.2]at az aj ai;obtain⟨e0,e1,e2,e3⟩:=bc.o;obtain⟨v0,v1,v2,v3,v4,v5,v6,v7,v8,v9,ao,ap,aq⟩:=bz.o;clear bp bn r bh bi bj ac h3 h4 ah;go_upto_region 12 with(go_at_call 155;refine(az.o _ b4).mono ?_;rintro e wc ⟨rfl,a7⟩);generalize U:(wc.alloc (.cells #[vI f,vI g,vS i u l,.string kb,.bool kh] 208))=M at *;have bm:ϣ A M:=by subst U;exact a7.alloc a7.size _
    have ae:Ϣ (Ah M wc 208):=by subst U;exact⟨_,_,World.alloc_heap_new wc _⟩
    have bs:Δ M wc 0 (vI f):=by subst U;go_simp
    have bu:Δ M wc 1 (vI g):=by subst U;go_simp
    have bv:Δ M wc 2 (vS i u l):=by subst U;go_simp
    have bw:Δ M wc 3 (.string kb):=by subst U;go_simp
    have bx:Δ M wc 4 (.bool kh):=by subst U;go_simp
    clear U;have au:Ϣ (∀j,Cy T M j->ϖ j wc (vI f) (vI g) (vS i u l) (.string kb) (.bool kh)):=λj al=>⟨al.cell ae.o o.o.co.symm ϥ ϥ bs,al.cell ae.o o.o.co.symm ϥ ϥ bu,al.cell ae.o o.o.co.symm ϥ ϥ bv,al.cell ae.o o.o.co.symm ϥ ϥ bw,al.cell ae.o o.o.co.symm ϥ ϥ bx⟩;clear v0 v1 v2 v3 v4 v5 v6 v7 v8 v9 ao ap aq e0 e1 e2 e3 a7;refine gr.Dm 9 rfl ϧ (S:=λj=>ϖ j wc (vI f) (vI g) (vS i u l) (.string kb) (.bool kh)) (au.o _ (Bl bR.drew)) (λN=>?_);refine tkz 0 47 N ?_;refine tkz 1 48 N ?_;refine tkz 2 49 N ?_;refine tkz 3 50 N ?_;refine tkz 5 52 N ?_;refine tkz 6 53 N ?_;refine tkz 7 54 N ?_;refine rD 4 λK hK=>?_;go_simp
    go_at_fn fm
    refine(aj.o _ bm.drew).mono ?_;rintro e w5 ⟨rfl,C,t5,L5,ad,b7,av⟩;have be:Ϣ (Cy T M w5):=(Bl bR.drew).trans av;go_wp2_with fail;refine hK.out _ _ (au.o _ be.o) (λN=>?_);clear hK K
    try simp only[Act.put,sI,sZ,sSz]
    refine rD 8 λK hK=>?_;go_simp;go_at_call 340;refine(ai.o _ _ _ _ ad).mono ?_;rintro e w6 ⟨rfl,J,a9,bq⟩;have bg:Ϣ (Cy T M w6):=be.o.trans bq;go_wp2_with fail;refine hK.out _ _ (au.o _ bg.o) (λN=>?_);clear hK K;refine wpAnyH_done ϧ ?_ _;have ag:Ϣ (Cy T A w6):=(Bl bm).trans bg.o;clear ad av bq au bs bu bv bw bx N;go_wp2_with (first
     |(go_at_call 341;refine(Aaf a9.box a9.cg).mono ?_;rintro e w7 ⟨rfl,a6⟩;rw[AY];have a3:Ah w7 (w.heap.size+1+1+1) 38:=Ak (Aq R.o.2 (ag.o.2 _ _ R.o.2 o.o.cj.symm ϥ ϥ)) a6;have am:(w7.alloc (.cells (Ψ d J) 38)).there (w.heap.size+1+1+1) 0 9:=Ci (Ci (Fl R.o.1 (ag.o.2 _ _ R.o.2 o.o.cj.symm ϥ ϥ)) a6) ϯ)
     |((with_reducible refine wpList_store_mid ?_ 38 (.tmp 6) (.tmp 61) ?_ (w.heap.size+1+1+1) 0 (Ψ d J) ?_ ?_ ?_ ?_ ?_ ?_);exact rfl;exact rfl;exact rfl;exact rfl;exact am;exact Lc;exact ϭ))
    have X:=step_end a9 P a6 (Ψ d J) (show w.heap.size<=(w.heap.size+1+1+1) by omega) a3 (Γ d J);have E:Ϣ ((World.setCells (ϊ w7 (Ψ d J) 38) (w.heap.size+1+1+1) 0 (Γ d J)).rangeAt (w.heap.size+1+1+1) 0 (Γ d J)):=Ie am rfl;generalize (World.setCells (ϊ w7 (Ψ d J) 38) (w.heap.size+1+1+1) 0 (Γ d J))=W' at E X⊢;obtain⟨z0,z1,z2,z3,z4,z5,z6,z7,z8⟩:=rg9 E.o;exact bodyPost_ret (v:=.tuple #[.agg (Ψ d J),t5,Ϗ]) (by simp[results,results96,go_sem,z0,z1,z2,z3,z4,z5,z6,z7,z8]) rfl ⟨⟨J,t5,L5,by rw[k.o];rfl,by rw[k.o];exact b7,by rw[k.o];exact X.1⟩,X.2⟩
  ·have b8:(EE !=0)=true:=by simpa using Z
   have k:Ϣ (SJ=(EE,j0,[])):=by show _=_;rw[Q.o,if_neg Ϧ,if_pos Z]
   have E:Ϣ ((World.setCells c (w.heap.size+1+1+1) 0 [Ϗ,ώ,ώ,Ϗ,ώ,ώ,Ϗ,Ϗ,Ϗ]).rangeAt (w.heap.size+1+1+1) 0 [Ϗ,ώ,ώ,Ϗ,ώ,ώ,Ϗ,Ϗ,Ϗ]):=Ie q.o.1 rfl;have D:Ϣ (ϣ w (World.setCells c (w.heap.size+1+1+1) 0 [Ϗ,ώ,ώ,Ϗ,ώ,ώ,Ϗ,Ϗ,Ϗ])):=below_setCells Ϥ _ 0 _ P;go_wp2_with ((with_reducible refine wpList_store_mid ?_ 38 (.tmp 6) (.tmp 28) ?_ (w.heap.size+1+1+1) 0 #[Ϗ,ώ,ώ,Ϗ,ώ,ώ,Ϗ,Ϗ,Ϗ] ?_ ?_ ?_ ?_ ?_ ?_);exact rfl;exact rfl;exact rfl;exact rfl;exact q.o.1;exact Lc;exact ϭ);generalize (World.setCells c (w.heap.size+1+1+1) 0 [Ϗ,ώ,ώ,Ϗ,ώ,ώ,Ϗ,Ϗ,Ϗ])=W' at E D⊢;obtain⟨z0,z1,z2,z3,z4,z5,z6,z7,z8⟩:=rg9 E.o;exact bodyPost_ret (v:=.tuple #[.agg #[Ϗ,ώ,ώ,Ϗ,ώ,ώ,Ϗ,Ϗ,Ϗ],ώ,vI EE]) (by simp[results,results96,go_sem,z0,z1,z2,z3,z4,z5,z6,z7,z8]) rfl ⟨⟨jx0,ώ,[],by rw[k.o];rfl,by rw[k.o];rfl,by rw[k.o];exact⟨Eo (E9 D.o.size),Eo (E9 D.o.size),CG.start D.o.size⟩⟩,D.o⟩
 ·have b8:(JE !=0)=true:=by simpa using h0
  have k:Ϣ (SJ=(JE,j0,[])):=by show _=_;rw[Q.o,if_pos h0]
  have E:Ϣ ((World.setCells a (w.heap.size+1+1+1) 0 [Ϗ,ώ,ώ,Ϗ,ώ,ώ,Ϗ,Ϗ,Ϗ]).rangeAt (w.heap.size+1+1+1) 0 [Ϗ,ώ,ώ,Ϗ,ώ,ώ,Ϗ,Ϗ,Ϗ]):=Ie q.o.1 rfl;have D:Ϣ (ϣ w (World.setCells a (w.heap.size+1+1+1) 0 [Ϗ,ώ,ώ,Ϗ,ώ,ώ,Ϗ,Ϗ,Ϗ])):=below_setCells Ϥ _ 0 _ a8;go_wp2_with ((with_reducible refine wpList_store_mid ?_ 38 (.tmp 6) (.tmp 20) ?_ (w.heap.size+1+1+1) 0 #[Ϗ,ώ,ώ,Ϗ,ώ,ώ,Ϗ,Ϗ,Ϗ] ?_ ?_ ?_ ?_ ?_ ?_);exact rfl;exact rfl;exact rfl;exact rfl;exact q.o.1;exact Lc;exact ϭ);generalize (World.setCells a (w.heap.size+1+1+1) 0 [Ϗ,ώ,ώ,Ϗ,ώ,ώ,Ϗ,Ϗ,Ϗ])=W' at E D⊢;obtain⟨z0,z1,z2,z3,z4,z5,z6,z7,z8⟩:=rg9 E.o;exact bodyPost_ret (v:=.tuple #[.agg #[Ϗ,ώ,ώ,Ϗ,ώ,ώ,Ϗ,Ϗ,Ϗ],ώ,vI JE]) (by simp[results,results96,go_sem,z0,z1,z2,z3,z4,z5,z6,z7,z8]) rfl ⟨⟨jx0,ώ,[],by rw[k.o];rfl,by rw[k.o];rfl,by rw[k.o];exact⟨Eo (E9 D.o.size),Eo (E9 D.o.size),CG.start D.o.size⟩⟩,D.o⟩
end jn
end Go.Proofs.YtfkihidbnfkbaaaGreatDoor
