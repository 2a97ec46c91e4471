import Derived.Test.YtdohnkkbkfhphaaGreatPw31
import Derived.Test.YtdohnkkbkfhphaaGreatPw32
set_option linter.all false
set_option maxHeartbeats 8000000
set_option maxRecDepth 100000
open Go.ChangeShapes Go.WideShapes Go.ChangeAt Go.RowKit
namespace Go.Proofs.YtdohnkkbkfhphaaGreat
open Go.Proofs.Tryz
namespace jn
open vl bf
attribute [local go_sem] Oper.semAt_some
variable {b base : Nat} {p : pl.Pln} {x : pl.PA} {s : Jn} {t : Value} {L : List CO} {w : ϛ}
structure stepAt(w0 w':World)(s:Jn)(y:JX)(t:Value)(L:List CO):Prop where
 l:OB w' w0.heap.size y.l s.L
 r:OB w' w0.heap.size y.r s.R
 cg:CG w' w0.heap.size t L
theorem YU{y:JX}(h:boxC w b p x s y t)(a:CG w base t L):
 η 257 #[μ b] w (θ w (.tuple #[joinV s y,t])):=by
 have e:=(CG.chgs a).1;rw[e]at h⊢;exact YG b p x s y _ _ _ w h
theorem WQ{v:Ev}(c:goodJ p s)(a:comeJ p s v):goodJ p (Hi p s v)/\comeJ p (Hi p s v) v:=by
 unfold Hi;split
 ·split
  ·exact⟨c,a⟩
  ·have e:bufOf s 1=s.L:=rfl;have d:=Kx c 1 ((Cq p s v).map (·.seq));have f:=Ky a 1 ((Cq p s v).map (·.seq));rw[e]at d f;exact⟨d,f⟩
 ·exact⟨Kx c _ _,Ky a _ _⟩
theorem GV{e:ϛ}{o n:Nat}(h:w.there b o n)(d:e.heap[b]? =w.heap[b]?):e.there b o n:=λj c=>by
 obtain⟨u,f⟩:=Option.isSome_iff_exists.1 (h j c).1;exact⟨by rw[(cOb (w:=w) (a:=⟨b,o+j,none⟩) d).trans f];rfl,(World.frozen?_of_block (w:=w) (a:=⟨b,o+j,none⟩) d).trans (h j c).2⟩
theorem F4{base N:Nat}{v:Value}{L:List CO}:∀(l:List Value) (o:Nat) (w:ϛ),CG w base v L->An w N 31->CG (w.setCells N o l) base v L
 |[],_,_,h,_=>h
 |u::l,o,w,h,hN=>F4 l (o+1) _ (QG h hN Ϡ Ϡ o u) (Ao hN _ _)
theorem Ds{base':Nat}{v:Value}(h:CG w base v L)(c:base'<=base):CG w base' v L:=by
 have a:bt.Est w base ((⟨v,55,2,L.length,ch.Ba (L.map CO.pair)⟩:bt.Own1)::L.map λx=>C7 x.rv x.row):=h;exact bt.Est.mk (Nat.le_trans c (bt.Est.low a)) (λz d=>CK (bt.Est.own a z d) c) (bt.Est.two a)
theorem step_end{w2 i a:ϛ}{K:Nat}{T:TypeId}{j:Jn}{m:JX}{f:Nat}(e:JSt w2 i K T p x j m t L)(d:Ϟ w w2)(n:Ϟ i a)(c:Array Value)(o:w.heap.size<=f)(q:An a f 31)(l:List Value):
 stepAt w (World.setCells (a.alloc (.cells c 31)) f 0 l) j m t L/\Ϟ w (World.setCells (a.alloc (.cells c 31)) f 0 l):=by
 have k:Ϟ a (a.alloc (.cells c 31)):=Ϫ;have g:Ϟ i (a.alloc (.cells c 31)):=bT n k;have h:=Ae q k;refine⟨⟨Bm Dn _ _ _ (A5 (e.l.below g) d.size) h,Bm Dn _ _ _ (A5 (e.r.below g) d.size) h,F4 _ _ _ (Ds (e.cg.below g) d.size) h⟩,below_setCells o _ _ _ ?_⟩;exact(d.trans (e.bl.mono d.size)).trans (g.mono (Nat.le_trans d.size e.bl.size))
theorem Ri(p:pl.Pln)(x:pl.PA)(s:Jn)(y:JX)(v:Ev)(g:Ϝ)(i:Nat)(w:ϛ)(hw:pl.wfPlan p)(hp:pl.planAt w p x)(h:joinAt w s y)(au:wfJ s)(hv:evAt w v g):
 η 16 #[pl.Ak p x,joinV s y,evV v g i] w λe m=>(∃M t L,e= .returned (.tuple #[joinV (stepJ p s v).2.1 M,t,vI (stepJ p s v).1])/\L.map CO.chg=(stepJ p s v).2.2/\stepAt w m (stepJ p s v).2.1 M t L)/\Ϟ w m:=by
 have KC:=hIz (λ(a:ϛ) (o:Ϟ w a)=>jn.Ce p x s y a hw (pl.Aj hp o) (h.below o) au);have KE:=hIz (λ(a:ϛ) (o:Ϟ w a)=>ND p x s y v g i a hw (pl.Aj hp o) (h.below o) au (hv.below o));have HS:ϝ (stepJ p s v=if B6 p s≠0 then(B6 p s,j0,[])else if AB p s v≠0 then(AB p s v,j0,[])else if v.kind=2 then(0,Bu p (BS s v.side v.time),[])else(0,CB p s v)):=rfl;have KK:ϝ (B6 p s=0->∀a,Ϟ w a->CT 48 #[pl.Ak p x,joinV s y] a λe m=> ∃K M,e= .returned (.iface (kindP p.kind) (.pointer (τ K)))/\JSt a m K (kindT p.kind) p x s M (vS none 0 0) []):=λhe a o=>Uq p x s y a (h.below o) (Cd he).2.L (Cd he).2.R;have am:=hIz (λ(a:ϛ) (o:Ϟ w a)=>Sa p x v g i a hw (pl.Aj hp o) (hv.below o));have HX:ϝ (B6 p s=0->goodJ p s/\∃ff fm,KindK p (kindT p.kind) (kindP p.kind) ff fm):=λhe=>by
  obtain⟨h1,A⟩:=Cd he;exact⟨⟨A,λz hz=>by
   rcases List.mem_append.1 hz with hz|hz
   ·exact au.l.ents z hz
   ·exact au.r.ents z hz⟩,kinds h1⟩
 have HP:ϝ (pl.wfPlan p/\(∀a,Ϟ w a->pl.planAt a p x)/\∀a,Ϟ w a->evAt a v g):=⟨hw,λa o=>pl.Aj hp o,λa o=>hv.below o⟩;obtain⟨SJ,bp⟩:=nM (stepJ p s v);rw[bp]at HS⊢;clear hw hp h au hv bp;obtain⟨JE,a7⟩:=nM (B6 p s);obtain⟨EE,a6⟩:=nM (AB p s v);have cf:=hV0 a7;have b4:=hV0 a6;rw[a7]at KC HS KK HX;rw[a6]at KE HS;clear a7 a6;unfold pl.Ak at KC KE KK am⊢;rw[A0]at KC KE KK⊢;unfold evV at KE am⊢;obtain⟨I,a1⟩:=nM v.kind;obtain⟨d,a2⟩:=nM v.side;obtain⟨f,a3⟩:=nM v.time;obtain⟨l,bg⟩:=nM v.row.length;have ag:ϝ (v.kind=I/\v.side=d/\v.time=f/\v.row.length=l):=⟨a1,a2,a3,bg⟩;rw[a1,a2,a3,bg]at KE am⊢;rw[a1,a2,a3]at HS;clear a1 a2 a3 bg;go_enter func16,ntmps16;go_wp2_with fail;generalize hV:(World.alloc (World.alloc (World.alloc (World.alloc w _) _) _) _)=V;have a9:Ϟ w V:=by rw[<-hV];exact((Ϫ.alloc ϡ _).alloc Ϧ _).alloc Ϧ _
 have HB:ϝ (boxP V w p x):=by
  subst hV;exact Ad (BL ..) ((Ϫ.alloc ϡ _).alloc Ϧ _)
 have af:ϝ (AK V (w+1) s y):=by
  subst hV;have:=AL (ξ w (Φ p x) 25) s y 31;rw[World.size_alloc]at this;exact Ah this (Ϫ.alloc ϡ _)
 have q:ϝ (ϐ V (w+1+1) (vI I) (vI d) (vI f) (vS g l i)):=by
  subst hV;exact⟨ϣ,ϣ,ϣ,ϣ⟩
 have u:ϝ (noJ V (w+1+1+1)/\An V (w+1+1+1) 31):=by
  subst hV;have h1:=EP (ξ (ξ (ξ w (Φ p x) 25) (Ψ s y) 31) #[vI I,vI d,vI f,vS g l i] 43);have A:=World.alloc_heap_new (ξ (ξ (ξ w (Φ p x) 25) (Ψ s y) 31) #[vI I,vI d,vI f,vS g l i] 43) (.cells #[ω,ψ,ψ,ω,ψ,ψ,ω,ω,ω] 31);rw[World.size_alloc,World.size_alloc,World.size_alloc]at h1 A;exact⟨h1,_,_,A⟩
 have ak:ϝ (An V (w+1+1) 43):=by
  subst hV;have A:=World.alloc_heap_new (ξ (ξ w (Φ p x) 25) (Ψ s y) 31) (.cells #[vI I,vI d,vI f,vS g l i] 43);rw[World.size_alloc,World.size_alloc]at A;exact Ae ⟨_,_,A⟩ (bR.alloc ϡ _)
 clear hV;refine(KC.o _ a9).mono ?_;rintro e a ⟨rfl,F⟩;have bd:Ϟ w a:=bT a9 F;replace HB:ϝ (boxP a w p x):=Ad HB.o F;replace af:ϝ (AK a (w+1) s y):=Ah af.o F;replace q:ϝ (ϐ a (w+1+1) (vI I) (vI d) (vI f) (vS g l i)):=⟨cLz F q.o.1,cLz F q.o.2.1,cLz F q.o.2.2.1,cLz F q.o.2.2.2⟩;replace u:ϝ (noJ a (w+1+1+1)/\An a (w+1+1+1) 31):=⟨Ay u.o.1 F,Ae u.o.2 F⟩;replace ak:ϝ (An a (w+1+1) 43):=Ae ak.o F;clear F a9 KC;by_cases h0:JE=0
 ·subst h0;obtain⟨v0,v1,v2,v3,v4,v5,v6,v7,v8,v9,av,aw,ax⟩:=HB.o;obtain⟨u0,u1,u2,u3,u4,u5,u6,u7,u8⟩:=af.o;obtain⟨e0,e1,e2,e3⟩:=q.o;go_wp2_with fail;refine(KE.o _ bd).mono ?_;rintro e j ⟨rfl,G⟩;have ac:Ϟ w j:=bT bd G;replace HB:ϝ (boxP j w p x):=Ad HB.o G;replace af:ϝ (AK j (w+1) s y):=Ah af.o G;replace q:ϝ (ϐ j (w+1+1) (vI I) (vI d) (vI f) (vS g l i)):=⟨cLz G q.o.1,cLz G q.o.2.1,cLz G q.o.2.2.1,cLz G q.o.2.2.2⟩;replace u:ϝ (noJ j (w+1+1+1)/\An j (w+1+1+1) 31):=⟨Ay u.o.1 G,Ae u.o.2 G⟩;replace ak:ϝ (An j (w+1+1) 43):=Ae ak.o G;clear G KE v0 v1 v2 v3 v4 v5 v6 v7 v8 v9 av aw ax u0 u1 u2 u3 u4 u5 u6 u7 u8 e0 e1 e2 e3;by_cases h1:EE=0
  ·subst h1;obtain⟨v0,v1,v2,v3,v4,v5,v6,v7,v8,v9,av,aw,ax⟩:=HB.o;obtain⟨u0,u1,u2,u3,u4,u5,u6,u7,u8⟩:=af.o;go_wp2_with fail;refine(KK.o trivial _ ac).mono ?_;rintro e B ⟨K,y3,rfl,ap⟩;obtain⟨bs,ff,fm,C⟩:=HX.o trivial;generalize kindT p.kind=T at ap C;generalize kindP p.kind=kp at C⊢;have ay:=hV0 ap;have r:=hV0 C;have a5:=hV0 bs;have ab:=ap.bl;have b8:Ϟ w B:=bT ac ab;have bh:ϝ (ϐ B (w+1+1) (vI I) (vI d) (vI f) (vS g l i)):=⟨cLz ab q.o.1,cLz ab q.o.2.1,cLz ab q.o.2.2.1,cLz ab q.o.2.2.2⟩;have b3:ϝ (boxP B w p x):=Ad HB.o ab;have ad:ϝ (noJ B (w+1+1+1)/\An B (w+1+1+1) 31):=⟨Ay u.o.1 ab,Ae u.o.2 ab⟩;have cd:ϝ (An B (w+1+1) 43):=Ae ak.o ab;have cm:=C.go K;have cl:=C.fo K;have cq:=C.me K;have co:=C.ke K;have cp:=C.ma K;have cr:=C.ni K;have cj:=C.ef;have ck:=C.em;have bi:=hV0 b4.o;have cg:ϝ (j.heap.size<=K):=ap.up;have ci:(w.heap.size+1+1+1)<j.heap.size:=TI u.o.1;clear ap C bs v0 v1 v2 v3 v4 v5 v6 v7 v8 v9 av aw ax u0 u1 u2 u3 u4 u5 u6 u7 u8 KK HX;by_cases A:I=2
   ·subst A;have bw:=QJ bi.o ag.o.1;have n:ϝ (SJ=(0,Bu p (BS s d f),[])):=by show _=_;rw[HS.o,if_neg ϡ,if_neg ϡ,if_pos rfl]
    have b5:ϝ (goodJ p (BS s d f)):=QI a5.o d f (by rw[<-ag.o.2.2.1];exact bw.2.1);obtain⟨k,ah⟩:=nM (Bu p (BS s d f));have b7:ϝ (CT 255 #[μ K,vI d,vI f] B λe m=>e= .returned (.tuple #[])/\JSt j m K T p x (BS s d f) y3 (vS none 0 0) []/\BQ T B m):=(ZK K p x s y3 _ d f B ay.o.box).mono (by
     rintro e m ⟨rfl,rfl⟩;exact⟨rfl,Abc ay.o r.o.calm d f,EF ay.o.ty _ _⟩)
    have b6:ϝ (∀w4,JSt j w4 K T p x (BS s d f) y3 (vS none 0 0) []->CT ff #[μ K] w4 λe m=>e= .returned (.tuple #[])/\∃M,JSt j m K T p x k M (vS none 0 0) []/\BQ T w4 m):=λw4 hj=>by
     rw[<-ah];exact r.o.cf K x _ y3 _ [] j w4 hj HP.o.1 (HP.o.2.1 j ac) b5.o
    rw[ah]at n;obtain⟨e0,e1,e2,e3⟩:=bh.o;clear bw ah;go_wp2_with (first
     |(go_at_call 255;refine b7.o.mono ?_;rintro e w4 ⟨rfl,b9,ca⟩)
     |(go_at_fn ff;refine(b6.o _ b9).mono ?_;rintro e w5 ⟨rfl,D,ai,a0⟩;have al:ϝ (BQ T B w5):=ca.trans a0)
     |(go_at_call 257;refine(YU ai.box ai.cg).mono ?_;rintro e w6 ⟨rfl,ba⟩;rw[A0];have a8:An w6 (w.heap.size+1+1+1) 31:=Ae (AW ad.o.2 (al.o.2 _ _ ad.o.2 r.o.cj.symm Ϡ Ϡ)) ba;have ar:(w6.alloc (.cells (Ψ k D) 31)).there (w.heap.size+1+1+1) 0 9:=Cu (Cu (GV ad.o.1 (al.o.2 _ _ ad.o.2 r.o.cj.symm Ϡ Ϡ)) ba) Ϫ)
     |((with_reducible refine wpList_store_mid ?_ 31 (.tmp 6) (.tmp 61) ?_ (w.heap.size+1+1+1) 0 (Ψ k D) ?_ ?_ ?_ ?_ ?_ ?_);exact rfl;exact rfl;exact rfl;exact rfl;exact ar;exact BU;exact Ϩ))
    have ae:=step_end ai ac ba (Ψ k D) (show w.heap.size<=(w.heap.size+1+1+1) by omega) a8 (Γ k D);have c:ϝ ((World.setCells (ξ w6 (Ψ k D) 31) (w.heap.size+1+1+1) 0 (Γ k D)).rangeAt (w.heap.size+1+1+1) 0 (Γ k D)):=CX ar rfl;generalize (World.setCells (ξ w6 (Ψ k D) 31) (w.heap.size+1+1+1) 0 (Γ k D))=W' at c ae⊢;have O:=c.o 0 _ rfl;have P:=c.o 1 _ rfl;have Q:=c.o 2 _ rfl;have R:=c.o 3 _ rfl;have U:=c.o 4 _ rfl;have W:=c.o 5 _ rfl;have X:=c.o 6 _ rfl;have Y:=c.o 7 _ rfl;have Z:=c.o 8 _ rfl;simp only[Nat.zero_add]at O P Q R U W X Y Z;exact bodyPost_ret (v:=.tuple #[.agg (Ψ k D),ψ,ω]) (by simp[results,results16,go_sem,O,P,Q,R,U,W,X,Y,Z]) rfl ⟨⟨D,ψ,[],by rw[n.o];rfl,by rw[n.o];rfl,by rw[n.o];exact ae.1⟩,ae.2⟩
   ·have HC:ϝ (comeJ p s v):=Mx bi.o (by rw[ag.o.1];exact A);obtain⟨bu,br⟩:=WQ a5.o HC.o;have n:ϝ (SJ=(0,Er p (Hi p s v) v (metB p s v),FH p s v)):=by show _=_;rw[HS.o,if_neg ϡ,if_neg ϡ,if_neg A,Ku]
    have cn:(I==2)=false:=by simpa using A
    have a4:ϝ (∀a,Ϟ w a->CT 49 #[pl.Ak p x,.agg #[vI I,vI d,vI f,vS g l i]] a (θ a (Cg p v g i))):=am.o;have ao:ϝ (∀a,Ϟ B a->CT fm #[μ K,Cg p v g i] a λe m=>e= .returned (.bool (metB p s v))/\∃M t' L',JSt j m K T p x (Hi p s v) M t' L'/\L'.map CO.chg=FH p s v/\BQ T a m):=λa o=>r.o.cm K x s y3 v g i j a (ay.o.below o) a5.o HC.o (HP.o.2.2 j ac).row;have an:=hIz (λ(a:ϛ) M t' L' (hj:JSt j a K T p x (Hi p s v) M t' L')=>CI K T p x (Hi p s v) M t' L' v g i (metB p s v) j a hj r.o.calm HP.o.1 (HP.o.2.1 j ac) bu br (HP.o.2.2 j ac));obtain⟨MB,bm⟩:=nM (metB p s v);obtain⟨MJ,bn⟩:=nM (Hi p s v);obtain⟨MT,bo⟩:=nM (FH p s v);rw[bm,bn]at ao an n;rw[bo]at ao n;obtain⟨k,ah⟩:=nM (Er p MJ v MB);rw[ah]at an n;unfold Cg at a4 ao an;obtain⟨H,h3⟩:=nM (pl.Ap p v.side v.row);obtain⟨J,h4⟩:=nM (pl.hasB p v.side v.row);rw[h3,h4,ag.o.2.1,ag.o.2.2.1,ag.o.2.2.2]at a4 ao an;obtain⟨e0,e1,e2,e3⟩:=bh.o;obtain⟨v0,v1,v2,v3,v4,v5,v6,v7,v8,v9,av,aw,ax⟩:=b3.o;clear bu br A bm bn bo ah h3 h4 am;go_upto_region 12 with(go_at_call 49;refine(a4.o _ b8).mono ?_;rintro e wc ⟨rfl,bc⟩);have bq:Ϟ B (ξ wc #[vI d,vI f,vS g l i,.string H,.bool J] 92):=bc.alloc bc.size _;have aj:ϝ (An (ξ wc #[vI d,vI f,vS g l i,.string H,.bool J] 92) wc.heap.size 92):=⟨_,_,World.alloc_heap_new wc _⟩;have bx:Δ (ξ wc #[vI d,vI f,vS g l i,.string H,.bool J] 92) wc 0 (vI d):=ϣ;have bz:Δ (ξ wc #[vI d,vI f,vS g l i,.string H,.bool J] 92) wc 1 (vI f):=ϣ;have b0:Δ (ξ wc #[vI d,vI f,vS g l i,.string H,.bool J] 92) wc 2 (vS g l i):=ϣ;have b1:Δ (ξ wc #[vI d,vI f,vS g l i,.string H,.bool J] 92) wc 3 (.string H):=ϣ;have b2:Δ (ξ wc #[vI d,vI f,vS g l i,.string H,.bool J] 92) wc 4 (.bool J):=ϣ;generalize (wc.alloc (.cells #[vI d,vI f,vS g l i,.string H,.bool J] 92))=W4 at *
    have az:ϝ (∀m,BQ T W4 m->Ϗ m wc (vI d) (vI f) (vS g l i) (.string H) (.bool J)):=λm aq=>⟨aq.cell aj.o r.o.co.symm Ϡ Ϡ bx,aq.cell aj.o r.o.co.symm Ϡ Ϡ bz,aq.cell aj.o r.o.co.symm Ϡ Ϡ b0,aq.cell aj.o r.o.co.symm Ϡ Ϡ b1,aq.cell aj.o r.o.co.symm Ϡ Ϡ b2⟩;clear v0 v1 v2 v3 v4 v5 v6 v7 v8 v9 av aw ax e0 e1 e2 e3 bc;refine gr.AQ 9 rfl Ϣ (S:=λm=>Ϗ m wc (vI d) (vI f) (vS g l i) (.string H) (.bool J)) (az.o _ (A7 bR.drew)) (λaa=>?_);refine tkz 0 47 aa ?_;refine tkz 1 48 aa ?_;refine tkz 2 49 aa ?_;refine tkz 3 50 aa ?_;refine tkz 5 52 aa ?_;refine tkz 6 53 aa ?_;refine tkz 7 54 aa ?_;refine rD 4 λK hK=>?_;go_simp
    go_at_fn fm
    refine(ao.o _ bq.drew).mono ?_;rintro e w5 ⟨rfl,D,t5,L5,ai,cb,a0⟩;have bj:ϝ (BQ T W4 w5):=(A7 bR.drew).trans a0;go_wp2_with fail;refine hK.out _ _ (az.o _ bj.o) (λaa=>?_);clear hK K
    try simp only[Act.put,sI,sZ,sSz]
    refine rD 8 λK hK=>?_;go_simp;go_at_call 256;refine(an.o _ _ _ _ ai).mono ?_;rintro e w6 ⟨rfl,N,be,bv⟩;have bk:ϝ (BQ T W4 w6):=bj.o.trans bv;go_wp2_with fail;refine hK.out _ _ (az.o _ bk.o) (λaa=>?_);clear hK K;refine wpAnyH_done Ϣ ?_ _;have al:ϝ (BQ T B w6):=(A7 bq).trans bk.o;clear ai a0 bv az bx bz b0 b1 b2 aa;go_wp2_with (first
     |(go_at_call 257;refine(YU be.box be.cg).mono ?_;rintro e w7 ⟨rfl,bb⟩;rw[A0];have a8:An w7 (w.heap.size+1+1+1) 31:=Ae (AW ad.o.2 (al.o.2 _ _ ad.o.2 r.o.cj.symm Ϡ Ϡ)) bb;have ar:(w7.alloc (.cells (Ψ k N) 31)).there (w.heap.size+1+1+1) 0 9:=Cu (Cu (GV ad.o.1 (al.o.2 _ _ ad.o.2 r.o.cj.symm Ϡ Ϡ)) bb) Ϫ)
     |((with_reducible refine wpList_store_mid ?_ 31 (.tmp 6) (.tmp 61) ?_ (w.heap.size+1+1+1) 0 (Ψ k N) ?_ ?_ ?_ ?_ ?_ ?_);exact rfl;exact rfl;exact rfl;exact rfl;exact ar;exact BU;exact Ϩ))
    have ae:=step_end be ac bb (Ψ k N) (show w.heap.size<=(w.heap.size+1+1+1) by omega) a8 (Γ k N);have c:ϝ ((World.setCells (ξ w7 (Ψ k N) 31) (w.heap.size+1+1+1) 0 (Γ k N)).rangeAt (w.heap.size+1+1+1) 0 (Γ k N)):=CX ar rfl;generalize (World.setCells (ξ w7 (Ψ k N) 31) (w.heap.size+1+1+1) 0 (Γ k N))=W' at c ae⊢;have O:=c.o 0 _ rfl;have P:=c.o 1 _ rfl;have Q:=c.o 2 _ rfl;have R:=c.o 3 _ rfl;have U:=c.o 4 _ rfl;have W:=c.o 5 _ rfl;have X:=c.o 6 _ rfl;have Y:=c.o 7 _ rfl;have Z:=c.o 8 _ rfl;simp only[Nat.zero_add]at O P Q R U W X Y Z;exact bodyPost_ret (v:=.tuple #[.agg (Ψ k N),t5,ω]) (by simp[results,results16,go_sem,O,P,Q,R,U,W,X,Y,Z]) rfl ⟨⟨N,t5,L5,by rw[n.o];rfl,by rw[n.o];exact cb,by rw[n.o];exact ae.1⟩,ae.2⟩
  ·have cc:(EE !=0)=true:=by simpa using h1
   have n:ϝ (SJ=(EE,j0,[])):=by show _=_;rw[HS.o,if_neg ϡ,if_pos h1]
   have c:ϝ ((World.setCells j (w.heap.size+1+1+1) 0 [ω,ψ,ψ,ω,ψ,ψ,ω,ω,ω]).rangeAt (w.heap.size+1+1+1) 0 [ω,ψ,ψ,ω,ψ,ψ,ω,ω,ω]):=CX u.o.1 rfl;have E:ϝ (Ϟ w (World.setCells j (w.heap.size+1+1+1) 0 [ω,ψ,ψ,ω,ψ,ψ,ω,ω,ω])):=below_setCells ϟ _ 0 _ ac;go_wp2_with ((with_reducible refine wpList_store_mid ?_ 31 (.tmp 6) (.tmp 28) ?_ (w.heap.size+1+1+1) 0 #[ω,ψ,ψ,ω,ψ,ψ,ω,ω,ω] ?_ ?_ ?_ ?_ ?_ ?_);exact rfl;exact rfl;exact rfl;exact rfl;exact u.o.1;exact BU;exact Ϩ);generalize (World.setCells j (w.heap.size+1+1+1) 0 [ω,ψ,ψ,ω,ψ,ψ,ω,ω,ω])=W' at c E⊢;have O:=c.o 0 _ rfl;have P:=c.o 1 _ rfl;have Q:=c.o 2 _ rfl;have R:=c.o 3 _ rfl;have U:=c.o 4 _ rfl;have W:=c.o 5 _ rfl;have X:=c.o 6 _ rfl;have Y:=c.o 7 _ rfl;have Z:=c.o 8 _ rfl;simp only[Nat.zero_add]at O P Q R U W X Y Z;exact bodyPost_ret (v:=.tuple #[.agg #[ω,ψ,ψ,ω,ψ,ψ,ω,ω,ω],ψ,vI EE]) (by simp[results,results16,go_sem,O,P,Q,R,U,W,X,Y,Z]) rfl ⟨⟨jx0,ψ,[],by rw[n.o];rfl,by rw[n.o];rfl,by rw[n.o];exact⟨Bg (BD E.o.size),Bg (BD E.o.size),CG.start E.o.size⟩⟩,E.o⟩
 ·have cc:(JE !=0)=true:=by simpa using h0
  have n:ϝ (SJ=(JE,j0,[])):=by show _=_;rw[HS.o,if_pos h0]
  have c:ϝ ((World.setCells a (w.heap.size+1+1+1) 0 [ω,ψ,ψ,ω,ψ,ψ,ω,ω,ω]).rangeAt (w.heap.size+1+1+1) 0 [ω,ψ,ψ,ω,ψ,ψ,ω,ω,ω]):=CX u.o.1 rfl;have E:ϝ (Ϟ w (World.setCells a (w.heap.size+1+1+1) 0 [ω,ψ,ψ,ω,ψ,ψ,ω,ω,ω])):=below_setCells ϟ _ 0 _ bd;go_wp2_with ((with_reducible refine wpList_store_mid ?_ 31 (.tmp 6) (.tmp 20) ?_ (w.heap.size+1+1+1) 0 #[ω,ψ,ψ,ω,ψ,ψ,ω,ω,ω] ?_ ?_ ?_ ?_ ?_ ?_);exact rfl;exact rfl;exact rfl;exact rfl;exact u.o.1;exact BU;exact Ϩ);generalize (World.setCells a (w.heap.size+1+1+1) 0 [ω,ψ,ψ,ω,ψ,ψ,ω,ω,ω])=W' at c E⊢;have O:=c.o 0 _ rfl;have P:=c.o 1 _ rfl;have Q:=c.o 2 _ rfl;have R:=c.o 3 _ rfl;have U:=c.o 4 _ rfl;have W:=c.o 5 _ rfl;have X:=c.o 6 _ rfl;have Y:=c.o 7 _ rfl;have Z:=c.o 8 _ rfl;simp only[Nat.zero_add]at O P Q R U W X Y Z;exact bodyPost_ret (v:=.tuple #[.agg #[ω,ψ,ψ,ω,ψ,ψ,ω,ω,ω],ψ,vI JE]) (by simp[results,results16,go_sem,O,P,Q,R,U,W,X,Y,Z]) rfl ⟨⟨jx0,ψ,[],by rw[n.o];rfl,by rw[n.o];rfl,by rw[n.o];exact⟨Bg (BD E.o.size),Bg (BD E.o.size),CG.start E.o.size⟩⟩,E.o⟩
end jn
end Go.Proofs.YtdohnkkbkfhphaaGreat
