import Derived.Test.YtfkihidbnfkbaaaGreatDoorPb32
import Derived.Test.YtfkihidbnfkbaaaGreatDoorPb28
set_option linter.all false
set_option maxHeartbeats 8000000
set_option maxRecDepth 100000
open Go.ChangeShapes Go.WideShapes Go.ChangeAt Go.RowKit
namespace Go.Proofs.YtfkihidbnfkbaaaGreatDoor
open Go.Proofs.Tryz
namespace jn
open vl bf
attribute [local go_sem] Oper.semAt_some
variable {b base : Nat} {p : pl.Pln} {x : pl.PA} {s : Jn} {t : Value} {L : List CO} {w : ϙ}
structure stepAt(w0 w':World)(s:Jn)(y:JX)(t:Value)(L:List CO):Prop where
 l:OB w' w0.heap.size y.l s.L
 r:OB w' w0.heap.size y.r s.R
 cg:CG w' w0.heap.size t L
theorem YY{y:JX}(h:boxC w b p x s y t)(a:CG w base t L):
 η 341 #[μ b] w (θ w (.tuple #[joinV s y,t])):=by
 have e:=(CG.chgs a).1;rw[e]at h⊢;exact AaE b p x s y _ _ _ w h
theorem Ws{v:Ev}(c:goodJ p s)(a:comeJ p s v):goodJ p (Hn p s v)/\comeJ p (Hn p s v) v:=by
 unfold Hn;split
 ·split
  ·exact⟨c,a⟩
  ·have e:Ak s 1=s.L:=rfl;have d:=JC c 1 ((Ee p s v).map (·.seq));have f:=JD a 1 ((Ee p s v).map (·.seq));rw[e]at d f;exact⟨d,f⟩
 ·exact⟨JC c _ _,JD a _ _⟩
theorem GB{e:ϙ}{o n:Nat}(h:w.there b o n)(d:e.heap[b]? =w.heap[b]?):e.there b o n:=λj c=>by
 obtain⟨u,f⟩:=Option.isSome_iff_exists.1 (h j c).1;exact⟨by rw[(cOb (w:=w) (a:=⟨b,o+j,none⟩) d).trans f];rfl,(World.frozen?_of_block (w:=w) (a:=⟨b,o+j,none⟩) d).trans (h j c).2⟩
theorem QO{base N:Nat}{v:Value}{L:List CO}:∀(l:List Value) (o:Nat) (w:ϙ),CG w base v L->Ai w N 38->CG (w.setCells N o l) base v L
 |[],_,_,h,_=>h
 |u::l,o,w,h,hN=>QO l (o+1) _ (Nv h hN Ϟ Ϟ o u) (A6 hN _ _)
theorem P0{c:Nat}{v:Value}(h:CG w base v L)(d:c<=base):CG w c v L:=by
 have a:bt.Est w base ((⟨v,217,2,L.length,ch.Bi (L.map CO.pair)⟩:bt.Own1)::L.map λx=>Ca x.rv x.row):=h;exact bt.Est.mk (Nat.le_trans d (bt.Est.low a)) (λz e=>Di (bt.Est.own a z e) d) (bt.Est.two a)
theorem step_end{m i a:ϙ}{K:Nat}{T:TypeId}{j:Jn}{n:JX}{f:Nat}(e:JSt m i K T p x j n t L)(d:Ϝ w m)(o:Ϝ i a)(c:Array Value)(q:w.heap.size<=f)(r:Ai a f 38)(l:List Value):
 stepAt w (World.setCells (a.alloc (.cells c 38)) f 0 l) j n t L/\Ϝ w (World.setCells (a.alloc (.cells c 38)) f 0 l):=by
 have k:Ϝ a (a.alloc (.cells c 38)):=Ϩ;have g:Ϝ i (a.alloc (.cells c 38)):=bT o k;have h:=Ad r k;refine⟨⟨Bt NJ _ _ _ (Ct (e.l.below g) d.size) h,Bt NJ _ _ _ (Ct (e.r.below g) d.size) h,QO _ _ _ (P0 (e.cg.below g) d.size) h⟩,below_setCells q _ _ _ ?_⟩;exact(d.trans (e.bl.mono d.size)).trans (g.mono (Nat.le_trans d.size e.bl.size))
theorem YZ(p:pl.Pln)(x:pl.PA)(s:Jn)(y:JX)(v:Ev)(g:Ϛ)(i:Nat)(w:ϙ)(hw:pl.wfPlan p)(hp:pl.planAt w p x)(h:joinAt w s y)(au:wfJ s)(hv:evAt w v g):
 η 96 #[pl.Ap p x,joinV s y,evV v g i] w λe m=>(∃M t L,e= .returned (.tuple #[joinV (stepJ p s v).2.1 M,t,vI (stepJ p s v).1])/\L.map CO.chg=(stepJ p s v).2.2/\stepAt w m (stepJ p s v).2.1 M t L)/\Ϝ w m:=by
 have KC:=hIz (λ(a:ϙ) (o:Ϝ w a)=>jn.AH p x s y a hw (pl.Ae hp o) (h.below o) au);have KE:=hIz (λ(a:ϙ) (o:Ϝ w a)=>NI p x s y v g i a hw (pl.Ae hp o) (h.below o) au (hv.below o));have HS:ϛ (stepJ p s v=if AQ p s≠0 then(AQ p s,j0,[])else if A8 p s v≠0 then(A8 p s v,j0,[])else if v.kind=2 then(0,CC p (Ek s v.side v.time),[])else(0,Hc p s v)):=rfl;have KK:ϛ (AQ p s=0->∀a,Ϝ w a->CT 154 #[pl.Ap p x,joinV s y] a λe m=> ∃K M,e= .returned (.iface (kindP p.kind) (.pointer (τ K)))/\JSt a m K (kindT p.kind) p x s M (vS none 0 0) []):=λhe a o=>Tp p x s y a (h.below o) (Dl he).2.L (Dl he).2.R;have am:=hIz (λ(a:ϙ) (o:Ϝ w a)=>S8 p x v g i a hw (pl.Ae hp o) (hv.below o));have HX:ϛ (AQ p s=0->goodJ p s/\∃ff fm,KindK p (kindT p.kind) (kindP p.kind) ff fm):=λhe=>by
  obtain⟨h1,A⟩:=Dl he;exact⟨⟨A,λz hz=>by
   rcases List.mem_append.1 hz with hz|hz
   ·exact au.l.ents z hz
   ·exact au.r.ents z hz⟩,kinds h1⟩
 have HP:ϛ (pl.wfPlan p/\(∀a,Ϝ w a->pl.planAt a p x)/\∀a,Ϝ w a->evAt a v g):=⟨hw,λa o=>pl.Ae hp o,λa o=>hv.below o⟩;obtain⟨SJ,bp⟩:=nM (stepJ p s v);rw[bp]at HS⊢;clear hw hp h au hv bp;obtain⟨JE,a7⟩:=nM (AQ p s);obtain⟨EE,a6⟩:=nM (A8 p s v);have cf:=hqz a7;have b4:=hqz a6;rw[a7]at KC HS KK HX;rw[a6]at KE HS;clear a7 a6;unfold pl.Ap at KC KE KK am⊢;rw[AK]at KC KE KK⊢;unfold evV at KE am⊢;obtain⟨I,a1⟩:=nM v.kind;obtain⟨d,a2⟩:=nM v.side;obtain⟨f,a3⟩:=nM v.time;obtain⟨l,bg⟩:=nM v.row.length;have ag:ϛ (v.kind=I/\v.side=d/\v.time=f/\v.row.length=l):=⟨a1,a2,a3,bg⟩;rw[a1,a2,a3,bg]at KE am⊢;rw[a1,a2,a3]at HS;clear a1 a2 a3 bg;go_enter func96,ntmps96;go_wp2_with fail;generalize hV:(World.alloc (World.alloc (World.alloc (World.alloc w _) _) _) _)=V;have a9:Ϝ w V:=by rw[<-hV];exact((Ϩ.alloc ϟ _).alloc Ϥ _).alloc Ϥ _
 have HB:ϛ (Bh V w p x):=by
  subst hV;exact Ah (Cg ..) ((Ϩ.alloc ϟ _).alloc Ϥ _)
 have af:ϛ (Cb V (w+1) s y):=by
  subst hV;have:=Cs (ξ w (Φ p x) 32) s y 38;rw[World.size_alloc]at this;exact Az this (Ϩ.alloc ϟ _)
 have q:ϛ (ύ V (w+1+1) (vI I) (vI d) (vI f) (vS g l i)):=by
  subst hV;exact⟨ϡ,ϡ,ϡ,ϡ⟩
 have u:ϛ (noJ V (w+1+1+1)/\Ai V (w+1+1+1) 38):=by
  subst hV;have h1:=PN (ξ (ξ (ξ w (Φ p x) 32) (Ψ s y) 38) #[vI I,vI d,vI f,vS g l i] 90);have A:=World.alloc_heap_new (ξ (ξ (ξ w (Φ p x) 32) (Ψ s y) 38) #[vI I,vI d,vI f,vS g l i] 90) (.cells #[ω,ψ,ψ,ω,ψ,ψ,ω,ω,ω] 38);rw[World.size_alloc,World.size_alloc,World.size_alloc]at h1 A;exact⟨h1,_,_,A⟩
 have ak:ϛ (Ai V (w+1+1) 90):=by
  subst hV;have A:=World.alloc_heap_new (ξ (ξ w (Φ p x) 32) (Ψ s y) 38) (.cells #[vI I,vI d,vI f,vS g l i] 90);rw[World.size_alloc,World.size_alloc]at A;exact Ad ⟨_,_,A⟩ (bR.alloc ϟ _)
 clear hV;refine(KC.o _ a9).mono ?_;rintro e a ⟨rfl,F⟩;have bd:Ϝ w a:=bT a9 F;replace HB:ϛ (Bh a w p x):=Ah HB.o F;replace af:ϛ (Cb a (w+1) s y):=Az af.o F;replace q:ϛ (ύ a (w+1+1) (vI I) (vI d) (vI f) (vS g l i)):=⟨cLz F q.o.1,cLz F q.o.2.1,cLz F q.o.2.2.1,cLz F q.o.2.2.2⟩;replace u:ϛ (noJ a (w+1+1+1)/\Ai a (w+1+1+1) 38):=⟨Dc u.o.1 F,Ad u.o.2 F⟩;replace ak:ϛ (Ai a (w+1+1) 90):=Ad ak.o F;clear F a9 KC;by_cases h0:JE=0
 ·subst h0;obtain⟨v0,v1,v2,v3,v4,v5,v6,v7,v8,v9,av,aw,ax⟩:=HB.o;obtain⟨u0,u1,u2,u3,u4,u5,u6,u7,u8⟩:=af.o;obtain⟨e0,e1,e2,e3⟩:=q.o;go_wp2_with fail;refine(KE.o _ bd).mono ?_;rintro e j ⟨rfl,G⟩;have ac:Ϝ w j:=bT bd G;replace HB:ϛ (Bh j w p x):=Ah HB.o G;replace af:ϛ (Cb j (w+1) s y):=Az af.o G;replace q:ϛ (ύ j (w+1+1) (vI I) (vI d) (vI f) (vS g l i)):=⟨cLz G q.o.1,cLz G q.o.2.1,cLz G q.o.2.2.1,cLz G q.o.2.2.2⟩;replace u:ϛ (noJ j (w+1+1+1)/\Ai j (w+1+1+1) 38):=⟨Dc u.o.1 G,Ad u.o.2 G⟩;replace ak:ϛ (Ai j (w+1+1) 90):=Ad ak.o G;clear G KE v0 v1 v2 v3 v4 v5 v6 v7 v8 v9 av aw ax u0 u1 u2 u3 u4 u5 u6 u7 u8 e0 e1 e2 e3;by_cases h1:EE=0
  ·subst h1;obtain⟨v0,v1,v2,v3,v4,v5,v6,v7,v8,v9,av,aw,ax⟩:=HB.o;obtain⟨u0,u1,u2,u3,u4,u5,u6,u7,u8⟩:=af.o;go_wp2_with fail;refine(KK.o trivial _ ac).mono ?_;rintro e B ⟨K,y3,rfl,ap⟩;obtain⟨bs,ff,fm,C⟩:=HX.o trivial;generalize kindT p.kind=T at ap C;generalize kindP p.kind=kp at C⊢;have ay:=hqz ap;have r:=hqz C;have a5:=hqz bs;have ab:=ap.bl;have b8:Ϝ w B:=bT ac ab;have bh:ϛ (ύ B (w+1+1) (vI I) (vI d) (vI f) (vS g l i)):=⟨cLz ab q.o.1,cLz ab q.o.2.1,cLz ab q.o.2.2.1,cLz ab q.o.2.2.2⟩;have b3:ϛ (Bh B w p x):=Ah HB.o ab;have ad:ϛ (noJ B (w+1+1+1)/\Ai B (w+1+1+1) 38):=⟨Dc u.o.1 ab,Ad u.o.2 ab⟩;have cd:ϛ (Ai B (w+1+1) 90):=Ad ak.o ab;have cm:=C.go K;have cl:=C.fo K;have cq:=C.me K;have co:=C.ke K;have cp:=C.ma K;have cr:=C.ni K;have cj:=C.ef;have ck:=C.em;have bi:=hqz b4.o;have cg:ϛ (j.heap.size<=K):=ap.up;have ci:(w.heap.size+1+1+1)<j.heap.size:=Z6 u.o.1;clear ap C bs v0 v1 v2 v3 v4 v5 v6 v7 v8 v9 av aw ax u0 u1 u2 u3 u4 u5 u6 u7 u8 KK HX;by_cases A:I=2
   ·subst A;have bw:=UQ bi.o ag.o.1;have n:ϛ (SJ=(0,CC p (Ek s d f),[])):=by show _=_;rw[HS.o,if_neg ϟ,if_neg ϟ,if_pos rfl]
    have b5:ϛ (goodJ p (Ek s d f)):=UO a5.o d f (by rw[<-ag.o.2.2.1];exact bw.2.1);obtain⟨k,ah⟩:=nM (CC p (Ek s d f));have b7:ϛ (CT 339 #[μ K,vI d,vI f] B λe m=>e= .returned (.tuple #[])/\JSt j m K T p x (Ek s d f) y3 (vS none 0 0) []/\Bz T B m):=(AaD K p x s y3 _ d f B ay.o.box).mono (by
     rintro e m ⟨rfl,rfl⟩;exact⟨rfl,Abz ay.o r.o.calm d f,Eu ay.o.ty _ _⟩)
    have b6:ϛ (∀w4,JSt j w4 K T p x (Ek s d f) y3 (vS none 0 0) []->CT ff #[μ K] w4 λe m=>e= .returned (.tuple #[])/\∃M,JSt j m K T p x k M (vS none 0 0) []/\Bz T w4 m):=λw4 hj=>by
     rw[<-ah];exact r.o.cf K x _ y3 _ [] j w4 hj HP.o.1 (HP.o.2.1 j ac) b5.o
    rw[ah]at n;obtain⟨e0,e1,e2,e3⟩:=bh.o;clear bw ah;go_wp2_with (first
     |(go_at_call 339;refine b7.o.mono ?_;rintro e w4 ⟨rfl,b9,ca⟩)
     |(go_at_fn ff;refine(b6.o _ b9).mono ?_;rintro e w5 ⟨rfl,D,ai,a0⟩;have al:ϛ (Bz T B w5):=ca.trans a0)
     |(go_at_call 341;refine(YY ai.box ai.cg).mono ?_;rintro e w6 ⟨rfl,ba⟩;rw[AK];have a8:Ai w6 (w.heap.size+1+1+1) 38:=Ad (A0 ad.o.2 (al.o.2 _ _ ad.o.2 r.o.cj.symm Ϟ Ϟ)) ba;have ar:(w6.alloc (.cells (Ψ k D) 38)).there (w.heap.size+1+1+1) 0 9:=BQ (BQ (GB ad.o.1 (al.o.2 _ _ ad.o.2 r.o.cj.symm Ϟ Ϟ)) ba) Ϩ)
     |((with_reducible refine wpList_store_mid ?_ 38 (.tmp 6) (.tmp 61) ?_ (w.heap.size+1+1+1) 0 (Ψ k D) ?_ ?_ ?_ ?_ ?_ ?_);exact rfl;exact rfl;exact rfl;exact rfl;exact ar;exact MO;exact Ϧ))
    have ae:=step_end ai ac ba (Ψ k D) (show w.heap.size<=(w.heap.size+1+1+1) by omega) a8 (Γ k D);have c:ϛ ((World.setCells (ξ w6 (Ψ k D) 38) (w.heap.size+1+1+1) 0 (Γ k D)).rangeAt (w.heap.size+1+1+1) 0 (Γ k D)):=GL ar rfl;generalize (World.setCells (ξ w6 (Ψ k D) 38) (w.heap.size+1+1+1) 0 (Γ k D))=W' at c ae⊢;have O:=c.o 0 _ rfl;have P:=c.o 1 _ rfl;have Q:=c.o 2 _ rfl;have R:=c.o 3 _ rfl;have U:=c.o 4 _ rfl;have W:=c.o 5 _ rfl;have X:=c.o 6 _ rfl;have Y:=c.o 7 _ rfl;have Z:=c.o 8 _ rfl;simp only[Nat.zero_add]at O P Q R U W X Y Z;exact bodyPost_ret (v:=.tuple #[.agg (Ψ k D),ψ,ω]) (by simp[results,results96,go_sem,O,P,Q,R,U,W,X,Y,Z]) rfl ⟨⟨D,ψ,[],by rw[n.o];rfl,by rw[n.o];rfl,by rw[n.o];exact ae.1⟩,ae.2⟩
   ·have HC:ϛ (comeJ p s v):=UP bi.o (by rw[ag.o.1];exact A);obtain⟨bu,br⟩:=Ws a5.o HC.o;have n:ϛ (SJ=(0,Ef p (Hn p s v) v (KY p s v),JL p s v)):=by show _=_;rw[HS.o,if_neg ϟ,if_neg ϟ,if_neg A,UX]
    have cn:(I==2)=false:=by simpa using A
    have a4:ϛ (∀a,Ϝ w a->CT 155 #[pl.Ap p x,.agg #[vI I,vI d,vI f,vS g l i]] a (θ a (BE p v g i))):=am.o;have ao:ϛ (∀a,Ϝ B a->CT fm #[μ K,BE p v g i] a λe m=>e= .returned (.bool (KY p s v))/\∃M t' L',JSt j m K T p x (Hn p s v) M t' L'/\L'.map CO.chg=JL p s v/\Bz T a m):=λa o=>r.o.cm K x s y3 v g i j a (ay.o.below o) a5.o HC.o (HP.o.2.2 j ac).row;have an:=hIz (λ(a:ϙ) M t' L' (hj:JSt j a K T p x (Hn p s v) M t' L')=>Cf K T p x (Hn p s v) M t' L' v g i (KY p s v) j a hj r.o.calm HP.o.1 (HP.o.2.1 j ac) bu br (HP.o.2.2 j ac));obtain⟨MB,bm⟩:=nM (KY p s v);obtain⟨MJ,bn⟩:=nM (Hn p s v);obtain⟨MT,bo⟩:=nM (JL p s v);rw[bm,bn]at ao an n;rw[bo]at ao n;obtain⟨k,ah⟩:=nM (Ef p MJ v MB);rw[ah]at an n;unfold BE at a4 ao an;obtain⟨H,h3⟩:=nM (pl.As p v.side v.row);obtain⟨J,h4⟩:=nM (pl.hasB p v.side v.row);rw[h3,h4,ag.o.2.1,ag.o.2.2.1,ag.o.2.2.2]at a4 ao an;obtain⟨e0,e1,e2,e3⟩:=bh.o;obtain⟨v0,v1,v2,v3,v4,v5,v6,v7,v8,v9,av,aw,ax⟩:=b3.o;clear bu br A bm bn bo ah h3 h4 am;go_upto_region 12 with(go_at_call 155;refine(a4.o _ b8).mono ?_;rintro e wc ⟨rfl,bc⟩);have bq:Ϝ B (ξ wc #[vI d,vI f,vS g l i,.string H,.bool J] 208):=bc.alloc bc.size _;have aj:ϛ (Ai (ξ wc #[vI d,vI f,vS g l i,.string H,.bool J] 208) wc.heap.size 208):=⟨_,_,World.alloc_heap_new wc _⟩;have bx:Δ (ξ wc #[vI d,vI f,vS g l i,.string H,.bool J] 208) wc 0 (vI d):=ϡ;have bz:Δ (ξ wc #[vI d,vI f,vS g l i,.string H,.bool J] 208) wc 1 (vI f):=ϡ;have b0:Δ (ξ wc #[vI d,vI f,vS g l i,.string H,.bool J] 208) wc 2 (vS g l i):=ϡ;have b1:Δ (ξ wc #[vI d,vI f,vS g l i,.string H,.bool J] 208) wc 3 (.string H):=ϡ;have b2:Δ (ξ wc #[vI d,vI f,vS g l i,.string H,.bool J] 208) wc 4 (.bool J):=ϡ;generalize (wc.alloc (.cells #[vI d,vI f,vS g l i,.string H,.bool J] 208))=W4 at *
    have az:ϛ (∀m,Bz T W4 m->ώ m wc (vI d) (vI f) (vS g l i) (.string H) (.bool J)):=λm aq=>⟨aq.cell aj.o r.o.co.symm Ϟ Ϟ bx,aq.cell aj.o r.o.co.symm Ϟ Ϟ bz,aq.cell aj.o r.o.co.symm Ϟ Ϟ b0,aq.cell aj.o r.o.co.symm Ϟ Ϟ b1,aq.cell aj.o r.o.co.symm Ϟ Ϟ b2⟩;clear v0 v1 v2 v3 v4 v5 v6 v7 v8 v9 av aw ax e0 e1 e2 e3 bc;refine gr.Ds 9 rfl Ϡ (S:=λm=>ώ m wc (vI d) (vI f) (vS g l i) (.string H) (.bool J)) (az.o _ (Aw bR.drew)) (λaa=>?_);refine tkz 0 47 aa ?_;refine tkz 1 48 aa ?_;refine tkz 2 49 aa ?_;refine tkz 3 50 aa ?_;refine tkz 5 52 aa ?_;refine tkz 6 53 aa ?_;refine tkz 7 54 aa ?_;refine rD 4 λK hK=>?_;go_simp
    go_at_fn fm
    refine(ao.o _ bq.drew).mono ?_;rintro e w5 ⟨rfl,D,t5,L5,ai,cb,a0⟩;have bj:ϛ (Bz T W4 w5):=(Aw bR.drew).trans a0;go_wp2_with fail;refine hK.out _ _ (az.o _ bj.o) (λaa=>?_);clear hK K
    try simp only[Act.put,sI,sZ,sS]
    refine rD 8 λK hK=>?_;go_simp;go_at_call 340;refine(an.o _ _ _ _ ai).mono ?_;rintro e w6 ⟨rfl,N,be,bv⟩;have bk:ϛ (Bz T W4 w6):=bj.o.trans bv;go_wp2_with fail;refine hK.out _ _ (az.o _ bk.o) (λaa=>?_);clear hK K;refine wpAnyH_done Ϡ ?_ _;have al:ϛ (Bz T B w6):=(Aw bq).trans bk.o;clear ai a0 bv az bx bz b0 b1 b2 aa;go_wp2_with (first
     |(go_at_call 341;refine(YY be.box be.cg).mono ?_;rintro e w7 ⟨rfl,bb⟩;rw[AK];have a8:Ai w7 (w.heap.size+1+1+1) 38:=Ad (A0 ad.o.2 (al.o.2 _ _ ad.o.2 r.o.cj.symm Ϟ Ϟ)) bb;have ar:(w7.alloc (.cells (Ψ k N) 38)).there (w.heap.size+1+1+1) 0 9:=BQ (BQ (GB ad.o.1 (al.o.2 _ _ ad.o.2 r.o.cj.symm Ϟ Ϟ)) bb) Ϩ)
     |((with_reducible refine wpList_store_mid ?_ 38 (.tmp 6) (.tmp 61) ?_ (w.heap.size+1+1+1) 0 (Ψ k N) ?_ ?_ ?_ ?_ ?_ ?_);exact rfl;exact rfl;exact rfl;exact rfl;exact ar;exact MO;exact Ϧ))
    have ae:=step_end be ac bb (Ψ k N) (show w.heap.size<=(w.heap.size+1+1+1) by omega) a8 (Γ k N);have c:ϛ ((World.setCells (ξ w7 (Ψ k N) 38) (w.heap.size+1+1+1) 0 (Γ k N)).rangeAt (w.heap.size+1+1+1) 0 (Γ k N)):=GL ar rfl;generalize (World.setCells (ξ w7 (Ψ k N) 38) (w.heap.size+1+1+1) 0 (Γ k N))=W' at c ae⊢;have O:=c.o 0 _ rfl;have P:=c.o 1 _ rfl;have Q:=c.o 2 _ rfl;have R:=c.o 3 _ rfl;have U:=c.o 4 _ rfl;have W:=c.o 5 _ rfl;have X:=c.o 6 _ rfl;have Y:=c.o 7 _ rfl;have Z:=c.o 8 _ rfl;simp only[Nat.zero_add]at O P Q R U W X Y Z;exact bodyPost_ret (v:=.tuple #[.agg (Ψ k N),t5,ω]) (by simp[results,results96,go_sem,O,P,Q,R,U,W,X,Y,Z]) rfl ⟨⟨N,t5,L5,by rw[n.o];rfl,by rw[n.o];exact cb,by rw[n.o];exact ae.1⟩,ae.2⟩
  ·have cc:(EE !=0)=true:=by simpa using h1
   have n:ϛ (SJ=(EE,j0,[])):=by show _=_;rw[HS.o,if_neg ϟ,if_pos h1]
   have c:ϛ ((World.setCells j (w.heap.size+1+1+1) 0 [ω,ψ,ψ,ω,ψ,ψ,ω,ω,ω]).rangeAt (w.heap.size+1+1+1) 0 [ω,ψ,ψ,ω,ψ,ψ,ω,ω,ω]):=GL u.o.1 rfl;have E:ϛ (Ϝ w (World.setCells j (w.heap.size+1+1+1) 0 [ω,ψ,ψ,ω,ψ,ψ,ω,ω,ω])):=below_setCells ϝ _ 0 _ ac;go_wp2_with ((with_reducible refine wpList_store_mid ?_ 38 (.tmp 6) (.tmp 28) ?_ (w.heap.size+1+1+1) 0 #[ω,ψ,ψ,ω,ψ,ψ,ω,ω,ω] ?_ ?_ ?_ ?_ ?_ ?_);exact rfl;exact rfl;exact rfl;exact rfl;exact u.o.1;exact MO;exact Ϧ);generalize (World.setCells j (w.heap.size+1+1+1) 0 [ω,ψ,ψ,ω,ψ,ψ,ω,ω,ω])=W' at c E⊢;have O:=c.o 0 _ rfl;have P:=c.o 1 _ rfl;have Q:=c.o 2 _ rfl;have R:=c.o 3 _ rfl;have U:=c.o 4 _ rfl;have W:=c.o 5 _ rfl;have X:=c.o 6 _ rfl;have Y:=c.o 7 _ rfl;have Z:=c.o 8 _ rfl;simp only[Nat.zero_add]at O P Q R U W X Y Z;exact bodyPost_ret (v:=.tuple #[.agg #[ω,ψ,ψ,ω,ψ,ψ,ω,ω,ω],ψ,vI EE]) (by simp[results,results96,go_sem,O,P,Q,R,U,W,X,Y,Z]) rfl ⟨⟨jx0,ψ,[],by rw[n.o];rfl,by rw[n.o];rfl,by rw[n.o];exact⟨D3 (E4 E.o.size),D3 (E4 E.o.size),CG.start E.o.size⟩⟩,E.o⟩
 ·have cc:(JE !=0)=true:=by simpa using h0
  have n:ϛ (SJ=(JE,j0,[])):=by show _=_;rw[HS.o,if_pos h0]
  have c:ϛ ((World.setCells a (w.heap.size+1+1+1) 0 [ω,ψ,ψ,ω,ψ,ψ,ω,ω,ω]).rangeAt (w.heap.size+1+1+1) 0 [ω,ψ,ψ,ω,ψ,ψ,ω,ω,ω]):=GL u.o.1 rfl;have E:ϛ (Ϝ w (World.setCells a (w.heap.size+1+1+1) 0 [ω,ψ,ψ,ω,ψ,ψ,ω,ω,ω])):=below_setCells ϝ _ 0 _ bd;go_wp2_with ((with_reducible refine wpList_store_mid ?_ 38 (.tmp 6) (.tmp 20) ?_ (w.heap.size+1+1+1) 0 #[ω,ψ,ψ,ω,ψ,ψ,ω,ω,ω] ?_ ?_ ?_ ?_ ?_ ?_);exact rfl;exact rfl;exact rfl;exact rfl;exact u.o.1;exact MO;exact Ϧ);generalize (World.setCells a (w.heap.size+1+1+1) 0 [ω,ψ,ψ,ω,ψ,ψ,ω,ω,ω])=W' at c E⊢;have O:=c.o 0 _ rfl;have P:=c.o 1 _ rfl;have Q:=c.o 2 _ rfl;have R:=c.o 3 _ rfl;have U:=c.o 4 _ rfl;have W:=c.o 5 _ rfl;have X:=c.o 6 _ rfl;have Y:=c.o 7 _ rfl;have Z:=c.o 8 _ rfl;simp only[Nat.zero_add]at O P Q R U W X Y Z;exact bodyPost_ret (v:=.tuple #[.agg #[ω,ψ,ψ,ω,ψ,ψ,ω,ω,ω],ψ,vI JE]) (by simp[results,results96,go_sem,O,P,Q,R,U,W,X,Y,Z]) rfl ⟨⟨jx0,ψ,[],by rw[n.o];rfl,by rw[n.o];rfl,by rw[n.o];exact⟨D3 (E4 E.o.size),D3 (E4 E.o.size),CG.start E.o.size⟩⟩,E.o⟩
end jn
end Go.Proofs.YtfkihidbnfkbaaaGreatDoor
