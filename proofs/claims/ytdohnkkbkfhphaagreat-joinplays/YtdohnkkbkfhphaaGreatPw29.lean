import Derived.Test.YtdohnkkbkfhphaaGreatPw28
set_option linter.all false
set_option maxHeartbeats 16000000
set_option maxRecDepth 100000
open Go.ChangeShapes Go.WideShapes Go.ChangeAt Go.RowKit List
open Inhabited renaming default->ϰ
namespace Go.Proofs.YtdohnkkbkfhphaaGreat
open Go.Proofs.Tryz
namespace jn
open vl bf
attribute [local go_sem] Oper.semAt_some
theorem Abh(b:Nat)(p:pl.Pln)(x:pl.PA)(s:Jn)(y:JX)(v:Ev)(ra:Ϝ)(rc:Nat)(L w:ϛ)(h:JSt L w b 143 p x s y (vS none 0 0) [])(B:goodJ p s)(hc:comeJ p s v)(cj:v.side=2)(hv:vl.rowAt L ra v.row):
 η 283 #[μ b,Cg p v ra rc] w λe c=>e= .returned (.tuple #[])/\∃y' t' K,JSt L c b 143 p x (Av s 1 (Cb ((Cq p s v).map (·.seq)) s.L)) y' t' K/\K.map CO.chg=DU p s v/\BQ 143 w c:=by
 have U:calmC 143:=⟨⟨Ϡ,Ϡ,Ϡ⟩,Ϡ⟩;have HJ:=hV0 h;have eb:bufOf s (3 - v.side)=s.L:=by rw[cj];rfl
 have ex:Bl y (3 - v.side)=y.l:=by rw[cj];rfl
 have dh:=Bp hc.err;have hp:=(pl.D7 hc.err).1;have ef:∀z∈Aa s.R,wfE z/\wfP (Az z):=λz C=>B.wf z (mem_append.2 (.inr C));have ck:∀z∈Aa s.L,wfE z/\wfP (Az z):=λz C=>B.wf z (mem_append.2 (.inl C));have aj:ϝ (∀a,Ϟ w a->CT 273 #[AF s.R y.r,.string (pl.Ap p v.side v.row),vI (-1099511627776),vI 1099511627776] a λe c=>(∃(hh:Hdr) (c7:List EM),e= .returned (.tuple #[hdV hh,ω])/\OE c a (hdV hh) c7 (GQ p s v))/\Ϟ a c):=λa A=>(Vz s.R y.r _ (-1099511627776) 1099511627776 a (Ag h.r.at A) ef (by have:=B.ok.R.all;omega) (En B.ok.R)).mono (by
  rintro e c ⟨⟨hh,c7,l',rfl,hp,ey,ho⟩,c9⟩;rw[VQ B.ok.R hp ey]at ho;exact⟨⟨hh,c7,rfl,ho⟩,c9⟩)
 have KW:ϝ (∀a,Ϟ w a->CT 266 #[μ b,Cg p v ra rc,vI v.time,vI 1099511627776] a λe c=>(∃hh es,e= .returned (hdV hh)/\OE c a (hdV hh) es (Cv p s v v.time 1099511627776))/\Ϟ a c):=λa A=>Ih b p x s y _ v ra rc v.time 1099511627776 a hc.side (HJ.o.below A).box (by rw[eb,ex];exact(HJ.o.below A).l.at) (by rw[eb];exact B.ok.L) (by rw[eb];exact ck);have KJ:=hIz (λ(q:List Cel) (qa:Ϝ) (qc:Nat) (a:ϛ) (h1:0<q.length) (h2:q.length<=400) (A:Ϟ L a) (hq:vl.rowAt a qa q)=>DK v.side ra qa rc qc v.row q a dh.1 h1 dh.2 h2 (vl.Ac hv A) hq);have KA:=hIz (λ(q:List Cel) (qa:Ϝ) (qc:Nat) (a:ϛ) (h1:0<q.length) (h2:q.length<=400) (A:boxP a b p x) (hq:vl.rowAt a qa q)=>IE b p x 1 qa qc q a hp Ϡ A hq h1 h2);have KP:=hIz (λ(a:ϛ)=>Ll p.mode 1 a);have bp:ϝ ((Cv p s v v.time 1099511627776).length<=4096/\(∀k,k<(Cv p s v v.time 1099511627776).length->(0<((Cv p s v v.time 1099511627776).getD k ϰ).row.length/\((Cv p s v v.time 1099511627776).getD k ϰ).row.length<=400))/\∀z∈Cv p s v v.time 1099511627776,pl.i64 z.seq):=⟨Kc (by rw[eb];exact B.ok.L),λk hk=>Bp (C8 B (Hl hc.side).1 (Kd (AD hk))),λz C=>(ck z (by have:=Kd C;rw[eb]at this;exact this)).2.seq⟩;have cc:ϝ ((GQ p s v).length<=4096/\(∀k,k<(GQ p s v).length->(0<((GQ p s v).getD k ϰ).row.length/\((GQ p s v).getD k ϰ).row.length<=400))/\Qv (GQ p s v)):=by
  have e0:∀z∈GQ p s v,z∈Aa s.R:=λz C=>by unfold GQ Cx at C;exact(mem_filter.1 ((A9 _).mem_iff.1 C)).1
  refine⟨?_,λk hk=>Bp (C8 B (side:=2) Ϡ (e0 _ (AD hk))),Ach _ _ _ _⟩;unfold GQ Cx;rw[(A9 _).length_eq];exact Nat.le_trans (length_filter_le ..) B.ok.R.all
 have HI:ϝ (okB (bufOf s 1)/\∀z∈Aa (bufOf s 1),pl.i64 z.seq):=⟨B.ok.L,λz C=>(ck z C).2.seq⟩;have b7:ϝ (Cq p s v=(Cv p s v v.time 1099511627776).filter (Hw (GQ p s v) v.time)):=Y5 cj;have a7:ϝ (DU p s v=(Cq p s v).flatMap (LW p v (GQ p s v))):=rfl;have cu:ϝ (∀vs e,LW p v vs e=match KY vs e with
  |some o=>[⟨3,AJ 1 e.row o.row⟩,⟨4,AJ v.side v.row e.row⟩]
  |none=>if keepsJ p.mode 1=true then [⟨3,AN p 1 e.row⟩,⟨4,AJ v.side v.row e.row⟩]else [⟨1,AJ v.side v.row e.row⟩]):=λvs e=>rfl
 have pm:=h.box.plan.2.1;have lb:=h.box.lt;obtain⟨av,al,ah⟩:=F2 h.box.join 2;have c6:A1 2=3:=rfl;have dq:bufOf s 2=s.R:=rfl;have dr:Bl y 2=y.r:=rfl;rw[c6,dq]at av;rw[c6,dr]at al ah;obtain⟨H,dx⟩:=nM (Cv p s v v.time 1099511627776);obtain⟨VS,dw⟩:=nM (GQ p s v);obtain⟨NT,dv⟩:=nM (DU p s v);rw[dx]at KW bp b7;rw[dw]at aj cc b7 a7;rw[dv]at a7⊢;rw[b7.o]at a7⊢;unfold Cg at KW⊢;obtain⟨kb,h1⟩:=nM (pl.Ap p v.side v.row);obtain⟨kh,h2⟩:=nM (pl.hasB p v.side v.row);obtain⟨rl,dg⟩:=nM v.row.length;obtain⟨c4,d1⟩:=nM (keepsJ p.mode 1);obtain⟨md,dc⟩:=nM p.mode;have cr:=hV0 dc;rw[d1]at KP cu;rw[dc]at KP pm;rw[h1,h2,dg]at KW⊢;rw[h1]at aj;rw[dg]at KJ;obtain⟨sd,d9⟩:=nM v.side;obtain⟨D,ee⟩:=nM v.time;rw[d9]at KW KJ cu⊢;rw[ee]at KW a7⊢;obtain⟨yr,eh⟩:=nM y.r;rw[eh]at aj al ah;obtain⟨fa,fb,⟨⟨m1,m2,m3⟩,fj⟩,rs⟩:=yr;obtain⟨e8,d3⟩:=nM s.R.lim;unfold AF hdV at aj;dsimp only at aj al ah;rw[d3]at aj av;obtain⟨n,hn⟩:=nM rs.length;rw[hn]at aj ah;clear h B hc hv dh hp ck ef eb ex dx dw dv h1 h2 dg d1 dc d9 ee cj c6 dq dr eh d3 hn b7;go_enter func283,ntmps283;go_wp2;generalize hV:(World.alloc w _)=V;have a9:Ϟ w V:=by rw[<-hV];exact Ϫ
 have s0:Δ V w 0 (vI sd):=by subst hV;go_simp
 have s1:Δ V w 1 (vI D):=by subst hV;go_simp
 have s2:Δ V w 2 (vS ra rl rc):=by subst hV;go_simp
 have s3:Δ V w 3 (.string kb):=by subst hV;go_simp
 have s4:Δ V w 4 (.bool kh):=by subst hV;go_simp
 have er:ϝ (An V w 92):=by subst hV;exact⟨_,_,World.alloc_heap_new w _⟩
 replace av:=cLz a9 av;replace al:=cLz a9 al;replace ah:=cLz a9 ah;clear hV;have SK:ϝ (∀c,Ϟ V c->Ϗ c w (vI sd) (vI D) (vS ra rl rc) (.string kb) (.bool kh)):=λc C=>⟨cLz C s0,cLz C s1,cLz C s2,cLz C s3,cLz C s4⟩
 go_region_held3 (λc=>Δ c w 3 (.string kb)/\ϑ c b 16 (vI e8) (vS m1 m2 m3) (vS fa n fb)) (first|exact⟨cLz hy s3,cLz hy av,cLz hy al,cLz hy ah⟩|exact⟨s3,av,al,ah⟩|go_keep)
  (first
   |(go_at_call 273;refine(aj.o _ a9.drew).mono ?_;rintro e X1 ⟨⟨vh,vs,rfl,d7⟩,cf⟩;have hy:Ϟ V X1:=bR.drew.trans cf;have bo:ϝ (OE X1 V.heap.size (vS vh.1 vh.2.1 vh.2.2) vs VS):=d7;clear d7;obtain⟨n1,n2,n3⟩:=vh;dsimp only at bo⊢))
 go_wp2;have cl:=hy
 go_region_held3 (λc=>Ϗ c w (vI sd) (vI D) (vS ra rl rc) (.string kb) (.bool kh)) (first|exact SK.o _ bd|exact SK.o _ cl.drew|go_keep)
  (first
   |(go_at_call 266;refine(KW.o _ (bT a9 cl).drew).mono ?_;rintro e X ⟨⟨wh,es,rfl,d8⟩,ew⟩;have eg:Ϟ X1 X:=bR.drew.trans ew;have bd:Ϟ V X:=bT cl eg;have b9:ϝ (OE X X1.heap.size (hdV wh) es H):=d8;clear d8;obtain⟨g1,g2,g3⟩:=wh;unfold hdV;dsimp only))
 have cq:ϝ (g2=H.length):=by
  show _=_;rw[<-b9.o.len];exact(Dq (p:=((g1,g2,g3),es)) b9.o).1.1
 have cv:ϝ (n2=VS.length):=by
  show _=_;rw[<-bo.o.len];exact(Dq (p:=((n1,n2,n3),vs)) bo.o).1.1
 have d0:Ϟ w X:=bT a9 bd;have bj:ϝ (JSt L X b 143 p x s y (vS none 0 0) []):=HJ.o.below d0;have a8:ϝ (OE X V (vS n1 n2 n3) vs VS):=bo.o.below eg;have dl:=hV0 b9.o;have c0:=cLz bd s0;have c1:=cLz bd s1;have c2:=cLz bd s2;have ay:ϝ (An X w 92):=Ae er.o bd;have fc:g2<=4096:=by rw[cq.o];exact bp.o.1
 have e6:n2<=4096:=by rw[cv.o];exact cc.o.1
 have lX:b<X.heap.size:=bj.o.box.lt;clear s0 s1 s2 s3 s4 SK KW aj av al ah bo b9 hy cl;go_wp2
 go_loopw [6,31] (λmv i wr=> ∃(k:Nat) (t':Value) (K:List CO) (ems:List EM),k<=g2/\i=vI k/\ϝ (JSt L wr b 143 p x s y t' K)/\ϝ (K.map CO.chg=((H.take k).filter (Hw VS D)).flatMap (LW p v VS))/\K.length<=2 * k/\ϝ (Cs 143 X wr)/\ϝ (MetL X wr mv ems ((H.take k).filter (Hw VS D)))) (λ_ i _=>g2 - (intOf i).toNat)
 case atStart=>exact⟨0,_,[],[],Nat.zero_le _,rfl,bj.o,rfl,Nat.le_refl _,Cs.refl _ _,⟨World.ownsRow_nil _ _ _ _,rfl,λk hk=>absurd hk (Nat.not_lt_zero k)⟩⟩
 case round=>
  obtain⟨k,t',K,ems,hk,rfl,b5,am,fe,ai,ab⟩:=hrel;by_cases e4:k<g2
  ·have bu:k<H.length:=by rw[<-cq.o];exact e4
   have cx:ϝ (OE wr X1 (vS g1 g2 g3) es H):=ai.o.oe U dl.o;obtain⟨gb,fk,ea,x1,x2,x3,x4,x5⟩:=(Dq (p:=((g1,g2,g3),es)) cx.o).2 k (by rw[cx.o.len];exact bu);dsimp only at ea;subst ea;have ba:=cx.o.ers.2 k bu;have ar:=bp.o.2.1 k bu;have b3:=Y6 (Hw VS D) bu;have cb:=cu.o VS (H.getD k ϰ);have a4:ϝ (∀a,Cs 143 X a->vl.rowAt a (es.getD k ϰ).row.1 (H.getD k ϰ).row):=λa db=>((db.oe U dl.o).ers.2 k bu).row;obtain⟨E,hE⟩:=nM (H.getD k ϰ);rw[hE]at ba ar b3 cb a4;obtain⟨⟨P,I,M,⟨f,t,l⟩,Q⟩,C⟩:∃z,es.getD k ϰ=z:=⟨_,rfl⟩;rw[C]at x1 x2 x3 x4 x5 ba a4;unfold hdV at x4;dsimp only at x1 x2 x3 x4 x5 a4;have ct:ϝ (M=E.seq):=ba.seq;have ed:I=E.time:=ba.time;have ci:t=E.row.length:=ba.len;have KU:ϝ (∀a,Ϟ wr a->CT 284 #[vS n1 n2 n3,vI I] a λe c=>(∃q:Nat,q<=n2/\e= .returned (vS n1 q n3)/\KY VS E=(VS.take q).getLast?)/\Ϟ a c):=λa A=>(Z6 n1 n2 n3 vs VS I V.heap.size a ((ai.o.oe U a8.o).below A) cv.o e6 cc.o.2.2).mono (by
    rintro e c ⟨⟨q,hq,rfl,hf⟩,c9⟩;refine⟨⟨q,hq,rfl,?_⟩,c9⟩;unfold KY;rw[hf,ed])
   have br:ϝ (∀a,Ϟ L a->vl.rowAt a f E.row->CT 267 (ν sd ra rl rc f t l) a λe c=>(∃R T,e= .returned (vS R (AJ sd v.row E.row).length T)/\A4 c a (vS R (AJ sd v.row E.row).length T) (AJ sd v.row E.row))/\Ϟ a c):=λa A hq=>by rw[ci];exact KJ.o E.row f l a ar.1 ar.2 A hq
   have cy:ϝ (∀a,boxP a b p x->vl.rowAt a f E.row->CT 270 #[μ b,vI 1,vS f t l] a λe c=>(∃R T,e= .returned (vS R (AN p 1 E.row).length T)/\A4 c a (vS R (AN p 1 E.row).length T) (AN p 1 E.row))/\Ϟ a c):=λa A hq=>by rw[ci];exact KA.o E.row f l a ar.1 ar.2 A hq
   have ev:ϝ (∀(q:List Cel) (qa:Ϝ) (qc:Nat) a,0<q.length->q.length<=400->vl.rowAt a f E.row->vl.rowAt a qa q->CT 267 #[vI 1,vS f t l,vS qa q.length qc] a λe c=>(∃R T,e= .returned (vS R (AJ 1 E.row q).length T)/\A4 c a (vS R (AJ 1 E.row q).length T) (AJ 1 E.row q))/\Ϟ a c):=λq qa qc a h1 h2 A hq=>by rw[ci];exact DK 1 f qa l qc E.row q a ar.1 h1 ar.2 h2 A hq
   have i1:(0:Int)<=(k:Int):=ϟ;have i2:(k:Int)<(g2:Int):=ϟ;obtain⟨JR,du⟩:=nM (AJ sd v.row E.row);rw[du]at br cb;obtain⟨jn,d2⟩:=nM JR.length;rw[d2]at br;obtain⟨F,ak⟩:=nM ((H.take k).filter (Hw VS D));rw[ak]at ab am b3;obtain⟨Z,bc⟩:=nM ems.length;have ao:=hV0 bc;have ff:Z<=4096:=by
    rw[<-bc,ab.o.len,<-ak];have:=length_filter_le (Hw VS D) (H.take k);rw[length_take]at this;omega
   have cp:ϝ ((H.take (k+1)).filter (Hw VS D)=F++if Hw VS D E=true then [E]else []):=b3;have dm:ϝ (LW p v VS E=match KY VS E with
    |some o=>[⟨3,AJ 1 E.row o.row⟩,⟨4,JR⟩]
    |none=>if c4=true then [⟨3,AN p 1 E.row⟩,⟨4,JR⟩]else [⟨1,JR⟩]):=cb
   have dd:K.length<=1000000:=ϟ;have fi:X.heap.size<=wr.heap.size:=ai.o.1.size;have b1:=ai.o.cell ay.o Ϡ Ϡ c1;clear ba ar hE C ed ci du d2 ak bc cb b3;go_upto_region 7 with(go_at_call 284;refine(KU.o _ Ϫ).mono ?_;rintro e W4 ⟨⟨q,hq,rfl,d5⟩,a0⟩;have di:ϝ (KY VS E=(VS.take q).getLast?):=d5;have a1:Ϟ wr W4:=Ϫ.trans (a0.mono ϡ);have bg:=cLz a0 (show Δ (ξ wr (ζ P I M f t l Q) 63) wr 0 (.string P) by go_simp);have cm:=cLz a0 (show Δ (ξ wr (ζ P I M f t l Q) 63) wr 1 (vI I) by go_simp);have cn:=cLz a0 (show Δ (ξ wr (ζ P I M f t l Q) 63) wr 2 (vI M) by go_simp);have a3:=cLz a0 (show Δ (ξ wr (ζ P I M f t l Q) 63) wr 3 (vS f t l) by go_simp);have co:=cLz a0 (show Δ (ξ wr (ζ P I M f t l Q) 63) wr 4 (.bool Q) by go_simp);have az:ϝ (An W4 wr 63):=Ae ⟨_,_,World.alloc_heap_new wr _⟩ a0;clear d5);by_cases e7:q=0
   ·subst e7;have dj:ϝ (KY VS E=none):=by show _=_;rw[di.o];rfl
    have b6:ϝ (Hw VS D E=true):=by show _=_;unfold Hw;rw[dj.o]
    have af:ϝ ((H.take (k+1)).filter (Hw VS D)=F++[E]):=by show _=_;rw[cp.o,b6.o,if_pos rfl]
    have ag:ϝ (LW p v VS E=if c4=true then [⟨3,AN p 1 E.row⟩,⟨4,JR⟩]else [⟨1,JR⟩]):=by show _=_;rw[dm.o,dj.o]
    refine gr.AQ 15 rfl Ϣ (S:=λc=>True) trivial (λd=>?_);refine tkz 0 39 d ?_;refine tkz 1 40 d ?_;refine tkz 2 41 d ?_;refine tkz 3 42 d ?_;refine sk 4 43 d ?_;refine sk 5 44 d ?_;refine sk 6 45 d ?_;refine sk 7 46 d ?_;refine sk 8 47 d ?_;refine sk 9 48 d ?_;refine sk 10 49 d ?_;refine sk 11 50 d ?_;refine sk 12 51 d ?_;refine sk 13 52 d ?_;refine tkz 14 53 d ?_;refine wpAnyH_done Ϣ ?_ _;have G:Ϟ W4 W4.drew:=bR.drew;generalize c8:W4.drew=u at G⊢;have a2:Ϟ wr u:=bT a1 G;replace bg:=cLz G bg;replace cm:=cLz G cm;replace cn:=cLz G cn;replace a3:=cLz G a3;replace co:=cLz G co;replace az:ϝ (An u wr 63):=Ae az.o G;have b4:ϝ (JSt L u b 143 p x s y t' K):=b5.o.below a2;have a5:ϝ (Cs 143 X u):=ai.o.trans (Cf a2);have a6:ϝ (MetL X u u6 ems F):=ab.o.below a2;have ap:ϝ (u.ownsRow X 63 5 u6 Z (Aq ems)):=by
     have:=a6.o.own;rw[ao.o]at this;exact this
    have ca:ϝ (∀g,u6.ownBlock=some g->X.heap.size<=g/\An u g 63):=λg B=>⟨(AM ap.o B).1,A6 ap.o B⟩;have aw:ϝ (∀g,u6.ownBlock=some g->g≠wr.heap.size):=λg B e=>by
     have:=(AM ab.o.own B).2;omega
    have l5:X.heap.size<=u.heap.size:=a5.o.1.size;have e9:wr.heap.size<u.heap.size:=bLt _ _ bg;clear c8 G
    cases c4 with
    |true=>
     replace ag:ϝ (LW p v VS E=[⟨3,AN p 1 E.row⟩,⟨4,JR⟩]):=by show _=_;rw[ag.o,if_pos rfl]
     obtain⟨AR,ds⟩:=nM (AN p 1 E.row);rw[ds]at cy ag;obtain⟨an,dy⟩:=nM AR.length;rw[dy]at cy;clear ds dy;go_wp2_with (first
      |(at_builtin;refine wpList_appE rfl (.tmp 54) (.tmp 56) rfl X.heap.size u6 ems P I M f t l Q u Z ao.o ap.o ϟ ϟ rfl rfl ?_;intro g aq j au W;have ac:=Oc bj.o U b4.o a5.o W ca.o;have aa:ϝ (JSt L j b 143 p x s y t' K):=ac.1;have J:ϝ (Cs 143 X j):=ac.2;have bk:ϝ (MetL X j (vS (τ g) (Z+1) aq) (ems++[⟨P,I,M,(f,t,l),Q⟩]) (F++[E])):=MetL.snoc a6.o ct.o (by rw[ao.o];exact au);have z3:=Cr W aw.o a3;have bq:ϝ (An j wr.heap.size 63):=Oe W aw.o az.o;have k0:=J.o.cell ay.o Ϡ Ϡ c0;have k2:=J.o.cell ay.o Ϡ Ϡ c2;have b0:Δ j b 1 (vI md):=(by rw[<-cr.o];exact aa.o.box.plan.2.1);have bi:ϝ (Ϟ L j):=aa.o.bl;have ax:ϝ (vl.rowAt j f E.row):=a4.o j J.o;clear ac au W)
      |(go_at_call 267;(with_reducible refine(br.o _ bi.o ax.o).mono ?_);rintro e Y ⟨⟨R,T,rfl,bw⟩,r⟩;have be:=cLz r z3;have ej:=cLz r b0;have cd:ϝ (An Y wr.heap.size 63):=Ae bq.o r)
      |(go_at_call 268;refine(KP.o _).mono ?_;rintro e Y ⟨rfl,rfl⟩))
     have bm:ϝ (∀c,Cs 143 j c->MetL X c (vS (τ g) (Z+1) aq) (ems++[⟨P,I,M,(f,t,l),Q⟩]) (F++[E])):=λc hk=>bk.o.keep U hk;have bh:ϝ (∀a,Ϟ Y a->boxP a b p x/\vl.rowAt a f E.row):=λa A=>⟨Ad aa.o.box.plan (bT r A),vl.Ac ax.o (bT r A)⟩
     go_region_held3 (λc=>Δ c wr 3 (vS f t l)) (first|exact bz|go_keep)
      (first
       |(go_at_call 269;refine(Qu aa.o U dd r bw N de).mono ?_;rintro e w8 ⟨rfl,t8,bs,ae⟩;have bz:Δ w8 wr 3 (vS f t l):=ae.cell (Ae cd.o N) Ϡ Ϡ (cLz N be))
       |(go_at_call 270;refine(cy.o _ (bh.o _ bR.drew).1 (bh.o _ bR.drew).2).mono ?_;rintro e w7 ⟨⟨c3,c5,rfl,df⟩,da⟩;have N:Ϟ Y w7:=bR.drew.trans da;have de:A4 w7 Y.heap.size (vS c3 an c5) AR:=df;have bz:Δ w7 wr 3 (vS f t l):=cLz N be))
     all_goals
      go_wp2;go_roundw
      (case rel=>exact⟨k+1,t8,_,_,ϟ,by go_num,bs,by show _=_;rw[map_append,am.o,af.o,flatMap_append,Od,ag.o];rfl,by rw[lAp];show _+2<=_;omega,J.o.trans ((Cf (bT r N)).trans ae),by rw[af.o];exact bm.o _ ((Cf (bT r N)).trans ae)⟩)
      (case measure=>simp[intOf];omega)
    |false=>
     replace ag:ϝ (LW p v VS E=[⟨1,JR⟩]):=by show _=_;rw[ag.o,if_neg ϡ]
     go_wp2_with (first
      |(at_builtin;refine wpList_appE rfl (.tmp 54) (.tmp 56) rfl X.heap.size u6 ems P I M f t l Q u Z ao.o ap.o ϟ ϟ rfl rfl ?_;intro g aq j au W;have ac:=Oc bj.o U b4.o a5.o W ca.o;have aa:ϝ (JSt L j b 143 p x s y t' K):=ac.1;have J:ϝ (Cs 143 X j):=ac.2;have bk:ϝ (MetL X j (vS (τ g) (Z+1) aq) (ems++[⟨P,I,M,(f,t,l),Q⟩]) (F++[E])):=MetL.snoc a6.o ct.o (by rw[ao.o];exact au);have z3:=Cr W aw.o a3;have bq:ϝ (An j wr.heap.size 63):=Oe W aw.o az.o;have k0:=J.o.cell ay.o Ϡ Ϡ c0;have k2:=J.o.cell ay.o Ϡ Ϡ c2;have b0:Δ j b 1 (vI md):=(by rw[<-cr.o];exact aa.o.box.plan.2.1);have bi:ϝ (Ϟ L j):=aa.o.bl;have ax:ϝ (vl.rowAt j f E.row):=a4.o j J.o;clear ac au W)
      |(go_at_call 267;(with_reducible refine(br.o _ bi.o ax.o).mono ?_);rintro e Y ⟨⟨R,T,rfl,bw⟩,r⟩;have be:=cLz r z3;have ej:=cLz r b0;have cd:ϝ (An Y wr.heap.size 63):=Ae bq.o r)
      |(go_at_call 268;refine(KP.o _).mono ?_;rintro e Y ⟨rfl,rfl⟩)
      |(go_at_call 271;refine(Fz aa.o U dd r bw).mono ?_;rintro e w8 ⟨rfl,t8,bs,ae⟩))
     have bm:ϝ (∀c,Cs 143 j c->MetL X c (vS (τ g) (Z+1) aq) (ems++[⟨P,I,M,(f,t,l),Q⟩]) (F++[E])):=λc hk=>bk.o.keep U hk;go_roundw
     (case rel=>exact⟨k+1,t8,_,_,ϟ,by go_num,bs,by show _=_;rw[map_append,am.o,af.o,flatMap_append,Od,ag.o];rfl,by rw[lAp];show _+1<=_;omega,J.o.trans ((Cf r).trans ae),by rw[af.o];exact bm.o _ ((Cf r).trans ae)⟩)
     (case measure=>simp[intOf];omega)
   ·obtain⟨m,rfl⟩:∃m,q=m+1:=⟨q - 1,ϟ⟩;have bb:m<VS.length:=by rw[<-cv.o];omega
    obtain⟨vb,b2,ea,y1,y2,y3,y4,y5⟩:=(Dq (p:=((n1,n2,n3),vs)) a8.o).2 m (by rw[a8.o.len];exact bb);dsimp only at ea;subst ea;have bx:=a8.o.ers.2 m bb;have cg:=cc.o.2.1 m bb;have cs:ϝ (KY VS E=some (VS.getD m ϰ)):=by show _=_;rw[di.o,Y7 bb]
    have b8:ϝ (∀a,Cs 143 X a->vl.rowAt a (vs.getD m ϰ).row.1 (VS.getD m ϰ).row):=λa db=>((db.oe U a8.o).ers.2 m bb).row;obtain⟨O,hO⟩:=nM (VS.getD m ϰ);rw[hO]at bx cg cs b8;obtain⟨⟨fl,ot,fm,⟨o1,o2,o3⟩,om⟩,ei⟩:∃z,vs.getD m ϰ=z:=⟨_,rfl⟩;rw[ei]at y2 y4 bx b8;unfold hdV at y4;dsimp only at y2 y4 b8;have d6:ot=O.time:=bx.time;have d4:o2=O.row.length:=bx.len;have cw:ϝ (An X vb 63):=A6 a8.o.own rfl;have eo:=cLz a1 (ai.o.cell cw.o Ϡ Ϡ y2);have dp:=cLz a1 b1;have cz:ϝ (∀a,vl.rowAt a f E.row->vl.rowAt a o1 O.row->CT 267 #[vI 1,vS f t l,vS o1 o2 o3] a λe c=>(∃R T,e= .returned (vS R (AJ 1 E.row O.row).length T)/\A4 c a (vS R (AJ 1 E.row O.row).length T) (AJ 1 E.row O.row))/\Ϟ a c):=λa h1 h2=>by rw[d4];exact ev.o O.row o1 o3 a cg.1 cg.2 h1 h2
    have i3:(0:Int)<(m:Int)+1:=ϟ;have i4:(0:Int)<=(m:Int):=ϟ;have i5:(m:Int)<(m:Int)+1:=ϟ;have fg:IntKind.i64.wrap ((m:Int)+1 - 1)=(m:Int):=by rw[ch.BA];omega
    have fh:IntKind.i64.wrap (m:Int)=(m:Int):=by rw[ch.BA];omega
    have b6:ϝ (Hw VS D E=decide (ot<=D)):=by show _=_;unfold Hw;rw[cs.o,d6]
    clear bx cg hO ei d6 d4 y1 y3 y5 bb;by_cases bv:ot<=D
    ·have ez:∀ty,binOp .gtr ty (vI ot) (vI D)=pure (.bool false):=pl.Fl false (by simpa using bv);have af:ϝ ((H.take (k+1)).filter (Hw VS D)=F++[E]):=by show _=_;rw[cp.o,b6.o,decide_eq_true bv,if_pos rfl]
     have ag:ϝ (LW p v VS E=[⟨3,AJ 1 E.row O.row⟩,⟨4,JR⟩]):=by show _=_;rw[dm.o,cs.o]
     clear bv;refine gr.AQ 15 rfl Ϣ (S:=λc=>Δ c vb (b2+m * 5+1) (vI ot)/\Δ c w 1 (vI D)) ⟨eo,dp⟩ (λd=>?_);refine tkz 0 39 d ?_;refine tkz 1 40 d ?_;refine tkz 2 41 d ?_;refine tkz 3 42 d ?_;refine tkz 4 43 d ?_;refine tkz 5 44 d ?_;refine tkz 6 45 d ?_;refine tkz 7 46 d ?_;refine tkz 8 47 d ?_;refine tkz 9 48 d ?_;refine tkz 10 49 d ?_;refine tkz 11 50 d ?_;refine tkz 12 51 d ?_;refine tkz 13 52 d ?_;refine tkz 14 53 d ?_;refine wpAnyH_done Ϣ ?_ _;have G:Ϟ W4 W4.drew:=bR.drew;generalize c8:W4.drew=u at G⊢;have a2:Ϟ wr u:=bT a1 G;replace bg:=cLz G bg;replace cm:=cLz G cm;replace cn:=cLz G cn;replace a3:=cLz G a3;replace co:=cLz G co;replace az:ϝ (An u wr 63):=Ae az.o G;have b4:ϝ (JSt L u b 143 p x s y t' K):=b5.o.below a2;have a5:ϝ (Cs 143 X u):=ai.o.trans (Cf a2);have a6:ϝ (MetL X u u6 ems F):=ab.o.below a2;have ap:ϝ (u.ownsRow X 63 5 u6 Z (Aq ems)):=by
      have:=a6.o.own;rw[ao.o]at this;exact this
     have ca:ϝ (∀g,u6.ownBlock=some g->X.heap.size<=g/\An u g 63):=λg B=>⟨(AM ap.o B).1,A6 ap.o B⟩;have aw:ϝ (∀g,u6.ownBlock=some g->g≠wr.heap.size):=λg B e=>by
      have:=(AM ab.o.own B).2;omega
     have l5:X.heap.size<=u.heap.size:=a5.o.1.size;have e9:wr.heap.size<u.heap.size:=bLt _ _ bg;clear c8 G;obtain⟨BR,dt⟩:=nM (AJ 1 E.row O.row);rw[dt]at cz ag;obtain⟨bn,cf⟩:=nM BR.length;rw[cf]at cz;clear dt cf;go_wp2_with (first
      |(at_builtin;refine wpList_appE rfl (.tmp 54) (.tmp 56) rfl X.heap.size u6 ems P I M f t l Q u Z ao.o ap.o ϟ ϟ rfl rfl ?_;intro g aq j au W;have ac:=Oc bj.o U b4.o a5.o W ca.o;have aa:ϝ (JSt L j b 143 p x s y t' K):=ac.1;have J:ϝ (Cs 143 X j):=ac.2;have bk:ϝ (MetL X j (vS (τ g) (Z+1) aq) (ems++[⟨P,I,M,(f,t,l),Q⟩]) (F++[E])):=MetL.snoc a6.o ct.o (by rw[ao.o];exact au);have z3:=Cr W aw.o a3;have bq:ϝ (An j wr.heap.size 63):=Oe W aw.o az.o;have k0:=J.o.cell ay.o Ϡ Ϡ c0;have k2:=J.o.cell ay.o Ϡ Ϡ c2;have b0:Δ j b 1 (vI md):=(by rw[<-cr.o];exact aa.o.box.plan.2.1);have bi:ϝ (Ϟ L j):=aa.o.bl;have ax:ϝ (vl.rowAt j f E.row):=a4.o j J.o;clear ac au W)
      |(go_at_call 267;(with_reducible refine(br.o _ bi.o ax.o).mono ?_);rintro e Y ⟨⟨R,T,rfl,bw⟩,r⟩;have be:=cLz r z3;have ej:=cLz r b0;have cd:ϝ (An Y wr.heap.size 63):=Ae bq.o r))
     have bm:ϝ (∀c,Cs 143 j c->MetL X c (vS (τ g) (Z+1) aq) (ems++[⟨P,I,M,(f,t,l),Q⟩]) (F++[E])):=λc hk=>bk.o.keep U hk;have en:=cLz r (J.o.cell cw.o Ϡ Ϡ y4);have eu:ϝ (An Y vb 63):=Ae (J.o.ty cw.o Ϡ Ϡ) r;have bh:ϝ (∀a,Ϟ Y a->vl.rowAt a f E.row/\vl.rowAt a o1 O.row):=λa A=>⟨vl.Ac ax.o (bT r A),vl.Ac (b8.o j J.o) (bT r A)⟩
     go_region_held3 (λc=>Δ c wr 3 (vS f t l)/\Δ c vb (b2+m * 5+1+1+1) (vS o1 o2 o3)) (first|exact bz|go_keep)
      (first
       |(go_at_call 269;refine(Qu aa.o U dd r bw N de).mono ?_;rintro e w8 ⟨rfl,t8,bs,ae⟩;have bz:Δ w8 wr 3 (vS f t l)/\Δ w8 vb (b2+m * 5+1+1+1) (vS o1 o2 o3):=⟨ae.cell (Ae cd.o N) Ϡ Ϡ (cLz N be),ae.cell (Ae eu.o N) Ϡ Ϡ (cLz N en)⟩)
       |(go_at_call 267;refine(cz.o _ (bh.o _ bR.drew).1 (bh.o _ bR.drew).2).mono ?_;rintro e w7 ⟨⟨c3,c5,rfl,df⟩,da⟩;have N:Ϟ Y w7:=bR.drew.trans da;have de:A4 w7 Y.heap.size (vS c3 bn c5) BR:=df;have bz:Δ w7 wr 3 (vS f t l)/\Δ w7 vb (b2+m * 5+1+1+1) (vS o1 o2 o3):=⟨cLz N be,cLz N en⟩))
     all_goals
      go_wp2;go_roundw
      (case rel=>exact⟨k+1,t8,_,_,ϟ,by go_num,bs,by show _=_;rw[map_append,am.o,af.o,flatMap_append,Od,ag.o];rfl,by rw[lAp];show _+2<=_;omega,J.o.trans ((Cf (bT r N)).trans ae),by rw[af.o];exact bm.o _ ((Cf (bT r N)).trans ae)⟩)
      (case measure=>simp[intOf];omega)
    ·have ez:∀ty,binOp .gtr ty (vI ot) (vI D)=pure (.bool true):=pl.Fl true (by simpa using bv);have af:ϝ ((H.take (k+1)).filter (Hw VS D)=F):=by show _=_;rw[cp.o,b6.o,decide_eq_false ϟ,if_neg ϡ,append_nil]
     clear bv;refine gr.AQ 15 rfl Ϣ (S:=λc=>Δ c vb (b2+m * 5+1) (vI ot)/\Δ c w 1 (vI D)) ⟨eo,dp⟩ (λd=>?_);refine tkz 0 39 d ?_;refine tkz 1 40 d ?_;refine tkz 2 41 d ?_;refine tkz 3 42 d ?_;refine tkz 4 43 d ?_;refine tkz 5 44 d ?_;refine tkz 6 45 d ?_;refine tkz 7 46 d ?_;refine tkz 8 47 d ?_;refine tkz 9 48 d ?_;refine tkz 10 49 d ?_;refine tkz 11 50 d ?_;refine tkz 12 51 d ?_;refine tkz 13 52 d ?_;refine tkz 14 53 d ?_;refine wpAnyH_done Ϣ ?_ _;go_wp2;go_roundw
     (case rel=>exact⟨k+1,t',K,ems,ϟ,by go_num,b5.o.below a1.drew,by show _=_;rw[af.o];exact am.o,ϟ,ai.o.trans (Cf a1.drew),by rw[af.o];exact ab.o.below a1.drew⟩)
     (case measure=>simp[intOf];omega)
  ·have e3:k=g2:=ϟ;subst e3;have fd:¬((k:Int)<(k:Int)):=ϟ;have ec:H.take k=H:=by rw[cq.o,take_length]
   rw[ec]at am ab;obtain⟨F,ak⟩:=nM (H.filter (Hw VS D));rw[ak]at am ab a7;have ep:=hV0 ak;obtain⟨ma,mc,hu,dz⟩:=ab.o.at;have e5:F.length<=4096:=by
    rw[<-ak];exact Nat.le_trans (length_filter_le ..) bp.o.1
   have KM:ϝ (CT 272 #[μ b,vI 1,vS ma F.length mc] wr λe c=>e= .returned (.tuple #[])/\∃y',JSt L c b 143 p x (Av s 1 (Cb (F.map (·.seq)) (bufOf s 1))) y' t' K/\JO wr c):=Nh b _ p x s y t' K 1 (ma,F.length,mc) ems F L wr b5.o U HI.o.1 HI.o.2 rfl dz ab.o.len ab.o.seq ϟ (λz C=>bp.o.2.2 z (by rw[<-ak]at C;exact(mem_filter.1 C).1));obtain⟨Z,bc⟩:=nM F.length;rw[bc]at KM hu;subst hu;clear ec ak dz bc e5;go_wp2_with (go_at_call 272;refine KM.o.mono ?_;rintro e X9 ⟨rfl,y',e1,e2⟩);refine bodyPost_end (v:=.tuple #[]) (by simp[results,results283,go_sem]) rfl ⟨rfl,y',t',K,?_,?_,?_⟩
   ·rw[ep.o];exact e1
   ·rw[am.o,a7.o]
   ·exact((A7 d0).trans ai.o.m).trans e2.m
end jn
end Go.Proofs.YtdohnkkbkfhphaaGreat
