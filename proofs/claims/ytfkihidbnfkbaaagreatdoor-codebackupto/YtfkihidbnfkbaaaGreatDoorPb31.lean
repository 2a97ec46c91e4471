import Derived.Test.YtfkihidbnfkbaaaGreatDoorPb29
set_option linter.all false
set_option maxHeartbeats 16000000
set_option maxRecDepth 100000
open Go.ChangeShapes Go.WideShapes Go.ChangeAt Go.RowKit List
open Inhabited renaming default->ϰ
namespace Go.Proofs.YtfkihidbnfkbaaaGreatDoor
open Go.Proofs.Tryz
namespace jn
open vl bf
attribute [local go_sem] Oper.semAt_some
theorem AcF(b:Nat)(p:pl.Pln)(x:pl.PA)(s:Jn)(y:JX)(v:Ev)(ra:Ϛ)(rc:Nat)(L w:ϙ)(h:JSt L w b 274 p x s y (vS none 0 0) [])(B:goodJ p s)(hc:comeJ p s v)(cj:v.side=2)(hv:vl.rowAt L ra v.row):
 η 389 #[μ b,BE p v ra rc] w λe c=>e= .returned (.tuple #[])/\∃y' t' K,JSt L c b 274 p x (A7 s 1 (CJ ((Ee p s v).map (·.seq)) s.L)) y' t' K/\K.map CO.chg=I8 p s v/\Bz 274 w c:=by
 have U:calmC 274:=⟨⟨Ϟ,Ϟ,Ϟ⟩,Ϟ⟩;have HJ:=hqz h;have eb:Ak s (3 - v.side)=s.L:=by rw[cj];rfl
 have ex:B7 y (3 - v.side)=y.l:=by rw[cj];rfl
 have dh:=Et hc.err;have hp:=(pl.Dk hc.err).1;have ef:∀z∈Ac s.R,wfE z/\wfP (Bd z):=λz C=>B.wf z (mem_append.2 (.inr C));have ck:∀z∈Ac s.L,wfE z/\wfP (Bd z):=λz C=>B.wf z (mem_append.2 (.inl C));have aj:ϛ (∀a,Ϝ w a->CT 363 #[AZ s.R y.r,.string (pl.As p v.side v.row),vI (-1099511627776),vI 1099511627776] a λe c=>(∃(hh:Hdr) (c7:List EM),e= .returned (.tuple #[hdV hh,ω])/\OE c a (hdV hh) c7 (Gd p s v))/\Ϝ a c):=λa A=>(Vn s.R y.r _ (-1099511627776) 1099511627776 a (An h.r.at A) ef (by have:=B.ok.R.all;omega) (Ez B.ok.R)).mono (by
  rintro e c ⟨⟨hh,c7,l',rfl,hp,ey,ho⟩,c9⟩;rw[Vl B.ok.R hp ey]at ho;exact⟨⟨hh,c7,rfl,ho⟩,c9⟩)
 have KW:ϛ (∀a,Ϝ w a->CT 352 #[μ b,BE p v ra rc,vI v.time,vI 1099511627776] a λe c=>(∃hh es,e= .returned (hdV hh)/\OE c a (hdV hh) es (BU p s v v.time 1099511627776))/\Ϝ a c):=λa A=>H9 b p x s y _ v ra rc v.time 1099511627776 a hc.side (HJ.o.below A).box (by rw[eb,ex];exact(HJ.o.below A).l.at) (by rw[eb];exact B.ok.L) (by rw[eb];exact ck);have KJ:=hIz (λ(q:List Cel) (qa:Ϛ) (qc:Nat) (a:ϙ) (h1:0<q.length) (h2:q.length<=400) (A:Ϝ L a) (hq:vl.rowAt a qa q)=>Cy v.side ra qa rc qc v.row q a dh.1 h1 dh.2 h2 (vl.Ab hv A) hq);have KA:=hIz (λ(q:List Cel) (qa:Ϛ) (qc:Nat) (a:ϙ) (h1:0<q.length) (h2:q.length<=400) (A:Bh a b p x) (hq:vl.rowAt a qa q)=>I3 b p x 1 qa qc q a hp Ϟ A hq h1 h2);have KP:=hIz (λ(a:ϙ)=>Ln p.mode 1 a);have bp:ϛ ((BU p s v v.time 1099511627776).length<=4096/\(∀k,k<(BU p s v v.time 1099511627776).length->(0<((BU p s v v.time 1099511627776).getD k ϰ).row.length/\((BU p s v v.time 1099511627776).getD k ϰ).row.length<=400))/\∀z∈BU p s v v.time 1099511627776,pl.i64 z.seq):=⟨Kj (by rw[eb];exact B.ok.L),λk hk=>Et (F5 B (IZ hc.side).1 (Kk (Bj hk))),λz C=>(ck z (by have:=Kk C;rw[eb]at this;exact this)).2.seq⟩;have cc:ϛ ((Gd p s v).length<=4096/\(∀k,k<(Gd p s v).length->(0<((Gd p s v).getD k ϰ).row.length/\((Gd p s v).getD k ϰ).row.length<=400))/\PC (Gd p s v)):=by
  have e1:∀z∈Gd p s v,z∈Ac s.R:=λz C=>by unfold Gd CZ at C;exact(mem_filter.1 ((BL _).mem_iff.1 C)).1
  refine⟨?_,λk hk=>Et (F5 B (side:=2) Ϟ (e1 _ (Bj hk))),Ab8 _ _ _ _⟩;unfold Gd CZ;rw[(BL _).length_eq];exact Nat.le_trans (length_filter_le ..) B.ok.R.all
 have HI:ϛ (okB (Ak s 1)/\∀z∈Ac (Ak s 1),pl.i64 z.seq):=⟨B.ok.L,λz C=>(ck z C).2.seq⟩;have b7:ϛ (Ee p s v=(BU p s v v.time 1099511627776).filter (Ha (Gd p s v) v.time)):=WM cj;have a7:ϛ (I8 p s v=(Ee p s v).flatMap (L0 p v (Gd p s v))):=rfl;have cu:ϛ (∀vs e,L0 p v vs e=match JN vs e with
  |some o=>[⟨3,Ba 1 e.row o.row⟩,⟨4,Ba v.side v.row e.row⟩]
  |none=>if C6 p.mode 1=true then [⟨3,AY p 1 e.row⟩,⟨4,Ba v.side v.row e.row⟩]else [⟨1,Ba v.side v.row e.row⟩]):=λvs e=>rfl
 have pm:=h.box.plan.2.1;have lb:=h.box.lt;obtain⟨av,al,ah⟩:=Ff h.box.join 2;have c6:Au 2=3:=rfl;have dq:Ak s 2=s.R:=rfl;have dr:B7 y 2=y.r:=rfl;rw[c6,dq]at av;rw[c6,dr]at al ah;obtain⟨H,dx⟩:=nM (BU p s v v.time 1099511627776);obtain⟨VS,dw⟩:=nM (Gd p s v);obtain⟨NT,dv⟩:=nM (I8 p s v);rw[dx]at KW bp b7;rw[dw]at aj cc b7 a7;rw[dv]at a7⊢;rw[b7.o]at a7⊢;unfold BE at KW⊢;obtain⟨kb,h1⟩:=nM (pl.As p v.side v.row);obtain⟨kh,h2⟩:=nM (pl.hasB p v.side v.row);obtain⟨rl,dg⟩:=nM v.row.length;obtain⟨c4,d1⟩:=nM (C6 p.mode 1);obtain⟨md,dc⟩:=nM p.mode;have cr:=hqz dc;rw[d1]at KP cu;rw[dc]at KP pm;rw[h1,h2,dg]at KW⊢;rw[h1]at aj;rw[dg]at KJ;obtain⟨sd,d9⟩:=nM v.side;obtain⟨D,ee⟩:=nM v.time;rw[d9]at KW KJ cu⊢;rw[ee]at KW a7⊢;obtain⟨yr,eh⟩:=nM y.r;rw[eh]at aj al ah;obtain⟨fb,fc,⟨⟨m1,m2,m3⟩,fk⟩,rs⟩:=yr;obtain⟨e9,d3⟩:=nM s.R.lim;unfold AZ hdV at aj;dsimp only at aj al ah;rw[d3]at aj av;obtain⟨n,hn⟩:=nM rs.length;rw[hn]at aj ah;clear h B hc hv dh hp ck ef eb ex dx dw dv h1 h2 dg d1 dc d9 ee cj c6 dq dr eh d3 hn b7;go_enter func389,ntmps389;go_wp2;generalize hV:(World.alloc w _)=V;have a9:Ϝ w V:=by rw[<-hV];exact Ϩ
 have s0:Δ V w 0 (vI sd):=by subst hV;go_simp
 have s1:Δ V w 1 (vI D):=by subst hV;go_simp
 have s2:Δ V w 2 (vS ra rl rc):=by subst hV;go_simp
 have s3:Δ V w 3 (.string kb):=by subst hV;go_simp
 have s4:Δ V w 4 (.bool kh):=by subst hV;go_simp
 have er:ϛ (Ai V w 208):=by subst hV;exact⟨_,_,World.alloc_heap_new w _⟩
 replace av:=cLz a9 av;replace al:=cLz a9 al;replace ah:=cLz a9 ah;clear hV;have SK:ϛ (∀c,Ϝ V c->ώ c w (vI sd) (vI D) (vS ra rl rc) (.string kb) (.bool kh)):=λc C=>⟨cLz C s0,cLz C s1,cLz C s2,cLz C s3,cLz C s4⟩
 go_region_held3 (λc=>Δ c w 3 (.string kb)/\Ϗ c b 16 (vI e9) (vS m1 m2 m3) (vS fb n fc)) (first|exact⟨cLz hy s3,cLz hy av,cLz hy al,cLz hy ah⟩|exact⟨s3,av,al,ah⟩|go_keep)
  (first
   |(go_at_call 363;refine(aj.o _ a9.drew).mono ?_;rintro e X1 ⟨⟨vh,vs,rfl,d7⟩,cf⟩;have hy:Ϝ V X1:=bR.drew.trans cf;have bo:ϛ (OE X1 V.heap.size (vS vh.1 vh.2.1 vh.2.2) vs VS):=d7;clear d7;obtain⟨n1,n2,n3⟩:=vh;dsimp only at bo⊢))
 go_wp2;have cl:=hy
 go_region_held3 (λc=>ώ c w (vI sd) (vI D) (vS ra rl rc) (.string kb) (.bool kh)) (first|exact SK.o _ bd|exact SK.o _ cl.drew|go_keep)
  (first
   |(go_at_call 352;refine(KW.o _ (bT a9 cl).drew).mono ?_;rintro e X ⟨⟨wh,es,rfl,d8⟩,ew⟩;have eg:Ϝ X1 X:=bR.drew.trans ew;have bd:Ϝ V X:=bT cl eg;have b9:ϛ (OE X X1.heap.size (hdV wh) es H):=d8;clear d8;obtain⟨g1,g2,g3⟩:=wh;unfold hdV;dsimp only))
 have cq:ϛ (g2=H.length):=by
  show _=_;rw[<-b9.o.len];exact(C9 (p:=((g1,g2,g3),es)) b9.o).1.1
 have cv:ϛ (n2=VS.length):=by
  show _=_;rw[<-bo.o.len];exact(C9 (p:=((n1,n2,n3),vs)) bo.o).1.1
 have d0:Ϝ w X:=bT a9 bd;have bj:ϛ (JSt L X b 274 p x s y (vS none 0 0) []):=HJ.o.below d0;have a8:ϛ (OE X V (vS n1 n2 n3) vs VS):=bo.o.below eg;have dl:=hqz b9.o;have c0:=cLz bd s0;have c1:=cLz bd s1;have c2:=cLz bd s2;have ay:ϛ (Ai X w 208):=Ad er.o bd;have fd:g2<=4096:=by rw[cq.o];exact bp.o.1
 have e7:n2<=4096:=by rw[cv.o];exact cc.o.1
 have lX:b<X.heap.size:=bj.o.box.lt;clear s0 s1 s2 s3 s4 SK KW aj av al ah bo b9 hy cl;go_wp2
 go_loopw [6,31] (λmv i wr=> ∃(k:Nat) (t':Value) (K:List CO) (ems:List EM),k<=g2/\i=vI k/\ϛ (JSt L wr b 274 p x s y t' K)/\ϛ (K.map CO.chg=((H.take k).filter (Ha VS D)).flatMap (L0 p v VS))/\K.length<=2 * k/\ϛ (BM 274 X wr)/\ϛ (MetL X wr mv ems ((H.take k).filter (Ha VS D)))) (λ_ i _=>g2 - (intOf i).toNat)
 case atStart=>exact⟨0,_,[],[],Nat.zero_le _,rfl,bj.o,rfl,Nat.le_refl _,BM.refl _ _,⟨World.ownsRow_nil _ _ _ _,rfl,λk hk=>absurd hk (Nat.not_lt_zero k)⟩⟩
 case round=>
  obtain⟨k,t',K,ems,hk,rfl,b5,am,ff,ai,ab⟩:=hrel;by_cases e5:k<g2
  ·have bu:k<H.length:=by rw[<-cq.o];exact e5
   have cx:ϛ (OE wr X1 (vS g1 g2 g3) es H):=ai.o.oe U dl.o;obtain⟨gb,fl,ea,x1,x2,x3,x4,x5⟩:=(C9 (p:=((g1,g2,g3),es)) cx.o).2 k (by rw[cx.o.len];exact bu);dsimp only at ea;subst ea;have ba:=cx.o.ers.2 k bu;have ar:=bp.o.2.1 k bu;have b3:=WN (Ha VS D) bu;have cb:=cu.o VS (H.getD k ϰ);have a4:ϛ (∀a,BM 274 X a->vl.rowAt a (es.getD k ϰ).row.1 (H.getD k ϰ).row):=λa db=>((db.oe U dl.o).ers.2 k bu).row;obtain⟨E,hE⟩:=nM (H.getD k ϰ);rw[hE]at ba ar b3 cb a4;obtain⟨⟨P,I,M,⟨f,t,l⟩,Q⟩,C⟩:∃z,es.getD k ϰ=z:=⟨_,rfl⟩;rw[C]at x1 x2 x3 x4 x5 ba a4;unfold hdV at x4;dsimp only at x1 x2 x3 x4 x5 a4;have ct:ϛ (M=E.seq):=ba.seq;have ed:I=E.time:=ba.time;have ci:t=E.row.length:=ba.len;have KU:ϛ (∀a,Ϝ wr a->CT 390 #[vS n1 n2 n3,vI I] a λe c=>(∃q:Nat,q<=n2/\e= .returned (vS n1 q n3)/\JN VS E=(VS.take q).getLast?)/\Ϝ a c):=λa A=>(Zr n1 n2 n3 vs VS I V.heap.size a ((ai.o.oe U a8.o).below A) cv.o e7 cc.o.2.2).mono (by
    rintro e c ⟨⟨q,hq,rfl,hf⟩,c9⟩;refine⟨⟨q,hq,rfl,?_⟩,c9⟩;unfold JN;rw[hf,ed])
   have br:ϛ (∀a,Ϝ L a->vl.rowAt a f E.row->CT 353 (ν sd ra rl rc f t l) a λe c=>(∃R T,e= .returned (vS R (Ba sd v.row E.row).length T)/\AA c a (vS R (Ba sd v.row E.row).length T) (Ba sd v.row E.row))/\Ϝ a c):=λa A hq=>by rw[ci];exact KJ.o E.row f l a ar.1 ar.2 A hq
   have cy:ϛ (∀a,Bh a b p x->vl.rowAt a f E.row->CT 356 #[μ b,vI 1,vS f t l] a λe c=>(∃R T,e= .returned (vS R (AY p 1 E.row).length T)/\AA c a (vS R (AY p 1 E.row).length T) (AY p 1 E.row))/\Ϝ a c):=λa A hq=>by rw[ci];exact KA.o E.row f l a ar.1 ar.2 A hq
   have ev:ϛ (∀(q:List Cel) (qa:Ϛ) (qc:Nat) a,0<q.length->q.length<=400->vl.rowAt a f E.row->vl.rowAt a qa q->CT 353 #[vI 1,vS f t l,vS qa q.length qc] a λe c=>(∃R T,e= .returned (vS R (Ba 1 E.row q).length T)/\AA c a (vS R (Ba 1 E.row q).length T) (Ba 1 E.row q))/\Ϝ a c):=λq qa qc a h1 h2 A hq=>by rw[ci];exact Cy 1 f qa l qc E.row q a ar.1 h1 ar.2 h2 A hq
   have i1:(0:Int)<=(k:Int):=ϝ;have i2:(k:Int)<(g2:Int):=ϝ;obtain⟨JR,du⟩:=nM (Ba sd v.row E.row);rw[du]at br cb;obtain⟨jn,d2⟩:=nM JR.length;rw[d2]at br;obtain⟨F,ak⟩:=nM ((H.take k).filter (Ha VS D));rw[ak]at ab am b3;obtain⟨Z,bc⟩:=nM ems.length;have ao:=hqz bc;have fg:Z<=4096:=by
    rw[<-bc,ab.o.len,<-ak];have:=length_filter_le (Ha VS D) (H.take k);rw[length_take]at this;omega
   have cp:ϛ ((H.take (k+1)).filter (Ha VS D)=F++if Ha VS D E=true then [E]else []):=b3;have dm:ϛ (L0 p v VS E=match JN VS E with
    |some o=>[⟨3,Ba 1 E.row o.row⟩,⟨4,JR⟩]
    |none=>if c4=true then [⟨3,AY p 1 E.row⟩,⟨4,JR⟩]else [⟨1,JR⟩]):=cb
   have dd:K.length<=1000000:=ϝ;have fj:X.heap.size<=wr.heap.size:=ai.o.1.size;have b1:=ai.o.cell ay.o Ϟ Ϟ c1;clear ba ar hE C ed ci du d2 ak bc cb b3;go_upto_region 7 with(go_at_call 390;refine(KU.o _ Ϩ).mono ?_;rintro e W4 ⟨⟨q,hq,rfl,d5⟩,a0⟩;have di:ϛ (JN VS E=(VS.take q).getLast?):=d5;have a1:Ϝ wr W4:=Ϩ.trans (a0.mono ϟ);have bg:=cLz a0 (show Δ (ξ wr (ζ P I M f t l Q) 166) wr 0 (.string P) by go_simp);have cm:=cLz a0 (show Δ (ξ wr (ζ P I M f t l Q) 166) wr 1 (vI I) by go_simp);have cn:=cLz a0 (show Δ (ξ wr (ζ P I M f t l Q) 166) wr 2 (vI M) by go_simp);have a3:=cLz a0 (show Δ (ξ wr (ζ P I M f t l Q) 166) wr 3 (vS f t l) by go_simp);have co:=cLz a0 (show Δ (ξ wr (ζ P I M f t l Q) 166) wr 4 (.bool Q) by go_simp);have az:ϛ (Ai W4 wr 166):=Ad ⟨_,_,World.alloc_heap_new wr _⟩ a0;clear d5);by_cases e8:q=0
   ·subst e8;have dj:ϛ (JN VS E=none):=by show _=_;rw[di.o];rfl
    have b6:ϛ (Ha VS D E=true):=by show _=_;unfold Ha;rw[dj.o]
    have af:ϛ ((H.take (k+1)).filter (Ha VS D)=F++[E]):=by show _=_;rw[cp.o,b6.o,if_pos rfl]
    have ag:ϛ (L0 p v VS E=if c4=true then [⟨3,AY p 1 E.row⟩,⟨4,JR⟩]else [⟨1,JR⟩]):=by show _=_;rw[dm.o,dj.o]
    refine gr.Ds 15 rfl Ϡ (S:=λc=>True) trivial (λd=>?_);refine tkz 0 39 d ?_;refine tkz 1 40 d ?_;refine tkz 2 41 d ?_;refine tkz 3 42 d ?_;refine sk 4 43 d ?_;refine sk 5 44 d ?_;refine sk 6 45 d ?_;refine sk 7 46 d ?_;refine sk 8 47 d ?_;refine sk 9 48 d ?_;refine sk 10 49 d ?_;refine sk 11 50 d ?_;refine sk 12 51 d ?_;refine sk 13 52 d ?_;refine tkz 14 53 d ?_;refine wpAnyH_done Ϡ ?_ _;have G:Ϝ W4 W4.drew:=bR.drew;generalize c8:W4.drew=u at G⊢;have a2:Ϝ wr u:=bT a1 G;replace bg:=cLz G bg;replace cm:=cLz G cm;replace cn:=cLz G cn;replace a3:=cLz G a3;replace co:=cLz G co;replace az:ϛ (Ai u wr 166):=Ad az.o G;have b4:ϛ (JSt L u b 274 p x s y t' K):=b5.o.below a2;have a5:ϛ (BM 274 X u):=ai.o.trans (BA a2);have a6:ϛ (MetL X u u6 ems F):=ab.o.below a2;have ap:ϛ (u.ownsRow X 166 5 u6 Z (A1 ems)):=by
     have:=a6.o.own;rw[ao.o]at this;exact this
    have ca:ϛ (∀g,u6.ownBlock=some g->X.heap.size<=g/\Ai u g 166):=λg B=>⟨(AE ap.o B).1,Av ap.o B⟩;have aw:ϛ (∀g,u6.ownBlock=some g->g≠wr.heap.size):=λg B e=>by
     have:=(AE ab.o.own B).2;omega
    have l5:X.heap.size<=u.heap.size:=a5.o.1.size;have fa:wr.heap.size<u.heap.size:=bLt _ _ bg;clear c8 G
    cases c4 with
    |true=>
     replace ag:ϛ (L0 p v VS E=[⟨3,AY p 1 E.row⟩,⟨4,JR⟩]):=by show _=_;rw[ag.o,if_pos rfl]
     obtain⟨AR,ds⟩:=nM (AY p 1 E.row);rw[ds]at cy ag;obtain⟨an,dy⟩:=nM AR.length;rw[dy]at cy;clear ds dy;go_wp2_with (first
      |(at_builtin;refine F7 rfl (.tmp 54) (.tmp 56) rfl X.heap.size u6 ems P I M f t l Q u Z ao.o ap.o ϝ ϝ rfl rfl ?_;intro g aq j au W;have ac:=MC bj.o U b4.o a5.o W ca.o;have aa:ϛ (JSt L j b 274 p x s y t' K):=ac.1;have J:ϛ (BM 274 X j):=ac.2;have bk:ϛ (MetL X j (vS (τ g) (Z+1) aq) (ems++[⟨P,I,M,(f,t,l),Q⟩]) (F++[E])):=MetL.snoc a6.o ct.o (by rw[ao.o];exact au);have z3:=Jc W aw.o a3;have bq:ϛ (Ai j wr.heap.size 166):=ME W aw.o az.o;have k0:=J.o.cell ay.o Ϟ Ϟ c0;have k2:=J.o.cell ay.o Ϟ Ϟ c2;have b0:Δ j b 1 (vI md):=(by rw[<-cr.o];exact aa.o.box.plan.2.1);have bi:ϛ (Ϝ L j):=aa.o.bl;have ax:ϛ (vl.rowAt j f E.row):=a4.o j J.o;clear ac au W)
      |(go_at_call 353;(with_reducible refine(br.o _ bi.o ax.o).mono ?_);rintro e Y ⟨⟨R,T,rfl,bw⟩,r⟩;have be:=cLz r z3;have ej:=cLz r b0;have cd:ϛ (Ai Y wr.heap.size 166):=Ad bq.o r)
      |(go_at_call 354;refine(KP.o _).mono ?_;rintro e Y ⟨rfl,rfl⟩))
     have bm:ϛ (∀c,BM 274 j c->MetL X c (vS (τ g) (Z+1) aq) (ems++[⟨P,I,M,(f,t,l),Q⟩]) (F++[E])):=λc hk=>bk.o.keep U hk;have bh:ϛ (∀a,Ϝ Y a->Bh a b p x/\vl.rowAt a f E.row):=λa A=>⟨Ah aa.o.box.plan (bT r A),vl.Ab ax.o (bT r A)⟩
     go_region_held3 (λc=>Δ c wr 3 (vS f t l)) (first|exact bz|go_keep)
      (first
       |(go_at_call 355;refine(P9 aa.o U dd r bw N de).mono ?_;rintro e w8 ⟨rfl,t8,bs,ae⟩;have bz:Δ w8 wr 3 (vS f t l):=ae.cell (Ad cd.o N) Ϟ Ϟ (cLz N be))
       |(go_at_call 356;refine(cy.o _ (bh.o _ bR.drew).1 (bh.o _ bR.drew).2).mono ?_;rintro e w7 ⟨⟨c3,c5,rfl,df⟩,da⟩;have N:Ϝ Y w7:=bR.drew.trans da;have de:AA w7 Y.heap.size (vS c3 an c5) AR:=df;have bz:Δ w7 wr 3 (vS f t l):=cLz N be))
     all_goals
      go_wp2;go_roundw
      (case rel=>exact⟨k+1,t8,_,_,ϝ,by go_num,bs,by show _=_;rw[map_append,am.o,af.o,flatMap_append,MD,ag.o];rfl,by rw[lAp];show _+2<=_;omega,J.o.trans ((BA (bT r N)).trans ae),by rw[af.o];exact bm.o _ ((BA (bT r N)).trans ae)⟩)
      (case measure=>simp[intOf];omega)
    |false=>
     replace ag:ϛ (L0 p v VS E=[⟨1,JR⟩]):=by show _=_;rw[ag.o,if_neg ϟ]
     go_wp2_with (first
      |(at_builtin;refine F7 rfl (.tmp 54) (.tmp 56) rfl X.heap.size u6 ems P I M f t l Q u Z ao.o ap.o ϝ ϝ rfl rfl ?_;intro g aq j au W;have ac:=MC bj.o U b4.o a5.o W ca.o;have aa:ϛ (JSt L j b 274 p x s y t' K):=ac.1;have J:ϛ (BM 274 X j):=ac.2;have bk:ϛ (MetL X j (vS (τ g) (Z+1) aq) (ems++[⟨P,I,M,(f,t,l),Q⟩]) (F++[E])):=MetL.snoc a6.o ct.o (by rw[ao.o];exact au);have z3:=Jc W aw.o a3;have bq:ϛ (Ai j wr.heap.size 166):=ME W aw.o az.o;have k0:=J.o.cell ay.o Ϟ Ϟ c0;have k2:=J.o.cell ay.o Ϟ Ϟ c2;have b0:Δ j b 1 (vI md):=(by rw[<-cr.o];exact aa.o.box.plan.2.1);have bi:ϛ (Ϝ L j):=aa.o.bl;have ax:ϛ (vl.rowAt j f E.row):=a4.o j J.o;clear ac au W)
      |(go_at_call 353;(with_reducible refine(br.o _ bi.o ax.o).mono ?_);rintro e Y ⟨⟨R,T,rfl,bw⟩,r⟩;have be:=cLz r z3;have ej:=cLz r b0;have cd:ϛ (Ai Y wr.heap.size 166):=Ad bq.o r)
      |(go_at_call 354;refine(KP.o _).mono ?_;rintro e Y ⟨rfl,rfl⟩)
      |(go_at_call 357;refine(Fe aa.o U dd r bw).mono ?_;rintro e w8 ⟨rfl,t8,bs,ae⟩))
     have bm:ϛ (∀c,BM 274 j c->MetL X c (vS (τ g) (Z+1) aq) (ems++[⟨P,I,M,(f,t,l),Q⟩]) (F++[E])):=λc hk=>bk.o.keep U hk;go_roundw
     (case rel=>exact⟨k+1,t8,_,_,ϝ,by go_num,bs,by show _=_;rw[map_append,am.o,af.o,flatMap_append,MD,ag.o];rfl,by rw[lAp];show _+1<=_;omega,J.o.trans ((BA r).trans ae),by rw[af.o];exact bm.o _ ((BA r).trans ae)⟩)
     (case measure=>simp[intOf];omega)
   ·obtain⟨m,rfl⟩:∃m,q=m+1:=⟨q - 1,ϝ⟩;have bb:m<VS.length:=by rw[<-cv.o];omega
    obtain⟨vb,b2,ea,y1,y2,y3,y4,y5⟩:=(C9 (p:=((n1,n2,n3),vs)) a8.o).2 m (by rw[a8.o.len];exact bb);dsimp only at ea;subst ea;have bx:=a8.o.ers.2 m bb;have cg:=cc.o.2.1 m bb;have cs:ϛ (JN VS E=some (VS.getD m ϰ)):=by show _=_;rw[di.o,WQ bb]
    have b8:ϛ (∀a,BM 274 X a->vl.rowAt a (vs.getD m ϰ).row.1 (VS.getD m ϰ).row):=λa db=>((db.oe U a8.o).ers.2 m bb).row;obtain⟨O,hO⟩:=nM (VS.getD m ϰ);rw[hO]at bx cg cs b8;obtain⟨⟨fm,ot,fn,⟨o1,o2,o3⟩,om⟩,ei⟩:∃z,vs.getD m ϰ=z:=⟨_,rfl⟩;rw[ei]at y2 y4 bx b8;unfold hdV at y4;dsimp only at y2 y4 b8;have d6:ot=O.time:=bx.time;have d4:o2=O.row.length:=bx.len;have cw:ϛ (Ai X vb 166):=Av a8.o.own rfl;have eo:=cLz a1 (ai.o.cell cw.o Ϟ Ϟ y2);have dp:=cLz a1 b1;have cz:ϛ (∀a,vl.rowAt a f E.row->vl.rowAt a o1 O.row->CT 353 #[vI 1,vS f t l,vS o1 o2 o3] a λe c=>(∃R T,e= .returned (vS R (Ba 1 E.row O.row).length T)/\AA c a (vS R (Ba 1 E.row O.row).length T) (Ba 1 E.row O.row))/\Ϝ a c):=λa h1 h2=>by rw[d4];exact ev.o O.row o1 o3 a cg.1 cg.2 h1 h2
    have i3:(0:Int)<(m:Int)+1:=ϝ;have i4:(0:Int)<=(m:Int):=ϝ;have i5:(m:Int)<(m:Int)+1:=ϝ;have fh:IntKind.i64.wrap ((m:Int)+1 - 1)=(m:Int):=by rw[ch.Co];omega
    have fi:IntKind.i64.wrap (m:Int)=(m:Int):=by rw[ch.Co];omega
    have b6:ϛ (Ha VS D E=decide (ot<=D)):=by show _=_;unfold Ha;rw[cs.o,d6]
    clear bx cg hO ei d6 d4 y1 y3 y5 bb;by_cases bv:ot<=D
    ·have ez:∀ty,binOp .gtr ty (vI ot) (vI D)=pure (.bool false):=pl.GG false (by simpa using bv);have af:ϛ ((H.take (k+1)).filter (Ha VS D)=F++[E]):=by show _=_;rw[cp.o,b6.o,decide_eq_true bv,if_pos rfl]
     have ag:ϛ (L0 p v VS E=[⟨3,Ba 1 E.row O.row⟩,⟨4,JR⟩]):=by show _=_;rw[dm.o,cs.o]
     clear bv;refine gr.Ds 15 rfl Ϡ (S:=λc=>Δ c vb (b2+m * 5+1) (vI ot)/\Δ c w 1 (vI D)) ⟨eo,dp⟩ (λd=>?_);refine tkz 0 39 d ?_;refine tkz 1 40 d ?_;refine tkz 2 41 d ?_;refine tkz 3 42 d ?_;refine tkz 4 43 d ?_;refine tkz 5 44 d ?_;refine tkz 6 45 d ?_;refine tkz 7 46 d ?_;refine tkz 8 47 d ?_;refine tkz 9 48 d ?_;refine tkz 10 49 d ?_;refine tkz 11 50 d ?_;refine tkz 12 51 d ?_;refine tkz 13 52 d ?_;refine tkz 14 53 d ?_;refine wpAnyH_done Ϡ ?_ _;have G:Ϝ W4 W4.drew:=bR.drew;generalize c8:W4.drew=u at G⊢;have a2:Ϝ wr u:=bT a1 G;replace bg:=cLz G bg;replace cm:=cLz G cm;replace cn:=cLz G cn;replace a3:=cLz G a3;replace co:=cLz G co;replace az:ϛ (Ai u wr 166):=Ad az.o G;have b4:ϛ (JSt L u b 274 p x s y t' K):=b5.o.below a2;have a5:ϛ (BM 274 X u):=ai.o.trans (BA a2);have a6:ϛ (MetL X u u6 ems F):=ab.o.below a2;have ap:ϛ (u.ownsRow X 166 5 u6 Z (A1 ems)):=by
      have:=a6.o.own;rw[ao.o]at this;exact this
     have ca:ϛ (∀g,u6.ownBlock=some g->X.heap.size<=g/\Ai u g 166):=λg B=>⟨(AE ap.o B).1,Av ap.o B⟩;have aw:ϛ (∀g,u6.ownBlock=some g->g≠wr.heap.size):=λg B e=>by
      have:=(AE ab.o.own B).2;omega
     have l5:X.heap.size<=u.heap.size:=a5.o.1.size;have fa:wr.heap.size<u.heap.size:=bLt _ _ bg;clear c8 G;obtain⟨BR,dt⟩:=nM (Ba 1 E.row O.row);rw[dt]at cz ag;obtain⟨bn,cf⟩:=nM BR.length;rw[cf]at cz;clear dt cf;go_wp2_with (first
      |(at_builtin;refine F7 rfl (.tmp 54) (.tmp 56) rfl X.heap.size u6 ems P I M f t l Q u Z ao.o ap.o ϝ ϝ rfl rfl ?_;intro g aq j au W;have ac:=MC bj.o U b4.o a5.o W ca.o;have aa:ϛ (JSt L j b 274 p x s y t' K):=ac.1;have J:ϛ (BM 274 X j):=ac.2;have bk:ϛ (MetL X j (vS (τ g) (Z+1) aq) (ems++[⟨P,I,M,(f,t,l),Q⟩]) (F++[E])):=MetL.snoc a6.o ct.o (by rw[ao.o];exact au);have z3:=Jc W aw.o a3;have bq:ϛ (Ai j wr.heap.size 166):=ME W aw.o az.o;have k0:=J.o.cell ay.o Ϟ Ϟ c0;have k2:=J.o.cell ay.o Ϟ Ϟ c2;have b0:Δ j b 1 (vI md):=(by rw[<-cr.o];exact aa.o.box.plan.2.1);have bi:ϛ (Ϝ L j):=aa.o.bl;have ax:ϛ (vl.rowAt j f E.row):=a4.o j J.o;clear ac au W)
      |(go_at_call 353;(with_reducible refine(br.o _ bi.o ax.o).mono ?_);rintro e Y ⟨⟨R,T,rfl,bw⟩,r⟩;have be:=cLz r z3;have ej:=cLz r b0;have cd:ϛ (Ai Y wr.heap.size 166):=Ad bq.o r))
     have bm:ϛ (∀c,BM 274 j c->MetL X c (vS (τ g) (Z+1) aq) (ems++[⟨P,I,M,(f,t,l),Q⟩]) (F++[E])):=λc hk=>bk.o.keep U hk;have en:=cLz r (J.o.cell cw.o Ϟ Ϟ y4);have eu:ϛ (Ai Y vb 166):=Ad (J.o.ty cw.o Ϟ Ϟ) r;have bh:ϛ (∀a,Ϝ Y a->vl.rowAt a f E.row/\vl.rowAt a o1 O.row):=λa A=>⟨vl.Ab ax.o (bT r A),vl.Ab (b8.o j J.o) (bT r A)⟩
     go_region_held3 (λc=>Δ c wr 3 (vS f t l)/\Δ c vb (b2+m * 5+1+1+1) (vS o1 o2 o3)) (first|exact bz|go_keep)
      (first
       |(go_at_call 355;refine(P9 aa.o U dd r bw N de).mono ?_;rintro e w8 ⟨rfl,t8,bs,ae⟩;have bz:Δ w8 wr 3 (vS f t l)/\Δ w8 vb (b2+m * 5+1+1+1) (vS o1 o2 o3):=⟨ae.cell (Ad cd.o N) Ϟ Ϟ (cLz N be),ae.cell (Ad eu.o N) Ϟ Ϟ (cLz N en)⟩)
       |(go_at_call 353;refine(cz.o _ (bh.o _ bR.drew).1 (bh.o _ bR.drew).2).mono ?_;rintro e w7 ⟨⟨c3,c5,rfl,df⟩,da⟩;have N:Ϝ Y w7:=bR.drew.trans da;have de:AA w7 Y.heap.size (vS c3 bn c5) BR:=df;have bz:Δ w7 wr 3 (vS f t l)/\Δ w7 vb (b2+m * 5+1+1+1) (vS o1 o2 o3):=⟨cLz N be,cLz N en⟩))
     all_goals
      go_wp2;go_roundw
      (case rel=>exact⟨k+1,t8,_,_,ϝ,by go_num,bs,by show _=_;rw[map_append,am.o,af.o,flatMap_append,MD,ag.o];rfl,by rw[lAp];show _+2<=_;omega,J.o.trans ((BA (bT r N)).trans ae),by rw[af.o];exact bm.o _ ((BA (bT r N)).trans ae)⟩)
      (case measure=>simp[intOf];omega)
    ·have ez:∀ty,binOp .gtr ty (vI ot) (vI D)=pure (.bool true):=pl.GG true (by simpa using bv);have af:ϛ ((H.take (k+1)).filter (Ha VS D)=F):=by show _=_;rw[cp.o,b6.o,decide_eq_false ϝ,if_neg ϟ,append_nil]
     clear bv;refine gr.Ds 15 rfl Ϡ (S:=λc=>Δ c vb (b2+m * 5+1) (vI ot)/\Δ c w 1 (vI D)) ⟨eo,dp⟩ (λd=>?_);refine tkz 0 39 d ?_;refine tkz 1 40 d ?_;refine tkz 2 41 d ?_;refine tkz 3 42 d ?_;refine tkz 4 43 d ?_;refine tkz 5 44 d ?_;refine tkz 6 45 d ?_;refine tkz 7 46 d ?_;refine tkz 8 47 d ?_;refine tkz 9 48 d ?_;refine tkz 10 49 d ?_;refine tkz 11 50 d ?_;refine tkz 12 51 d ?_;refine tkz 13 52 d ?_;refine tkz 14 53 d ?_;refine wpAnyH_done Ϡ ?_ _;go_wp2;go_roundw
     (case rel=>exact⟨k+1,t',K,ems,ϝ,by go_num,b5.o.below a1.drew,by show _=_;rw[af.o];exact am.o,ϝ,ai.o.trans (BA a1.drew),by rw[af.o];exact ab.o.below a1.drew⟩)
     (case measure=>simp[intOf];omega)
  ·have e4:k=g2:=ϝ;subst e4;have fe:¬((k:Int)<(k:Int)):=ϝ;have ec:H.take k=H:=by rw[cq.o,take_length]
   rw[ec]at am ab;obtain⟨F,ak⟩:=nM (H.filter (Ha VS D));rw[ak]at am ab a7;have ep:=hqz ak;obtain⟨ma,mc,hu,dz⟩:=ab.o.at;have e6:F.length<=4096:=by
    rw[<-ak];exact Nat.le_trans (length_filter_le ..) bp.o.1
   have KM:ϛ (CT 358 #[μ b,vI 1,vS ma F.length mc] wr λe c=>e= .returned (.tuple #[])/\∃y',JSt L c b 274 p x (A7 s 1 (CJ (F.map (·.seq)) (Ak s 1))) y' t' K/\Ki wr c):=Ns b _ p x s y t' K 1 (ma,F.length,mc) ems F L wr b5.o U HI.o.1 HI.o.2 rfl dz ab.o.len ab.o.seq ϝ (λz C=>bp.o.2.2 z (by rw[<-ak]at C;exact(mem_filter.1 C).1));obtain⟨Z,bc⟩:=nM F.length;rw[bc]at KM hu;subst hu;clear ec ak dz bc e6;go_wp2_with (go_at_call 358;refine KM.o.mono ?_;rintro e X9 ⟨rfl,y',e2,e3⟩);refine bodyPost_end (v:=.tuple #[]) (by simp[results,results389,go_sem]) rfl ⟨rfl,y',t',K,?_,?_,?_⟩
   ·rw[ep.o];exact e2
   ·rw[am.o,a7.o]
   ·exact((Aw d0).trans ai.o.m).trans e3.m
end jn
end Go.Proofs.YtfkihidbnfkbaaaGreatDoor
