import Derived.Test.YtfkihidbnfkbaaaGreatDoorPv32
set_option linter.all false
set_option maxHeartbeats 16000000
set_option maxRecDepth 100000
open Go.ChangeShapes Go.WideShapes Go.ChangeAt Go.RowKit List
open Inhabited renaming default->ϰ
namespace Go.Proofs.YtfkihidbnfkbaaaGreatDoor
open Go.Proofs.Tryz
namespace jn
open vl bf
attribute [local go_sem] Oper.semAt_some
theorem Ze(b:Nat)(p:pl.Pln)(x:pl.PA)(s:Jn)(y:JX)(v:Ev)(ra:ϙ)(rc:Nat)(L w:Ϙ)(h:JSt L w b 274 p x s y (vS none 0 0) [])(B:goodJ p s)(hc:comeJ p s v)(cj:v.side=2)(hv:vl.rowAt L ra v.row):
 η 389 #[μ b,B8 p v ra rc] w λe c=>e= .returned (.tuple #[])/\∃y' t' K,JSt L c b 274 p x (A7 s 1 (C0 ((DI p s v).map (·.seq)) s.L)) y' t' K/\K.map CO.chg=Hs p s v/\Bo 274 w c:=by
 have U:calmC 274:=⟨⟨ϝ,ϝ,ϝ⟩,ϝ⟩;have HJ:=hqz h;have eb:Aj s (3 - v.side)=s.L:=by rw[cj];rfl
 have ex:Br y (3 - v.side)=y.l:=by rw[cj];rfl
 have dh:=DZ hc.err;have hp:=(pl.Da hc.err).1;have ef:∀z∈Ab s.R,wfE z/\wfP (AZ z):=λz C=>B.wf z (mem_append.2 (.inr C));have ck:∀z∈Ab s.L,wfE z/\wfP (AZ z):=λz C=>B.wf z (mem_append.2 (.inl C));have aj:Ϛ (∀a,ϛ w a->CT 363 #[AY s.R y.r,.string (pl.Ar p v.side v.row),vI (-1099511627776),vI 1099511627776] a λe c=>(∃(hh:Hdr) (c7:List EM),e= .returned (.tuple #[hdV hh,ω])/\OE c a (hdV hh) c7 (FA p s v))/\ϛ a c):=λa A=>(T0 s.R y.r _ (-1099511627776) 1099511627776 a (Al h.r.at A) ef (by have:=B.ok.R.all;omega) (DX B.ok.R)).mono (by
  rintro e c ⟨⟨hh,c7,l',rfl,hp,ey,ho⟩,c9⟩;rw[Tq B.ok.R hp ey]at ho;exact⟨⟨hh,c7,rfl,ho⟩,c9⟩)
 have KW:Ϛ (∀a,ϛ w a->CT 352 #[μ b,B8 p v ra rc,vI v.time,vI 1099511627776] a λe c=>(∃hh es,e= .returned (hdV hh)/\OE c a (hdV hh) es (BF p s v v.time 1099511627776))/\ϛ a c):=λa A=>GR b p x s y _ v ra rc v.time 1099511627776 a hc.side (HJ.o.below A).box (by rw[eb,ex];exact(HJ.o.below A).l.at) (by rw[eb];exact B.ok.L) (by rw[eb];exact ck);have KJ:=hIz (λ(q:List Cel) (qa:ϙ) (qc:Nat) (a:Ϙ) (h1:0<q.length) (h2:q.length<=400) (A:ϛ L a) (hq:vl.rowAt a qa q)=>CC v.side ra qa rc qc v.row q a dh.1 h1 dh.2 h2 (vl.Ac hv A) hq);have KA:=hIz (λ(q:List Cel) (qa:ϙ) (qc:Nat) (a:Ϙ) (h1:0<q.length) (h2:q.length<=400) (A:Bp a b p x) (hq:vl.rowAt a qa q)=>Hn b p x 1 qa qc q a hp ϝ A hq h1 h2);have KP:=hIz (λ(a:Ϙ)=>Ki p.mode 1 a);have bp:Ϛ ((BF p s v v.time 1099511627776).length<=4096/\(∀k,k<(BF p s v v.time 1099511627776).length->(0<((BF p s v v.time 1099511627776).getD k ϰ).row.length/\((BF p s v v.time 1099511627776).getD k ϰ).row.length<=400))/\∀z∈BF p s v v.time 1099511627776,pl.i64 z.seq):=⟨Jo (by rw[eb];exact B.ok.L),λk hk=>DZ (Fh B (Ir hc.side).1 (Jp (AO hk))),λz C=>(ck z (by have:=Jp C;rw[eb]at this;exact this)).2.seq⟩;have cc:Ϛ ((FA p s v).length<=4096/\(∀k,k<(FA p s v).length->(0<((FA p s v).getD k ϰ).row.length/\((FA p s v).getD k ϰ).row.length<=400))/\O8 (FA p s v)):=by
  have e1:∀z∈FA p s v,z∈Ab s.R:=λz C=>by unfold FA CJ at C;exact(mem_filter.1 ((BC _).mem_iff.1 C)).1
  refine⟨?_,λk hk=>DZ (Fh B (side:=2) ϝ (e1 _ (AO hk))),YF _ _ _ _⟩;unfold FA CJ;rw[(BC _).length_eq];exact Nat.le_trans (length_filter_le ..) B.ok.R.all
 have HI:Ϛ (okB (Aj s 1)/\∀z∈Ab (Aj s 1),pl.i64 z.seq):=⟨B.ok.L,λz C=>(ck z C).2.seq⟩;have b7:Ϛ (DI p s v=(BF p s v v.time 1099511627776).filter (Gn (FA p s v) v.time)):=Ui cj;have a7:Ϛ (Hs p s v=(DI p s v).flatMap (Ko p v (FA p s v))):=rfl;have cu:Ϛ (∀vs e,Ko p v vs e=match IJ vs e with
  |some o=>[⟨3,AX 1 e.row o.row⟩,⟨4,AX v.side v.row e.row⟩]
  |none=>if Ct p.mode 1=true then [⟨3,AW p 1 e.row⟩,⟨4,AX v.side v.row e.row⟩]else [⟨1,AX v.side v.row e.row⟩]):=λvs e=>rfl
 have pm:=h.box.plan.2.1;have lb:=h.box.lt;obtain⟨av,al,ah⟩:=E8 h.box.join 2;have c6:Au 2=3:=rfl;have dq:Aj s 2=s.R:=rfl;have dr:Br y 2=y.r:=rfl;rw[c6,dq]at av;rw[c6,dr]at al ah;obtain⟨H,dx⟩:=nM (BF p s v v.time 1099511627776);obtain⟨VS,dw⟩:=nM (FA p s v);obtain⟨NT,dv⟩:=nM (Hs p s v);rw[dx]at KW bp b7;rw[dw]at aj cc b7 a7;rw[dv]at a7⊢;rw[b7.o]at a7⊢;unfold B8 at KW⊢;obtain⟨kb,h1⟩:=nM (pl.Ar p v.side v.row);obtain⟨kh,h2⟩:=nM (pl.hasB p v.side v.row);obtain⟨rl,dg⟩:=nM v.row.length;obtain⟨c4,d1⟩:=nM (Ct p.mode 1);obtain⟨md,dc⟩:=nM p.mode;have cr:=hqz dc;rw[d1]at KP cu;rw[dc]at KP pm;rw[h1,h2,dg]at KW⊢;rw[h1]at aj;rw[dg]at KJ;obtain⟨sd,d9⟩:=nM v.side;obtain⟨D,ee⟩:=nM v.time;rw[d9]at KW KJ cu⊢;rw[ee]at KW a7⊢;obtain⟨yr,eh⟩:=nM y.r;rw[eh]at aj al ah;obtain⟨fb,fc,⟨⟨m1,m2,m3⟩,fk⟩,rs⟩:=yr;obtain⟨e9,d3⟩:=nM s.R.lim;unfold AY hdV at aj;dsimp only at aj al ah;rw[d3]at aj av;obtain⟨n,hn⟩:=nM rs.length;rw[hn]at aj ah;clear h B hc hv dh hp ck ef eb ex dx dw dv h1 h2 dg d1 dc d9 ee cj c6 dq dr eh d3 hn b7;go_enter func389,ntmps389;go_wp2;generalize hV:(World.alloc w _)=V;have a9:ϛ w V:=by rw[<-hV];exact ϧ
 have s0:Δ V w 0 (vI sd):=by subst hV;go_simp
 have s1:Δ V w 1 (vI D):=by subst hV;go_simp
 have s2:Δ V w 2 (vS ra rl rc):=by subst hV;go_simp
 have s3:Δ V w 3 (.string kb):=by subst hV;go_simp
 have s4:Δ V w 4 (.bool kh):=by subst hV;go_simp
 have er:Ϛ (Ae V w 208):=by subst hV;exact⟨_,_,World.alloc_heap_new w _⟩
 replace av:=cLz a9 av;replace al:=cLz a9 al;replace ah:=cLz a9 ah;clear hV;have SK:Ϛ (∀c,ϛ V c->ό c w (vI sd) (vI D) (vS ra rl rc) (.string kb) (.bool kh)):=λc C=>⟨cLz C s0,cLz C s1,cLz C s2,cLz C s3,cLz C s4⟩
 go_region_held3 (λc=>Δ c w 3 (.string kb)/\ϗ c b 16 (vI e9) (vS m1 m2 m3) (vS fb n fc)) (first|exact⟨cLz hy s3,cLz hy av,cLz hy al,cLz hy ah⟩|exact⟨s3,av,al,ah⟩|go_keep)
  (first
   |(go_at_call 363;refine(aj.o _ a9.drew).mono ?_;rintro e X1 ⟨⟨vh,vs,rfl,d7⟩,cf⟩;have hy:ϛ V X1:=bR.drew.trans cf;have bo:Ϛ (OE X1 V.heap.size (vS vh.1 vh.2.1 vh.2.2) vs VS):=d7;clear d7;obtain⟨n1,n2,n3⟩:=vh;dsimp only at bo⊢))
 go_wp2;have cl:=hy
 go_region_held3 (λc=>ό c w (vI sd) (vI D) (vS ra rl rc) (.string kb) (.bool kh)) (first|exact SK.o _ bd|exact SK.o _ cl.drew|go_keep)
  (first
   |(go_at_call 352;refine(KW.o _ (bT a9 cl).drew).mono ?_;rintro e X ⟨⟨wh,es,rfl,d8⟩,ew⟩;have eg:ϛ X1 X:=bR.drew.trans ew;have bd:ϛ V X:=bT cl eg;have b9:Ϛ (OE X X1.heap.size (hdV wh) es H):=d8;clear d8;obtain⟨g1,g2,g3⟩:=wh;unfold hdV;dsimp only))
 have cq:Ϛ (g2=H.length):=by
  show _=_;rw[<-b9.o.len];exact(Cx (p:=((g1,g2,g3),es)) b9.o).1.1
 have cv:Ϛ (n2=VS.length):=by
  show _=_;rw[<-bo.o.len];exact(Cx (p:=((n1,n2,n3),vs)) bo.o).1.1
 have d0:ϛ w X:=bT a9 bd;have bj:Ϛ (JSt L X b 274 p x s y (vS none 0 0) []):=HJ.o.below d0;have a8:Ϛ (OE X V (vS n1 n2 n3) vs VS):=bo.o.below eg;have dl:=hqz b9.o;have c0:=cLz bd s0;have c1:=cLz bd s1;have c2:=cLz bd s2;have ay:Ϛ (Ae X w 208):=Ad er.o bd;have fd:g2<=4096:=by rw[cq.o];exact bp.o.1
 have e7:n2<=4096:=by rw[cv.o];exact cc.o.1
 have lX:b<X.heap.size:=bj.o.box.lt;clear s0 s1 s2 s3 s4 SK KW aj av al ah bo b9 hy cl;go_wp2
 go_loopw [6,31] (λmv i wr=> ∃(k:Nat) (t':Value) (K:List CO) (ems:List EM),k<=g2/\i=vI k/\Ϛ (JSt L wr b 274 p x s y t' K)/\Ϛ (K.map CO.chg=((H.take k).filter (Gn VS D)).flatMap (Ko p v VS))/\K.length<=2 * k/\Ϛ (BD 274 X wr)/\Ϛ (MetL X wr mv ems ((H.take k).filter (Gn VS D)))) (λ_ i _=>g2 - (intOf i).toNat)
 case atStart=>exact⟨0,_,[],[],Nat.zero_le _,rfl,bj.o,rfl,Nat.le_refl _,BD.refl _ _,⟨World.ownsRow_nil _ _ _ _,rfl,λk hk=>absurd hk (Nat.not_lt_zero k)⟩⟩
 case round=>
  obtain⟨k,t',K,ems,hk,rfl,b5,am,ff,ai,ab⟩:=hrel;by_cases e5:k<g2
  ·have bu:k<H.length:=by rw[<-cq.o];exact e5
   have cx:Ϛ (OE wr X1 (vS g1 g2 g3) es H):=ai.o.oe U dl.o;obtain⟨gb,fl,ea,x1,x2,x3,x4,x5⟩:=(Cx (p:=((g1,g2,g3),es)) cx.o).2 k (by rw[cx.o.len];exact bu);dsimp only at ea;subst ea;have ba:=cx.o.ers.2 k bu;have ar:=bp.o.2.1 k bu;have b3:=Uj (Gn VS D) bu;have cb:=cu.o VS (H.getD k ϰ);have a4:Ϛ (∀a,BD 274 X a->vl.rowAt a (es.getD k ϰ).row.1 (H.getD k ϰ).row):=λa db=>((db.oe U dl.o).ers.2 k bu).row;obtain⟨E,hE⟩:=nM (H.getD k ϰ);rw[hE]at ba ar b3 cb a4;obtain⟨⟨P,I,M,⟨f,t,l⟩,Q⟩,C⟩:∃z,es.getD k ϰ=z:=⟨_,rfl⟩;rw[C]at x1 x2 x3 x4 x5 ba a4;unfold hdV at x4;dsimp only at x1 x2 x3 x4 x5 a4;have ct:Ϛ (M=E.seq):=ba.seq;have ed:I=E.time:=ba.time;have ci:t=E.row.length:=ba.len;have KU:Ϛ (∀a,ϛ wr a->CT 390 #[vS n1 n2 n3,vI I] a λe c=>(∃q:Nat,q<=n2/\e= .returned (vS n1 q n3)/\IJ VS E=(VS.take q).getLast?)/\ϛ a c):=λa A=>(Xm n1 n2 n3 vs VS I V.heap.size a ((ai.o.oe U a8.o).below A) cv.o e7 cc.o.2.2).mono (by
    rintro e c ⟨⟨q,hq,rfl,hf⟩,c9⟩;refine⟨⟨q,hq,rfl,?_⟩,c9⟩;unfold IJ;rw[hf,ed])
   have br:Ϛ (∀a,ϛ L a->vl.rowAt a f E.row->CT 353 (ν sd ra rl rc f t l) a λe c=>(∃R T,e= .returned (vS R (AX sd v.row E.row).length T)/\AA c a (vS R (AX sd v.row E.row).length T) (AX sd v.row E.row))/\ϛ a c):=λa A hq=>by rw[ci];exact KJ.o E.row f l a ar.1 ar.2 A hq
   have cy:Ϛ (∀a,Bp a b p x->vl.rowAt a f E.row->CT 356 #[μ b,vI 1,vS f t l] a λe c=>(∃R T,e= .returned (vS R (AW p 1 E.row).length T)/\AA c a (vS R (AW p 1 E.row).length T) (AW p 1 E.row))/\ϛ a c):=λa A hq=>by rw[ci];exact KA.o E.row f l a ar.1 ar.2 A hq
   have ev:Ϛ (∀(q:List Cel) (qa:ϙ) (qc:Nat) a,0<q.length->q.length<=400->vl.rowAt a f E.row->vl.rowAt a qa q->CT 353 #[vI 1,vS f t l,vS qa q.length qc] a λe c=>(∃R T,e= .returned (vS R (AX 1 E.row q).length T)/\AA c a (vS R (AX 1 E.row q).length T) (AX 1 E.row q))/\ϛ a c):=λq qa qc a h1 h2 A hq=>by rw[ci];exact CC 1 f qa l qc E.row q a ar.1 h1 ar.2 h2 A hq
   have i1:(0:Int)<=(k:Int):=Ϝ;have i2:(k:Int)<(g2:Int):=Ϝ;obtain⟨JR,du⟩:=nM (AX sd v.row E.row);rw[du]at br cb;obtain⟨jn,d2⟩:=nM JR.length;rw[d2]at br;obtain⟨F,ak⟩:=nM ((H.take k).filter (Gn VS D));rw[ak]at ab am b3;obtain⟨Z,bc⟩:=nM ems.length;have ao:=hqz bc;have fg:Z<=4096:=by
    rw[<-bc,ab.o.len,<-ak];have:=length_filter_le (Gn VS D) (H.take k);rw[length_take]at this;omega
   have cp:Ϛ ((H.take (k+1)).filter (Gn VS D)=F++if Gn VS D E=true then [E]else []):=b3;have dm:Ϛ (Ko p v VS E=match IJ VS E with
    |some o=>[⟨3,AX 1 E.row o.row⟩,⟨4,JR⟩]
    |none=>if c4=true then [⟨3,AW p 1 E.row⟩,⟨4,JR⟩]else [⟨1,JR⟩]):=cb
   have dd:K.length<=1000000:=Ϝ;have fj:X.heap.size<=wr.heap.size:=ai.o.1.size;have b1:=ai.o.cell ay.o ϝ ϝ c1;clear ba ar hE C ed ci du d2 ak bc cb b3;go_upto_region 7 with(go_at_call 390;refine(KU.o _ ϧ).mono ?_;rintro e W4 ⟨⟨q,hq,rfl,d5⟩,a0⟩;have di:Ϛ (IJ VS E=(VS.take q).getLast?):=d5;have a1:ϛ wr W4:=ϧ.trans (a0.mono Ϟ);have bg:=cLz a0 (show Δ (ξ wr (ζ P I M f t l Q) 166) wr 0 (.string P) by go_simp);have cm:=cLz a0 (show Δ (ξ wr (ζ P I M f t l Q) 166) wr 1 (vI I) by go_simp);have cn:=cLz a0 (show Δ (ξ wr (ζ P I M f t l Q) 166) wr 2 (vI M) by go_simp);have a3:=cLz a0 (show Δ (ξ wr (ζ P I M f t l Q) 166) wr 3 (vS f t l) by go_simp);have co:=cLz a0 (show Δ (ξ wr (ζ P I M f t l Q) 166) wr 4 (.bool Q) by go_simp);have az:Ϛ (Ae W4 wr 166):=Ad ⟨_,_,World.alloc_heap_new wr _⟩ a0;clear d5);by_cases e8:q=0
   ·subst e8;have dj:Ϛ (IJ VS E=none):=by show _=_;rw[di.o];rfl
    have b6:Ϛ (Gn VS D E=true):=by show _=_;unfold Gn;rw[dj.o]
    have af:Ϛ ((H.take (k+1)).filter (Gn VS D)=F++[E]):=by show _=_;rw[cp.o,b6.o,if_pos rfl]
    have ag:Ϛ (Ko p v VS E=if c4=true then [⟨3,AW p 1 E.row⟩,⟨4,JR⟩]else [⟨1,JR⟩]):=by show _=_;rw[dm.o,dj.o]
    refine gr.CP 15 rfl ϟ (S:=λc=>True) trivial (λd=>?_);refine tkz 0 39 d ?_;refine tkz 1 40 d ?_;refine tkz 2 41 d ?_;refine tkz 3 42 d ?_;refine sk 4 43 d ?_;refine sk 5 44 d ?_;refine sk 6 45 d ?_;refine sk 7 46 d ?_;refine sk 8 47 d ?_;refine sk 9 48 d ?_;refine sk 10 49 d ?_;refine sk 11 50 d ?_;refine sk 12 51 d ?_;refine sk 13 52 d ?_;refine tkz 14 53 d ?_;refine wpAnyH_done ϟ ?_ _;have G:ϛ W4 W4.drew:=bR.drew;generalize c8:W4.drew=u at G⊢;have a2:ϛ wr u:=bT a1 G;replace bg:=cLz G bg;replace cm:=cLz G cm;replace cn:=cLz G cn;replace a3:=cLz G a3;replace co:=cLz G co;replace az:Ϛ (Ae u wr 166):=Ad az.o G;have b4:Ϛ (JSt L u b 274 p x s y t' K):=b5.o.below a2;have a5:Ϛ (BD 274 X u):=ai.o.trans (B4 a2);have a6:Ϛ (MetL X u u6 ems F):=ab.o.below a2;have ap:Ϛ (u.ownsRow X 166 5 u6 Z (A0 ems)):=by
     have:=a6.o.own;rw[ao.o]at this;exact this
    have ca:Ϛ (∀g,u6.ownBlock=some g->X.heap.size<=g/\Ae u g 166):=λg B=>⟨(A5 ap.o B).1,Ay ap.o B⟩;have aw:Ϛ (∀g,u6.ownBlock=some g->g≠wr.heap.size):=λg B e=>by
     have:=(A5 ab.o.own B).2;omega
    have l5:X.heap.size<=u.heap.size:=a5.o.1.size;have fa:wr.heap.size<u.heap.size:=bLt _ _ bg;clear c8 G
    cases c4 with
    |true=>
     replace ag:Ϛ (Ko p v VS E=[⟨3,AW p 1 E.row⟩,⟨4,JR⟩]):=by show _=_;rw[ag.o,if_pos rfl]
     obtain⟨AR,ds⟩:=nM (AW p 1 E.row);rw[ds]at cy ag;obtain⟨an,dy⟩:=nM AR.length;rw[dy]at cy;clear ds dy;go_wp2_with (first
      |(at_builtin;refine Fe rfl (.tmp 54) (.tmp 56) rfl X.heap.size u6 ems P I M f t l Q u Z ao.o ap.o Ϝ Ϝ rfl rfl ?_;intro g aq j au W;have ac:=LF bj.o U b4.o a5.o W ca.o;have aa:Ϛ (JSt L j b 274 p x s y t' K):=ac.1;have J:Ϛ (BD 274 X j):=ac.2;have bk:Ϛ (MetL X j (vS (τ g) (Z+1) aq) (ems++[⟨P,I,M,(f,t,l),Q⟩]) (F++[E])):=MetL.snoc a6.o ct.o (by rw[ao.o];exact au);have z3:=Im W aw.o a3;have bq:Ϛ (Ae j wr.heap.size 166):=LH W aw.o az.o;have k0:=J.o.cell ay.o ϝ ϝ c0;have k2:=J.o.cell ay.o ϝ ϝ c2;have b0:Δ j b 1 (vI md):=(by rw[<-cr.o];exact aa.o.box.plan.2.1);have bi:Ϛ (ϛ L j):=aa.o.bl;have ax:Ϛ (vl.rowAt j f E.row):=a4.o j J.o;clear ac au W)
      |(go_at_call 353;(with_reducible refine(br.o _ bi.o ax.o).mono ?_);rintro e Y ⟨⟨R,T,rfl,bw⟩,r⟩;have be:=cLz r z3;have ej:=cLz r b0;have cd:Ϛ (Ae Y wr.heap.size 166):=Ad bq.o r)
      |(go_at_call 354;refine(KP.o _).mono ?_;rintro e Y ⟨rfl,rfl⟩))
     have bm:Ϛ (∀c,BD 274 j c->MetL X c (vS (τ g) (Z+1) aq) (ems++[⟨P,I,M,(f,t,l),Q⟩]) (F++[E])):=λc hk=>bk.o.keep U hk;have bh:Ϛ (∀a,ϛ Y a->Bp a b p x/\vl.rowAt a f E.row):=λa A=>⟨Ak aa.o.box.plan (bT r A),vl.Ac ax.o (bT r A)⟩
     go_region_held3 (λc=>Δ c wr 3 (vS f t l)) (first|exact bz|go_keep)
      (first
       |(go_at_call 355;refine(O6 aa.o U dd r bw N de).mono ?_;rintro e w8 ⟨rfl,t8,bs,ae⟩;have bz:Δ w8 wr 3 (vS f t l):=ae.cell (Ad cd.o N) ϝ ϝ (cLz N be))
       |(go_at_call 356;refine(cy.o _ (bh.o _ bR.drew).1 (bh.o _ bR.drew).2).mono ?_;rintro e w7 ⟨⟨c3,c5,rfl,df⟩,da⟩;have N:ϛ Y w7:=bR.drew.trans da;have de:AA w7 Y.heap.size (vS c3 an c5) AR:=df;have bz:Δ w7 wr 3 (vS f t l):=cLz N be))
     all_goals
      go_wp2;go_roundw
      (case rel=>exact⟨k+1,t8,_,_,Ϝ,by go_num,bs,by show _=_;rw[map_append,am.o,af.o,flatMap_append,LG,ag.o];rfl,by rw[lAp];show _+2<=_;omega,J.o.trans ((B4 (bT r N)).trans ae),by rw[af.o];exact bm.o _ ((B4 (bT r N)).trans ae)⟩)
      (case measure=>simp[intOf];omega)
    |false=>
     replace ag:Ϛ (Ko p v VS E=[⟨1,JR⟩]):=by show _=_;rw[ag.o,if_neg Ϟ]
     go_wp2_with (first
      |(at_builtin;refine Fe rfl (.tmp 54) (.tmp 56) rfl X.heap.size u6 ems P I M f t l Q u Z ao.o ap.o Ϝ Ϝ rfl rfl ?_;intro g aq j au W;have ac:=LF bj.o U b4.o a5.o W ca.o;have aa:Ϛ (JSt L j b 274 p x s y t' K):=ac.1;have J:Ϛ (BD 274 X j):=ac.2;have bk:Ϛ (MetL X j (vS (τ g) (Z+1) aq) (ems++[⟨P,I,M,(f,t,l),Q⟩]) (F++[E])):=MetL.snoc a6.o ct.o (by rw[ao.o];exact au);have z3:=Im W aw.o a3;have bq:Ϛ (Ae j wr.heap.size 166):=LH W aw.o az.o;have k0:=J.o.cell ay.o ϝ ϝ c0;have k2:=J.o.cell ay.o ϝ ϝ c2;have b0:Δ j b 1 (vI md):=(by rw[<-cr.o];exact aa.o.box.plan.2.1);have bi:Ϛ (ϛ L j):=aa.o.bl;have ax:Ϛ (vl.rowAt j f E.row):=a4.o j J.o;clear ac au W)
      |(go_at_call 353;(with_reducible refine(br.o _ bi.o ax.o).mono ?_);rintro e Y ⟨⟨R,T,rfl,bw⟩,r⟩;have be:=cLz r z3;have ej:=cLz r b0;have cd:Ϛ (Ae Y wr.heap.size 166):=Ad bq.o r)
      |(go_at_call 354;refine(KP.o _).mono ?_;rintro e Y ⟨rfl,rfl⟩)
      |(go_at_call 357;refine(E7 aa.o U dd r bw).mono ?_;rintro e w8 ⟨rfl,t8,bs,ae⟩))
     have bm:Ϛ (∀c,BD 274 j c->MetL X c (vS (τ g) (Z+1) aq) (ems++[⟨P,I,M,(f,t,l),Q⟩]) (F++[E])):=λc hk=>bk.o.keep U hk;go_roundw
     (case rel=>exact⟨k+1,t8,_,_,Ϝ,by go_num,bs,by show _=_;rw[map_append,am.o,af.o,flatMap_append,LG,ag.o];rfl,by rw[lAp];show _+1<=_;omega,J.o.trans ((B4 r).trans ae),by rw[af.o];exact bm.o _ ((B4 r).trans ae)⟩)
     (case measure=>simp[intOf];omega)
   ·obtain⟨m,rfl⟩:∃m,q=m+1:=⟨q - 1,Ϝ⟩;have bb:m<VS.length:=by rw[<-cv.o];omega
    obtain⟨vb,b2,ea,y1,y2,y3,y4,y5⟩:=(Cx (p:=((n1,n2,n3),vs)) a8.o).2 m (by rw[a8.o.len];exact bb);dsimp only at ea;subst ea;have bx:=a8.o.ers.2 m bb;have cg:=cc.o.2.1 m bb;have cs:Ϛ (IJ VS E=some (VS.getD m ϰ)):=by show _=_;rw[di.o,Uk bb]
    have b8:Ϛ (∀a,BD 274 X a->vl.rowAt a (vs.getD m ϰ).row.1 (VS.getD m ϰ).row):=λa db=>((db.oe U a8.o).ers.2 m bb).row;obtain⟨O,hO⟩:=nM (VS.getD m ϰ);rw[hO]at bx cg cs b8;obtain⟨⟨fm,ot,fn,⟨o1,o2,o3⟩,om⟩,ei⟩:∃z,vs.getD m ϰ=z:=⟨_,rfl⟩;rw[ei]at y2 y4 bx b8;unfold hdV at y4;dsimp only at y2 y4 b8;have d6:ot=O.time:=bx.time;have d4:o2=O.row.length:=bx.len;have cw:Ϛ (Ae X vb 166):=Ay a8.o.own rfl;have eo:=cLz a1 (ai.o.cell cw.o ϝ ϝ y2);have dp:=cLz a1 b1;have cz:Ϛ (∀a,vl.rowAt a f E.row->vl.rowAt a o1 O.row->CT 353 #[vI 1,vS f t l,vS o1 o2 o3] a λe c=>(∃R T,e= .returned (vS R (AX 1 E.row O.row).length T)/\AA c a (vS R (AX 1 E.row O.row).length T) (AX 1 E.row O.row))/\ϛ a c):=λa h1 h2=>by rw[d4];exact ev.o O.row o1 o3 a cg.1 cg.2 h1 h2
    have i3:(0:Int)<(m:Int)+1:=Ϝ;have i4:(0:Int)<=(m:Int):=Ϝ;have i5:(m:Int)<(m:Int)+1:=Ϝ;have fh:IntKind.i64.wrap ((m:Int)+1 - 1)=(m:Int):=by rw[ch.Bt];omega
    have fi:IntKind.i64.wrap (m:Int)=(m:Int):=by rw[ch.Bt];omega
    have b6:Ϛ (Gn VS D E=decide (ot<=D)):=by show _=_;unfold Gn;rw[cs.o,d6]
    clear bx cg hO ei d6 d4 y1 y3 y5 bb;by_cases bv:ot<=D
    ·have ez:∀ty,binOp .gtr ty (vI ot) (vI D)=pure (.bool false):=pl.Fy false (by simpa using bv);have af:Ϛ ((H.take (k+1)).filter (Gn VS D)=F++[E]):=by show _=_;rw[cp.o,b6.o,decide_eq_true bv,if_pos rfl]
     have ag:Ϛ (Ko p v VS E=[⟨3,AX 1 E.row O.row⟩,⟨4,JR⟩]):=by show _=_;rw[dm.o,cs.o]
     clear bv;refine gr.CP 15 rfl ϟ (S:=λc=>Δ c vb (b2+m * 5+1) (vI ot)/\Δ c w 1 (vI D)) ⟨eo,dp⟩ (λd=>?_);refine tkz 0 39 d ?_;refine tkz 1 40 d ?_;refine tkz 2 41 d ?_;refine tkz 3 42 d ?_;refine tkz 4 43 d ?_;refine tkz 5 44 d ?_;refine tkz 6 45 d ?_;refine tkz 7 46 d ?_;refine tkz 8 47 d ?_;refine tkz 9 48 d ?_;refine tkz 10 49 d ?_;refine tkz 11 50 d ?_;refine tkz 12 51 d ?_;refine tkz 13 52 d ?_;refine tkz 14 53 d ?_;refine wpAnyH_done ϟ ?_ _;have G:ϛ W4 W4.drew:=bR.drew;generalize c8:W4.drew=u at G⊢;have a2:ϛ wr u:=bT a1 G;replace bg:=cLz G bg;replace cm:=cLz G cm;replace cn:=cLz G cn;replace a3:=cLz G a3;replace co:=cLz G co;replace az:Ϛ (Ae u wr 166):=Ad az.o G;have b4:Ϛ (JSt L u b 274 p x s y t' K):=b5.o.below a2;have a5:Ϛ (BD 274 X u):=ai.o.trans (B4 a2);have a6:Ϛ (MetL X u u6 ems F):=ab.o.below a2;have ap:Ϛ (u.ownsRow X 166 5 u6 Z (A0 ems)):=by
      have:=a6.o.own;rw[ao.o]at this;exact this
     have ca:Ϛ (∀g,u6.ownBlock=some g->X.heap.size<=g/\Ae u g 166):=λg B=>⟨(A5 ap.o B).1,Ay ap.o B⟩;have aw:Ϛ (∀g,u6.ownBlock=some g->g≠wr.heap.size):=λg B e=>by
      have:=(A5 ab.o.own B).2;omega
     have l5:X.heap.size<=u.heap.size:=a5.o.1.size;have fa:wr.heap.size<u.heap.size:=bLt _ _ bg;clear c8 G;obtain⟨BR,dt⟩:=nM (AX 1 E.row O.row);rw[dt]at cz ag;obtain⟨bn,cf⟩:=nM BR.length;rw[cf]at cz;clear dt cf;go_wp2_with (first
      |(at_builtin;refine Fe rfl (.tmp 54) (.tmp 56) rfl X.heap.size u6 ems P I M f t l Q u Z ao.o ap.o Ϝ Ϝ rfl rfl ?_;intro g aq j au W;have ac:=LF bj.o U b4.o a5.o W ca.o;have aa:Ϛ (JSt L j b 274 p x s y t' K):=ac.1;have J:Ϛ (BD 274 X j):=ac.2;have bk:Ϛ (MetL X j (vS (τ g) (Z+1) aq) (ems++[⟨P,I,M,(f,t,l),Q⟩]) (F++[E])):=MetL.snoc a6.o ct.o (by rw[ao.o];exact au);have z3:=Im W aw.o a3;have bq:Ϛ (Ae j wr.heap.size 166):=LH W aw.o az.o;have k0:=J.o.cell ay.o ϝ ϝ c0;have k2:=J.o.cell ay.o ϝ ϝ c2;have b0:Δ j b 1 (vI md):=(by rw[<-cr.o];exact aa.o.box.plan.2.1);have bi:Ϛ (ϛ L j):=aa.o.bl;have ax:Ϛ (vl.rowAt j f E.row):=a4.o j J.o;clear ac au W)
      |(go_at_call 353;(with_reducible refine(br.o _ bi.o ax.o).mono ?_);rintro e Y ⟨⟨R,T,rfl,bw⟩,r⟩;have be:=cLz r z3;have ej:=cLz r b0;have cd:Ϛ (Ae Y wr.heap.size 166):=Ad bq.o r))
     have bm:Ϛ (∀c,BD 274 j c->MetL X c (vS (τ g) (Z+1) aq) (ems++[⟨P,I,M,(f,t,l),Q⟩]) (F++[E])):=λc hk=>bk.o.keep U hk;have en:=cLz r (J.o.cell cw.o ϝ ϝ y4);have eu:Ϛ (Ae Y vb 166):=Ad (J.o.ty cw.o ϝ ϝ) r;have bh:Ϛ (∀a,ϛ Y a->vl.rowAt a f E.row/\vl.rowAt a o1 O.row):=λa A=>⟨vl.Ac ax.o (bT r A),vl.Ac (b8.o j J.o) (bT r A)⟩
     go_region_held3 (λc=>Δ c wr 3 (vS f t l)/\Δ c vb (b2+m * 5+1+1+1) (vS o1 o2 o3)) (first|exact bz|go_keep)
      (first
       |(go_at_call 355;refine(O6 aa.o U dd r bw N de).mono ?_;rintro e w8 ⟨rfl,t8,bs,ae⟩;have bz:Δ w8 wr 3 (vS f t l)/\Δ w8 vb (b2+m * 5+1+1+1) (vS o1 o2 o3):=⟨ae.cell (Ad cd.o N) ϝ ϝ (cLz N be),ae.cell (Ad eu.o N) ϝ ϝ (cLz N en)⟩)
       |(go_at_call 353;refine(cz.o _ (bh.o _ bR.drew).1 (bh.o _ bR.drew).2).mono ?_;rintro e w7 ⟨⟨c3,c5,rfl,df⟩,da⟩;have N:ϛ Y w7:=bR.drew.trans da;have de:AA w7 Y.heap.size (vS c3 bn c5) BR:=df;have bz:Δ w7 wr 3 (vS f t l)/\Δ w7 vb (b2+m * 5+1+1+1) (vS o1 o2 o3):=⟨cLz N be,cLz N en⟩))
     all_goals
      go_wp2;go_roundw
      (case rel=>exact⟨k+1,t8,_,_,Ϝ,by go_num,bs,by show _=_;rw[map_append,am.o,af.o,flatMap_append,LG,ag.o];rfl,by rw[lAp];show _+2<=_;omega,J.o.trans ((B4 (bT r N)).trans ae),by rw[af.o];exact bm.o _ ((B4 (bT r N)).trans ae)⟩)
      (case measure=>simp[intOf];omega)
    ·have ez:∀ty,binOp .gtr ty (vI ot) (vI D)=pure (.bool true):=pl.Fy true (by simpa using bv);have af:Ϛ ((H.take (k+1)).filter (Gn VS D)=F):=by show _=_;rw[cp.o,b6.o,decide_eq_false Ϝ,if_neg Ϟ,append_nil]
     clear bv;refine gr.CP 15 rfl ϟ (S:=λc=>Δ c vb (b2+m * 5+1) (vI ot)/\Δ c w 1 (vI D)) ⟨eo,dp⟩ (λd=>?_);refine tkz 0 39 d ?_;refine tkz 1 40 d ?_;refine tkz 2 41 d ?_;refine tkz 3 42 d ?_;refine tkz 4 43 d ?_;refine tkz 5 44 d ?_;refine tkz 6 45 d ?_;refine tkz 7 46 d ?_;refine tkz 8 47 d ?_;refine tkz 9 48 d ?_;refine tkz 10 49 d ?_;refine tkz 11 50 d ?_;refine tkz 12 51 d ?_;refine tkz 13 52 d ?_;refine tkz 14 53 d ?_;refine wpAnyH_done ϟ ?_ _;go_wp2;go_roundw
     (case rel=>exact⟨k+1,t',K,ems,Ϝ,by go_num,b5.o.below a1.drew,by show _=_;rw[af.o];exact am.o,Ϝ,ai.o.trans (B4 a1.drew),by rw[af.o];exact ab.o.below a1.drew⟩)
     (case measure=>simp[intOf];omega)
  ·have e4:k=g2:=Ϝ;subst e4;have fe:¬((k:Int)<(k:Int)):=Ϝ;have ec:H.take k=H:=by rw[cq.o,take_length]
   rw[ec]at am ab;obtain⟨F,ak⟩:=nM (H.filter (Gn VS D));rw[ak]at am ab a7;have ep:=hqz ak;obtain⟨ma,mc,hu,dz⟩:=ab.o.at;have e6:F.length<=4096:=by
    rw[<-ak];exact Nat.le_trans (length_filter_le ..) bp.o.1
   have KM:Ϛ (CT 358 #[μ b,vI 1,vS ma F.length mc] wr λe c=>e= .returned (.tuple #[])/\∃y',JSt L c b 274 p x (A7 s 1 (C0 (F.map (·.seq)) (Aj s 1))) y' t' K/\IU wr c):=LW b _ p x s y t' K 1 (ma,F.length,mc) ems F L wr b5.o U HI.o.1 HI.o.2 rfl dz ab.o.len ab.o.seq Ϝ (λz C=>bp.o.2.2 z (by rw[<-ak]at C;exact(mem_filter.1 C).1));obtain⟨Z,bc⟩:=nM F.length;rw[bc]at KM hu;subst hu;clear ec ak dz bc e6;go_wp2_with (go_at_call 358;refine KM.o.mono ?_;rintro e X9 ⟨rfl,y',e2,e3⟩);refine bodyPost_end (v:=.tuple #[]) (by simp[results,results389,go_sem]) rfl ⟨rfl,y',t',K,?_,?_,?_⟩
   ·rw[ep.o];exact e2
   ·rw[am.o,a7.o]
   ·exact((Aw d0).trans ai.o.m).trans e3.m
end jn
end Go.Proofs.YtfkihidbnfkbaaaGreatDoor
