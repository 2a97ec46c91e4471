import Derived.Test.YtdohnkkbkfhphaaGreatPw42
set_option linter.all false
set_option maxHeartbeats 16000000
set_option maxRecDepth 100000
open Go.ChangeShapes Go.WideShapes Go.ChangeAt Go.RowKit List
namespace Go.Proofs.YtdohnkkbkfhphaaGreat
open Go.Proofs.Tryz
namespace jn
open vl bf
attribute [local go_sem] Oper.semAt_some
theorem T4(p:pl.Pln)(x:pl.PA)(s:Jn)(y:JX)(v:Ev)(N:Ϝ)(Z:Nat)(w:ϛ)(h:joinAt w s y)(h0:pl.Al p=0)(hg:goodJ p s)(hc:comeJ p s v)(hk:p.kind≠3)(hv:evAt w v N):
 η 98 #[pl.Ak p x,joinV s y,evV v N Z,.string (pl.Ap p v.side v.row),.bool (pl.hasB p v.side v.row)] w λe g=>(∃ov L M mc,e= .returned (.tuple #[ov,vS M (partners p s v).length mc])/\CG g w ov L/\L.map CO.chg=Ck p s v/\Cz g M (partners p s v))/\Ϟ w g:=by
 have ct:Tryz.prog.follows .mixedOrders=true:=rfl;have I:v.side=1\/v.side=2:=of_decide_eq_true hc.side;have bh:3 - v.side=1\/3 - v.side=2:=ϟ;have dr:p.mode=1\/p.mode=2\/p.mode=3\/p.mode=4:=by
  have:=(pl.Bj h0).1.2.1;rw[if_neg hk]at this;omega
 have a3:∀d,(d=1\/d=2)->1<=(pl.As p d).length/\(pl.As p d).length<=4:=λd hd=>by
  have:=(pl.Bj h0).2.2.1.1;rcases hd with rfl|rfl
  ·exact this.1
  ·exact this.2.1
 have bg:okB (bufOf s (3 - v.side)):=(hg.of (3 - v.side)).1;have KS:ϝ (∀j,CT 92 #[joinV s y,vI (3 - v.side)] j (θ j (.tuple #[AF (bufOf s (3 - v.side)) (Bl y (3 - v.side)),vI (Bs s (3 - v.side))]))):=λj=>J3 s y (3 - v.side) j bh;have KA:ϝ (∀j,Ϟ w j->CT 43 #[AF (bufOf s (3 - v.side)) (Bl y (3 - v.side))] j λe g=>(∃a c,e= .returned (vS a (AP (Aa (bufOf s (3 - v.side)))).length c)/\Cz g a (AP (Aa (bufOf s (3 - v.side)))))/\Ϟ j g):=λj hb=>by
  have bv:bf.bufAt j (bufOf s (3 - v.side)) (Bl y (3 - v.side)):=by
   unfold bufOf Bl;split
   ·exact Ag h.r hb
   ·exact Ag h.l hb
  refine(FG _ _ j bv bg).mono ?_;rintro e g ⟨⟨hh,es,l,he,ho,fl,hr⟩,fe⟩;have fk:l=AP (Aa (bufOf s (3 - v.side))):=Ec fl (FZ hr) bg.once;rw[fk]at ho;obtain⟨e1,e2,_⟩:=OE.entsAt ho;obtain⟨g1,g2,g3⟩:=hh;dsimp only at e1 e2;subst e1;exact⟨⟨g1,g3,he,e2⟩,fe⟩
 have HP:ϝ (partners p s v=if pl.hasB p v.side v.row=true then(AP (Aa (bufOf s (3 - v.side)))).filter (mtB p v)else []):=RR h0 hk I bg;have HT:ϝ (Ck p s v=pairT p v (partners p s v)):=LV p s v;have cc:ϝ ((AP (Aa (bufOf s (3 - v.side)))).length<=4096):=by
  show _<=_;rw[(A9 _).length_eq];exact bg.all
 have bo:ϝ (∀z∈AP (Aa (bufOf s (3 - v.side))),(0<z.row.length/\z.row.length<=400)/\tm.Bc z.time=true):=λz F=>by
  have F:=(A9 _).mem_iff.1 F;exact⟨Bp (C8 hg (Hl hc.side).1 F),GD bg F⟩
 have ca:ϝ (vl.rowAt w N v.row/\0<v.row.length/\v.row.length<=400/\tm.Bc v.time=true):=⟨hv.row,(Bp hc.err).1,(Bp hc.err).2,hc.time⟩;have KM:=hIz (λ(l:Int) (r:Int) (j:ϛ) (hl:tm.Bc l=true) (hr:tm.Bc r=true)=>bt.Yu p x l r j h0 hk hl hr);have KK:ϝ (∀j,CT 151 #[.agg (Φ p x),vI (3 - v.side)] j (θ j (.bool (keepsJ p.mode (3 - v.side))))):=λj=>N9 p x (3 - v.side) j bh dr;have ck:ϝ (∀j,CT 151 #[.agg (Φ p x),vI v.side] j (θ j (.bool (keepsJ p.mode v.side)))):=λj=>N9 p x v.side j I dr;have ci:=hIz (λ(j:ϛ)=>P0 p x v.side j I);have cg:=hIz (λ(j:ϛ)=>P0 p x (3 - v.side) j bh);have cm:ϝ (∀j,CT 23 #[vI ((pl.As p v.side).length:Int)] j λe g=>(e= .returned (vS (τ j) (pl.As p v.side).length (pl.As p v.side).length)/\vl.rowAt g (τ j) (bt.AE (pl.As p v.side).length))/\Ϟ j g):=λj=>bt.Hj _ j (a3 _ I).1 (a3 _ I).2;have dh:ϝ (∀j,CT 23 #[vI ((pl.As p (3 - v.side)).length:Int)] j λe g=>(e= .returned (vS (τ j) (pl.As p (3 - v.side)).length (pl.As p (3 - v.side)).length)/\vl.rowAt g (τ j) (bt.AE (pl.As p (3 - v.side)).length))/\Ϟ j g):=λj=>bt.Hj _ j (a3 _ bh).1 (a3 _ bh).2;have cj:=hIz (λ(a1:Ϝ) (a2:Ϝ) (c1:Nat) (c2:Nat) (l1:List Cel) (l2:List Cel) (j:ϛ) (e1:0<l1.length) (e2:0<l2.length) (e3:l1.length<=400) (e4:l2.length<=400) (e5:vl.rowAt j a1 l1) (e6:vl.rowAt j a2 l2)=>Sr v.side a1 a2 c1 c2 l1 l2 j I e1 e2 e3 e4 e5 e6);have db:ϝ (∀d,(d=1\/d=2)->(bt.AE (pl.As p d).length).length=(pl.As p d).length/\0<(pl.As p d).length/\(pl.As p d).length<=400):=λd hd=>⟨length_replicate,(a3 d hd).1,by have:=(a3 d hd).2;omega⟩;have bp:ϝ (v.side=1\/v.side=2):=I;have dw:IntKind.i64.wrap (3 - v.side)=3 - v.side:=by rw[ch.BA];omega
 clear h h0 hg hc hk hv I bh dr a3 bg;obtain⟨T,hT⟩:=nM (Ck p s v);obtain⟨PR,cn⟩:=nM (partners p s v);rw[hT,cn]at HT;rw[cn]at HP;rw[hT,cn];clear hT cn;have bm:ϝ (∀e,mtB p v e=(decide (e.key=pl.Ap p v.side v.row)&&bt.GH p (ltJ v e) (rtJ v e))):=λe=>rfl;have a8:ϝ (∀e,toldOf p v e=if keepsJ p.mode (3 - v.side)=true/\e.met=false then [⟨3,AN p (3 - v.side) e.row⟩,⟨4,AJ v.side v.row e.row⟩]else [⟨1,AJ v.side v.row e.row⟩]):=λe=>rfl;have a7:ϝ (T=PR.flatMap (toldOf p v)++if PR.isEmpty=true/\keepsJ p.mode v.side=true then [⟨1,AN p v.side v.row⟩]else []):=HT.o;have c7:ϝ (∀e:Ent,ltJ v e=(if v.side=2 then e.time else v.time)/\rtJ v e=(if v.side=2 then v.time else e.time)):=λe=>⟨rfl,rfl⟩;obtain⟨f,hf⟩:=nM (mtB p v);obtain⟨tO,a4⟩:=nM (toldOf p v);rw[hf]at HP bm;rw[a4]at a7 a8;obtain⟨kb,ei⟩:=nM (pl.Ap p v.side v.row);obtain⟨I,eh⟩:=nM (pl.hasB p v.side v.row);obtain⟨BO,d9⟩:=nM (bufOf s (3 - v.side));obtain⟨XO,ec⟩:=nM (Bl y (3 - v.side));obtain⟨MO,eb⟩:=nM (Bs s (3 - v.side));obtain⟨kf,ej⟩:=nM (keepsJ p.mode (3 - v.side));obtain⟨ko,ek⟩:=nM (keepsJ p.mode v.side);rw[ei]at bm⊢;rw[eh]at HP⊢;rw[d9]at KS KA HP cc bo;rw[ec]at KS KA;rw[eb]at KS;rw[ej]at KK a8;rw[ek]at ck a7;have cd:ϝ ((bt.AE (pl.As p v.side).length).length=(pl.As p v.side).length/\0<(pl.As p v.side).length/\(pl.As p v.side).length<=400):=db.o _ bp.o;have da:ϝ ((bt.AE (pl.As p (3 - v.side)).length).length=(pl.As p (3 - v.side)).length/\0<(pl.As p (3 - v.side)).length/\(pl.As p (3 - v.side)).length<=400):=db.o _ (by have:=bp.o;omega);have c5:ϝ (AN p v.side v.row=AJ v.side v.row (bt.AE (pl.As p (3 - v.side)).length)):=rfl;have bi:ϝ (∀r,AJ v.side (bt.AE (pl.As p v.side).length) r=AN p (3 - v.side) r):=λr=>Ug p bp.o r;obtain⟨t,ea⟩:=nM (AP (Aa BO));rw[ea]at KA HP cc bo;obtain⟨n,hn⟩:=nM t.length;have HN:ϝ (t.length=n):=hn;rw[hn]at KA cc
 obtain⟨nc,et⟩:=nM ((pl.As p v.side).length);obtain⟨nf,eu⟩:=nM ((pl.As p (3 - v.side)).length);rw[et]at ci cm cd bi;rw[eu]at cg dh da c5;have fs:n<=4096:=cc.o;clear hf a4 ei eh d9 ec eb ej ek ea hn et eu HT db;unfold AF hdV at KS KA;unfold pl.Ak;rw[A0]at KS⊢;unfold evV;obtain⟨kd,B,tv,af⟩:=v;dsimp only at KS KA HP bo ca KM KK ck ci cg cm dh cj bp dw bm a8 a7 c7 cd da c5 bi⊢;obtain⟨n0,ds⟩:=nM af.length;have d6:ϝ (af.length=n0):=ds;rw[ds];obtain⟨fd,fh⟩:=nM (3 - B);rw[fh]at KS KK cg dw a8 bi;clear ds;go_enter func98,ntmps98;go_upto_region 1 with fail;generalize X:(World.alloc (World.alloc (World.alloc w _) _) _)=V;have ff:Ϟ w V:=by rw[<-X];exact(Ϫ.alloc ϡ _).alloc Ϥ _
 have d0:ϝ (boxP V w p x):=by
  subst X;exact Ad (Ad (BL ..) Ϫ) Ϫ
 have dz:ϝ (AK V (w+1) s y):=by
  subst X;have:=AL (ξ w (Φ p x) 25) s y 31;rw[World.size_alloc]at this;exact Ah this Ϫ
 have q1:Δ V (w+1+1) 1 (vI B):=by subst X;go_simp
 have q2:Δ V (w+1+1) 2 (vI tv):=by subst X;go_simp
 have q3:Δ V (w+1+1) 3 (vS N n0 Z):=by subst X;go_simp
 clear X;obtain⟨u0,u1,u2,u3,u4,u5,u6,u7,u8⟩:=dz.o;go_upto_region 3 with(go_at_call 92;(with_reducible refine(KS.o _).mono ?_);rintro e j ⟨rfl,bv⟩);clear u0 u1 u2 u3 u4 u5 u6 u7 u8 KS dz dw;generalize X:(World.alloc j _)=V2;have au:Ϟ V V2:=by rw[<-X];exact bv.alloc bv.size _
 have di:Ϟ w V2:=bT ff au;have b0:Δ V2 j 0 (vI BO.lim):=by subst X;go_simp
 have b1:Δ V2 j 1 (vS XO.m.1.1 XO.m.1.2.1 XO.m.1.2.2):=by subst X;go_simp
 have b2:Δ V2 j 2 (vS XO.ra XO.rs.length XO.rc):=by subst X;go_simp
 clear X;go_upto_region 6 with(go_at_call 43;(with_reducible refine(KA.o _ di).mono ?_);rintro e o ⟨⟨la,lc,rfl,em⟩,dm⟩);have co:Ϟ V o:=bT au dm;have ab:Ϟ w o:=bT di dm;have d2:ϝ (Cz o la t):=em;have aj:ϝ (∀g,Ϟ o g->(Δ g (w+1+1) 1 (vI B)/\Δ g (w+1+1) 2 (vI tv)/\Δ g (w+1+1) 3 (vS N n0 Z))/\boxP g w p x):=λg F=>⟨⟨cLz F (cLz co q1),cLz F (cLz co q2),cLz F (cLz co q3)⟩,Ad (Ad d0.o co) F⟩;clear em q1 q2 q3 b0 b1 b2 KA d0 bv au dm di;go_upto_region 7 with fail
 go_loopw [15,16,18,19,20,21] (λov mv i _ _ _ wr=> ∃(k:Nat) (L:List CO) (ems:List EM),k<=n/\i=vI k/\MT o wr ov L mv ems ((t.take k).filter f)/\L.map CO.chg=((t.take k).filter f).flatMap tO/\L.length<=2 * k/\(I=false->k=0)) (λ_ _ i _ _ _ _=>n - (intOf i).toNat)
 case atStart=>exact⟨0,[],[],Nat.zero_le _,rfl,⟨CG.start nR,Zz o⟩,rfl,Nat.le_refl _,λ_=>rfl⟩
 case round=>
  obtain⟨k,L,ems,fq,rfl,cs,ey,fj,dy⟩:=hrel;have HM:ϝ (MT o wr u15 L u16 ems ((t.take k).filter f)):=cs;have ar:ϝ (L.map CO.chg=((t.take k).filter f).flatMap tO):=ey;have be:Ϟ o wr:=cs.gl.bl;have fp:ems.length<=k:=by
   have H:=cs.gl.ers.1;have W:=length_filter_le f (t.take k);rw[length_take]at W;omega
  obtain⟨pn,cu⟩:=nM L.length;have ah:ϝ (L.length=pn):=cu;have de:ϝ ((L.map CO.pair).length=pn):=by show _=_;rw[lMp];exact cu
  rw[cu]at fj;clear cs ey cu;by_cases av:k<n/\I=true
  ·obtain⟨av,rfl⟩:=av;obtain⟨lb,lo,Q,Y,el,x0,x1,x2,x3,x4,x5⟩:=d2.o k (by rw[HN.o];exact av);subst el;have er:t.getD k default∈t:=AD (by rw[HN.o];exact av);obtain⟨⟨cv,cw⟩,b4⟩:=bo.o _ er;have bd:=bm.o (t.getD k default);have dq:=Ph t f k (by rw[HN.o];exact av);have a4:=a8.o (t.getD k default);obtain⟨cq,cx⟩:=c7.o (t.getD k default);obtain⟨yl,e9⟩:=nM (t.getD k default);rw[e9]at x0 x1 x2 x3 x4 x5 cv cw b4 bd dq a4 cq cx;have bk:ϝ (∀J,yl.row.length=J->ER o ⟨yl.key,yl.time,yl.seq,(Q,J,Y),yl.met⟩ yl):=λJ e=>⟨rfl,rfl,rfl,rfl,e.symm,x5⟩;have df:ϝ (vl.rowAt o Q yl.row):=x5;obtain⟨A,E,R,D,G⟩:=yl;dsimp only at x0 x1 x2 x3 x4 cv cw b4 bd a4 cq cx bk df;obtain⟨J,cr⟩:=nM D.length;have d3:ϝ (D.length=J/\0<D.length/\D.length<=400):=⟨cr,cv,cw⟩;replace bk:=bk.o J cr;have d1:ϝ (ER o ⟨A,E,R,(Q,J,Y),G⟩ ⟨A,E,R,D,G⟩):=bk;rw[cr]at x3;rw[cq,cx]at bd;obtain⟨tl,cy⟩:=nM (if B=2 then E else tv);obtain⟨tr,cz⟩:=nM (if B=2 then tv else E);have c6:ϝ (tm.Bc tl=true/\tm.Bc tr=true):=by
    have:=ca.o.2.2.2;rw[<-cy,<-cz]
    constructor
    ·split
     ·exact b4
     ·exact this
    ·split
     ·exact this
     ·exact b4
   have bq:ϝ ((if B=2 then E else tv)=tl/\(if B=2 then tv else E)=tr):=⟨cy,cz⟩;rw[cy,cz]at bd;have am:ϝ (f ⟨A,E,R,D,G⟩=(decide (A=kb)&&bt.GH p tl tr)):=bd;have a6:ϝ ((t.take (k+1)).filter f=(t.take k).filter f++if f ⟨A,E,R,D,G⟩=true then [⟨A,E,R,D,G⟩]else []):=dq;have a9:ϝ (tO ⟨A,E,R,D,G⟩=if kf=true/\G=false then [⟨3,AN p fd D⟩,⟨4,AJ B af D⟩]else [⟨1,AJ B af D⟩]):=a4;have i1:(0:Int)<=(k:Int):=ϟ;have i2:(k:Int)<(n:Int):=ϟ;have SK:ϝ (∀g,Ϟ o g->(Δ g (w+1+1) 1 (vI B)/\Δ g (w+1+1) 2 (vI tv)/\Δ g (w+1+1) 3 (vS N n0 Z))/\(ό g lb (lo+k * 5) (.string A) (vI E) (vI R) (vS Q J Y) (.bool G))/\boxP g w p x):=λg F=>⟨(aj.o g F).1,⟨cLz F x0,cLz F x1,cLz F x2,cLz F x3,cLz F x4⟩,(aj.o g F).2⟩;clear cq cx bd dq a4 cy cz b4 cv cw er e9 x0 x1 x2 x3 x4 x5 cr bk;go_upto_region 9 with fail;refine gr.AQ (S:=λg=>(Δ g (w+1+1) 1 (vI B)/\Δ g (w+1+1) 2 (vI tv)/\Δ g (w+1+1) 3 (vS N n0 Z))/\(ό g lb (lo+k * 5) (.string A) (vI E) (vI R) (vS Q J Y) (.bool G))/\boxP g w p x) 9 rfl ct (SK.o _ be.drew) ?_;intro m;refine Ai 0 42 m ?_;refine Ai 2 44 m ?_;refine Ai 4 46 m ?_;refine takeB 6 48 m ?_;refine takeB 7 19 m ?_;refine takeB 8 20 m ?_;refine wpAnyH_done Ϣ ?_ _
   go_upto_if 51 with fail
   go_cut [19,20] (λa b wc=>a=vI tl/\b=vI tr/\wc=wr.drew)
   case first=>
    rcases bp.o with rfl|rfl
    ·have e1:=bq.o.1;have e2:=bq.o.2;rw[if_neg Ϡ]at e1 e2;subst e1 e2;go_wp2;go_meet;exact⟨rfl,rfl,rfl⟩
    ·have e1:=bq.o.1;have e2:=bq.o.2;rw[if_pos rfl]at e1 e2;subst e1 e2;go_wp2;go_meet;exact⟨rfl,rfl,rfl⟩
   case rest=>
    obtain⟨rfl,rfl,e7⟩:=hcut;rename World=>wq;have c0:Ϟ wr wq:=by rw[e7];exact bR.drew
    have fn:Ϟ o wq:=bT be c0;clear e7 bq;obtain⟨⟨q1,q2,q3⟩,⟨z0,z1,z2,z3,z4⟩,v0,v1,v2,v3,v4,v5,v6,v7,v8,v9,aw,ax,ay⟩:=SK.o _ fn;by_cases c1:A=kb
    case neg=>
     have t1:(A.toList==kb.toList)=false:=by
      have:=bytes_beq A kb;rw[beq_eq_false_iff_ne];intro e;rw[e]at this;exact c1 (by simpa using this.symm)
     have t2:(A.toList !=kb.toList)=true:=by simpa using t1
     have ag:ϝ ((t.take (k+1)).filter f=(t.take k).filter f):=by
      show _=_;rw[a6.o,am.o,decide_eq_false c1];simp
     clear c1 a6 am;go_wp2;go_roundw
     case rel=>exact⟨k+1,L,ems,ϟ,by go_num,by rw[ag.o];exact HM.o.below (c0),by rw[ag.o];exact ar.o,by rw[ah.o];omega,λh=>absurd h Ϡ⟩
     case measure=>simp[intOf];omega
    have t1:(A.toList==kb.toList)=true:=by rw[c1];simp
    have t2:(A.toList !=kb.toList)=false:=by rw[c1];simp
    have cl:ϝ (∀j,CT 149 #[.agg (Φ p x),vI tl,vI tr] j (θ j (.bool (bt.GH p tl tr)))):=λj=>KM.o tl tr j c6.o.1 c6.o.2;obtain⟨mb,ep⟩:=nM (bt.GH p tl tr);rw[ep]at cl am;rw[decide_eq_true c1,Bool.true_and]at am;clear ep c1
    cases mb with
    |false=>
     have ag:ϝ ((t.take (k+1)).filter f=(t.take k).filter f):=by
      show _=_;rw[a6.o,am.o];simp
     clear a6 am;go_wp2_with (go_at_call 149;(with_reducible refine(cl.o _).mono ?_);rintro e w2 ⟨rfl,au⟩);go_roundw
     case rel=>exact⟨k+1,L,ems,ϟ,by go_num,by rw[ag.o];exact HM.o.below (bT c0 au),by rw[ag.o];exact ar.o,by rw[ah.o];omega,λh=>absurd h Ϡ⟩
     case measure=>simp[intOf];omega
    |true=>
     have ag:ϝ ((t.take (k+1)).filter f=(t.take k).filter f++[⟨A,E,R,D,G⟩]):=by
      show _=_;rw[a6.o,am.o,if_pos rfl]
     clear a6 am;go_upto_region 13 with(go_at_call 149;(with_reducible refine(cl.o _).mono ?_);rintro e w2 ⟨rfl,au⟩);clear q1 q2 q3 z0 z1 z2 z3 z4 v0 v1 v2 v3 v4 v5 v6 v7 v8 v9 aw ax ay;have e0:Ϟ wr w2:=bT c0 au;have e8:Ϟ o w2:=bT be e0;have c8:ϝ (MT o w2 u15 L u16 ems ((t.take k).filter f)):=HM.o.below e0;clear au cl c6;obtain⟨⟨q1,q2,q3⟩,⟨z0,z1,z2,z3,z4⟩,v0,v1,v2,v3,v4,v5,v6,v7,v8,v9,aw,ax,ay⟩:=SK.o _ e8;go_upto_region 14 with(at_builtin;refine wpList_appE rfl (.tmp 68) (.tmp 73) rfl o.heap.size u16 ems A E R Q J Y G w2 ems.length rfl c8.o.gl.own ϟ e8.size rfl rfl ?_;intro d8 d7 w3 ew eg);obtain⟨eo,c3⟩:=c8.o.met (mv':=vS (τ d8) (ems.length+1) d7) d1.o ew eg;have cb:ϝ (MT o w3 u15 L (vS (τ d8) (ems.length+1) d7) (ems++[⟨A,E,R,(Q,J,Y),G⟩]) ((t.take k).filter f++[⟨A,E,R,D,G⟩])):=eo;obtain⟨BR,dj⟩:=nM (AJ B af D);obtain⟨bn,ee⟩:=nM BR.length;have KJ:ϝ (∀j,Ϟ o j->CT 150 (ν B N n0 Z Q J Y) j λe g=>(∃O P,e= .returned (vS O bn P)/\A4 g j (vS O bn P) BR)/\Ϟ j g):=λj hb=>by
      have H:=ca.o;have W:=d3.o;have:=cj.o N Q Z Y af D j H.2.1 W.2.1 H.2.2.1 W.2.2 (vl.Ac H.1 (bT ab hb)) (vl.Ac df.o hb);rw[dj,ee,d6.o,W.1]at this;exact this
     rw[dj]at a9;clear q1 q2 q3 z0 z1 z2 z3 z4 v0 v1 v2 v3 v4 v5 v6 v7 v8 v9 aw ax ay eo ew eg c8 HM dj ee d1;refine gr.AQ (S:=λg=>(Δ g (w+1+1) 1 (vI B)/\Δ g (w+1+1) 2 (vI tv)/\Δ g (w+1+1) 3 (vS N n0 Z))/\(ό g lb (lo+k * 5) (.string A) (vI E) (vI R) (vS Q J Y) (.bool G))/\boxP g w p x) 11 rfl ct (SK.o _ c3.drew) ?_;intro m;refine Ai 0 75 m ?_;refine Ai 2 77 m ?_;refine Ai 4 79 m ?_;refine Ai 6 81 m ?_;refine takeB 8 83 m ?_;refine rD 9 λK q=>?_;go_simp;go_at_call 150;refine(KJ.o _ c3.drew).mono ?_;rintro e w4 ⟨⟨ba,bc,rfl,ev⟩,dp⟩;have c4:Ϟ o w4:=c3.trans ((bR.drew.trans dp).mono c3.size);go_wp2_with fail;refine q.out _ _ (SK.o _ c4) (λm=>?_);clear q K
     try simp only[Act.put,sI,sZ,sSz]
     refine takeB 10 21 m ?_;refine wpAnyH_done Ϣ ?_ _;have ed:Ϟ w3 w4:=bR.drew.trans dp;have cf:ϝ (A4 w4 w3 (vS ba bn bc) BR):=World.ownsRow.mono ev nR;clear ev dp KJ;obtain⟨⟨q1,q2,q3⟩,⟨z0,z1,z2,z3,z4⟩,v0,v1,v2,v3,v4,v5,v6,v7,v8,v9,aw,ax,ay⟩:=SK.o _ c4;by_cases cp:kf=true/\G=false
     ·obtain⟨rfl,rfl⟩:=cp;rw[if_pos ⟨rfl,rfl⟩]at a9;go_upto_region 16 with(go_at_call 151;(with_reducible refine(KK.o _).mono ?_);rintro e w5 ⟨rfl,ae⟩;have y4:=cLz ae z4);have bw:Ϟ w3 w5:=bT ed ae;have b8:Ϟ o w5:=bT c4 ae;have dd:ϝ (A4 w5 w3 (vS ba bn bc) BR):=own_below cf.o ae;clear q1 q2 q3 z0 z1 z2 z3 z4 v0 v1 v2 v3 v4 v5 v6 v7 v8 v9 aw ax ay cf ae y4;obtain⟨AR,az⟩:=nM (AN p fd D);obtain⟨U,bs⟩:=nM AR.length;have fc:ϝ (∀(C u:ϛ),Ϟ o u->vl.rowAt u (τ C) (bt.AE nc)->CT 150 #[vI B,vS (τ C) nc nc,vS Q J Y] u λe g=>(∃O P,e= .returned (vS O U P)/\A4 g u (vS O U P) AR)/\Ϟ u g):=λC u hb hn=>by
       have H:=cd.o;have W:=d3.o;have:=cj.o (τ C) Q nc Y (bt.AE nc) D u (by rw[H.1];exact H.2.1) W.2.1 (by rw[H.1];exact H.2.2) W.2.2 hn (vl.Ac df.o hb);rw[bi.o,az,bs,H.1,W.1]at this;exact this
      rw[az]at a9;clear az bs;refine gr.AQ (S:=λg=>(Δ g (w+1+1) 1 (vI B)/\Δ g (w+1+1) 2 (vI tv)/\Δ g (w+1+1) 3 (vS N n0 Z))/\(ό g lb (lo+k * 5) (.string A) (vI E) (vI R) (vS Q J Y) (.bool false))/\boxP g w p x) 20 rfl ct (SK.o _ b8.drew) ?_;intro m;refine Ai 0 96 m ?_;refine Ai 2 98 m ?_;refine Ai 4 100 m ?_;refine Ai 8 104 m ?_;refine Ai 10 106 m ?_;refine takeB 12 108 m ?_;refine takeB 15 111 m ?_;refine takeB 16 112 m ?_;refine rD 6 λK q=>?_;go_simp;go_at_call 152;refine(ci.o _).mono ?_;rintro e C ⟨rfl,bz⟩;have b9:Ϟ o C:=b8.trans ((bR.drew.trans bz).mono b8.size);have a0:Ϟ w5 C:=bR.drew.trans bz;go_wp2_with fail;refine q.out _ _ (SK.o _ b9) (λm=>?_);clear q K
      try simp only[Act.put,sI,sZ,sSz]
      refine rD 7 λK q=>?_;go_simp;go_at_call 23;refine(cm.o _).mono ?_;rintro e u ⟨⟨rfl,dt⟩,ak⟩;have a5:Ϟ o u:=bT b9 ak;go_wp2_with fail;refine q.out _ _ (SK.o _ a5) (λm=>?_);clear q K
      try simp only[Act.put,sI,sZ,sSz]
      have dg:ϝ (CT 150 #[vI B,vS (τ C) nc nc,vS Q J Y] u λe g=>(∃O P,e= .returned (vS O U P)/\A4 g u (vS O U P) AR)/\Ϟ u g):=fc.o C u a5 dt;refine rD 13 λK q=>?_;go_simp;go_at_call 150;refine(dg.o).mono ?_;rintro e w8 ⟨⟨aa,ac,rfl,du⟩,b3⟩;have al:Ϟ o w8:=bT a5 b3;go_wp2_with fail;refine q.out _ _ (SK.o _ al) (λm=>?_);clear q K
      try simp only[Act.put,sI,sZ,sSz]
      refine takeB 14 110 m ?_;refine rD 17 λK q=>?_;go_simp;refine q.out _ _ (SK.o _ (al.alloc al.size _)) (λm=>?_);clear q K
      try simp only[Act.put,sI,sZ,sSz]
      have bx:Ϟ w5 w8:=(bT a0 ak).trans (b3.mono (bT a0 ak).size);have dc:ϝ (w8.ownsRow o 55 2 u15 pn (ch.Ba (L.map CO.pair))):=by
       have h:=((cb.o.below bw).below bx).cg.own;rw[ah.o]at h;exact h
      refine rD 18 λK q=>?_;refine Jv (by rfl) (.tmp 96) (.tmp 113) (by rfl) o.heap.size u15 (L.map CO.pair) 3 (vS aa U ac) 4 (vS ba bn bc) w8 pn de.o dc.o ϟ al.size rfl rfl (by simp[Act.eval,Act.put]) (by simp[Act.eval,Act.put]) ?_;intro g9 c9 w9 b7 b6 bu en;have ao:=MT.two (cb.o) (k:=3) (k2:=4) bw dd.o bx (World.ownsRow.mono du (Nat.le_trans a0.size ak.size)) (rv:=vS aa U ac) (row:=AR) (ov':=vS (τ g9) (pn+2) c9) b6 (by rw[ah.o];exact b7) (λg' b5=>by cases b5;rcases bu with h|h;exact .inl h;exact .inr (by show _<=g9;omega));refine q.out _ _ (SK.o _ ao.2) (λm=>?_);clear q K
      try simp only[Act.put,sI,sZ,sSz]
      refine takeB 19 15 m ?_;refine wpAnyH_done Ϣ ?_ _;go_wp2;go_roundw
      case rel=>exact⟨k+1,_,_,ϟ,by go_num,by rw[ag.o];exact ao.1,by rw[ag.o,flatMap_append,<-ar.o,map_append,flatMap_cons,flatMap_nil,append_nil,a9.o];rfl,by rw[lAp,ah.o];simp only[length_cons,length_nil];omega,λh=>absurd h Ϡ⟩
      case measure=>simp[intOf];omega
     ·rw[if_neg cp]at a9;have fi:kf=false\/(kf=true/\G=true):=by
       cases kf
       ·exact .inl rfl
       ·cases G
        ·exact absurd ⟨rfl,rfl⟩ cp
        ·exact .inr ⟨rfl,rfl⟩
      clear cp;rcases fi with rfl|⟨rfl,rfl⟩
      all_goals
       go_upto_region 17 with(go_at_call 151;(with_reducible refine(KK.o _).mono ?_);rintro e w5 ⟨rfl,ae⟩;have y4:=cLz ae z4);have bw:Ϟ w3 w5:=bT ed ae;have b8:Ϟ o w5:=bT c4 ae;have dd:ϝ (A4 w5 w3 (vS ba bn bc) BR):=own_below cf.o ae;clear q1 q2 q3 z0 z1 z2 z3 z4 v0 v1 v2 v3 v4 v5 v6 v7 v8 v9 aw ax ay cf ae y4;have fa:ϝ (w5.ownsRow o 55 2 u15 pn (ch.Ba (L.map CO.pair))):=by
        have h:=(cb.o.below bw).cg.own;rw[ah.o]at h;exact h
       go_wp2_with (at_builtin;refine Gl rfl (.tmp 115) (.tmp 118) rfl o.heap.size u15 (L.map CO.pair) 1 ba bn bc w5 pn de.o fa.o ϟ b8.size rfl rfl ?_;intro g9 c9 w9 b7 b6 bu en);have ao:=MT.one cb.o (k:=1) bw dd.o (rv:=vS ba bn bc) (row:=BR) (ov':=vS (τ g9) (pn+1) c9) b6 (by rw[ah.o];exact b7) (λg' b5=>by cases b5;rcases bu with h|h;exact .inl h;exact .inr (by show _<=g9;omega));go_roundw
       case rel=>exact⟨k+1,_,_,ϟ,by go_num,by rw[ag.o];exact ao.1,by rw[ag.o,flatMap_append,<-ar.o,map_append,flatMap_cons,flatMap_nil,append_nil,a9.o];rfl,by rw[lAp,ah.o];simp only[length_cons,length_nil];omega,λh=>absurd h Ϡ⟩
       case measure=>simp[intOf];omega
  ·have d5:ϝ ((t.take k).filter f=PR):=by
    show _=_;rw[HP.o]
    cases I with
    |false=>
     rw[dy rfl];rfl
    |true=>
     have:k=t.length:=by
      rw[HN.o];have:¬k<n:=λh=>av ⟨h,rfl⟩;omega
     rw[this,take_length];rfl
   rw[d5.o]at HM ar;have fg:(I=true/\k=n)\/(I=false/\k=0/\0<n)\/(I=false/\k=0/\n=0):=by
    cases I with
    |false=>
     have:=dy rfl;by_cases h0:0<n
     ·exact .inr (.inl ⟨rfl,this,h0⟩)
     ·exact .inr (.inr ⟨rfl,this,ϟ⟩)
    |true=>
     have:¬k<n:=λh=>av ⟨h,rfl⟩;exact .inl ⟨rfl,ϟ⟩
   obtain⟨M,mc,ez,ef⟩:=HM.o.gl.at;have bj:ϝ (Cz wr M PR):=ef;have ai:ϝ (MT o wr u15 L u16 ems PR):=HM.o;have br:Ϟ w wr:=bT ab be;have d4:ϝ (∃z,PR.length=z):=⟨_,rfl⟩;obtain⟨pr,dv⟩:=d4.o;have ap:ϝ (PR.length=pr):=dv;rw[dv]at ez;clear ef d5 HM d4 dv av dy d2 bo bm a8 c7 KM KK ci cm bi cd;subst ez;have fm:True:=trivial;rcases fg with⟨rfl,rfl⟩|⟨rfl,rfl,h0⟩|⟨rfl,rfl,rfl⟩
   all_goals
    (try have i3:((0:Nat):Int)<(n:Int):=by omega)
    go_upto_region 18 with fail;clear fm;obtain⟨⟨q1,q2,q3⟩,v0,v1,v2,v3,v4,v5,v6,v7,v8,v9,aw,ax,ay⟩:=aj.o _ be;by_cases ex:pr=0
    ·subst ex;have dl:PR=[]:=length_eq_zero_iff.1 ap.o
     cases ko with
     |false=>
      have aq:ϝ (L.map CO.chg=T):=by
       show _=_;rw[a7.o,ar.o,if_neg ϡ,append_nil]
      go_wp2_with (go_at_call 151;(with_reducible refine(ck.o _).mono ?_);rintro e wz ⟨rfl,bb⟩);refine bodyPost_ret (v:=.tuple #[u15,vS M 0 mc]) (by simp[results,results98,go_sem]) rfl ?_;exact⟨⟨u15,L,M,mc,by rw[ap.o],Ds (ai.o.below bb).cg ab.size,aq.o,Fv bj.o bb⟩,bT br bb⟩
     |true=>
      obtain⟨AR,az⟩:=nM (AN p B af);obtain⟨U,bs⟩:=nM AR.length;have aq:ϝ (T=L.map CO.chg++[⟨1,AR⟩]):=by
       show _=_;rw[a7.o,ar.o,dl,if_pos ⟨rfl,rfl⟩,az]
      have fb:ϝ (∀(C u:ϛ),Ϟ o u->vl.rowAt u (τ C) (bt.AE nf)->CT 150 #[vI B,vS N n0 Z,vS (τ C) nf nf] u λe g=>(∃O P,e= .returned (vS O U P)/\A4 g u (vS O U P) AR)/\Ϟ u g):=λC u hb hn=>by
       have H:=da.o;have W:=ca.o;have:=cj.o N (τ C) Z nf af (bt.AE nf) u W.2.1 (by rw[H.1];exact H.2.1) W.2.2.1 (by rw[H.1];exact H.2.2) (vl.Ac W.1 (bT ab hb)) hn;rw[<-c5.o,az,bs,H.1,d6.o]at this;exact this
      clear az bs;go_upto_region 19 with(go_at_call 151;(with_reducible refine(ck.o _).mono ?_);rintro e wz ⟨rfl,bb⟩);have dx:Ϟ o wz:=bT be bb;replace ai:ϝ (MT o wz u15 L (vS M 0 mc) ems PR):=ai.o.below bb;have fo:ϝ (Cz w M PR):=by rw[dl];exact λi hi=>absurd hi (Nat.not_lt_zero i)
      clear q1 q2 q3 v0 v1 v2 v3 v4 v5 v6 v7 v8 v9 aw ax ay;refine gr.AQ (S:=λg=>(Δ g (w+1+1) 1 (vI B)/\Δ g (w+1+1) 2 (vI tv)/\Δ g (w+1+1) 3 (vS N n0 Z))/\boxP g w p x) 14 rfl ct (aj.o _ dx.drew) ?_;intro m;refine Ai 0 129 m ?_;refine Ai 2 131 m ?_;refine Ai 4 133 m ?_;refine takeB 6 135 m ?_;refine rD 7 λK q=>?_;go_simp;go_at_call 152;refine(cg.o _).mono ?_;rintro e C ⟨rfl,bz⟩;have b9:Ϟ o C:=dx.trans ((bR.drew.trans bz).mono dx.size);have a0:Ϟ wz C:=bR.drew.trans bz;go_wp2_with fail;refine q.out _ _ (aj.o _ b9) (λm=>?_);clear q K
      try simp only[Act.put,sI,sZ,sSz]
      refine rD 8 λK q=>?_;go_simp;go_at_call 23;refine(dh.o _).mono ?_;rintro e u ⟨⟨rfl,dt⟩,ak⟩;have a5:Ϟ o u:=bT b9 ak;go_wp2_with fail;refine q.out _ _ (aj.o _ a5) (λm=>?_);clear q K
      try simp only[Act.put,sI,sZ,sSz]
      have dg:ϝ (CT 150 #[vI B,vS N n0 Z,vS (τ C) nf nf] u λe g=>(∃O P,e= .returned (vS O U P)/\A4 g u (vS O U P) AR)/\Ϟ u g):=fb.o C u a5 dt;refine rD 9 λK q=>?_;go_simp;go_at_call 150;refine(dg.o).mono ?_;rintro e w8 ⟨⟨aa,ac,rfl,du⟩,b3⟩;have al:Ϟ o w8:=bT a5 b3;go_wp2_with fail;refine q.out _ _ (aj.o _ al) (λm=>?_);clear q K
      try simp only[Act.put,sI,sZ,sSz]
      refine takeB 10 139 m ?_;refine rD 11 λK q=>?_;go_simp;refine q.out _ _ (aj.o _ (al.alloc al.size _)) (λm=>?_);clear q K
      try simp only[Act.put,sI,sZ,sSz]
      have bx:Ϟ wz w8:=(bT a0 ak).trans (b3.mono (bT a0 ak).size);have dc:ϝ (w8.ownsRow o 55 2 u15 pn (ch.Ba (L.map CO.pair))):=by
       have h:=(ai.o.below bx).cg.own;rw[ah.o]at h;exact h
      refine rD 12 λK q=>?_;refine Pk (by rfl) (.tmp 129) (.tmp 140) (by rfl) o.heap.size u15 (L.map CO.pair) 1 aa U ac w8 pn de.o dc.o ϟ al.size (by simp[Act.eval,Act.put]) (by simp[Act.eval,Act.put]) ?_;intro g9 c9 w9 b7 b6 bu en;have ao:=MT.one ai.o (k:=1) bx (World.ownsRow.mono du (Nat.le_trans a0.size ak.size)) (rv:=vS aa U ac) (row:=AR) (ov':=vS (τ g9) (pn+1) c9) b6 (by rw[ah.o];exact b7) (λg' b5=>by cases b5;rcases bu with h|h;exact .inl h;exact .inr (by show _<=g9;omega));refine q.out _ _ (aj.o _ ao.2) (λm=>?_);clear q K
      try simp only[Act.put,sI,sZ,sSz]
      refine takeB 13 15 m ?_;refine wpAnyH_done Ϣ ?_ _;go_wp2;refine bodyPost_ret (v:=.tuple #[vS (τ g9) (pn+1) c9,vS M 0 mc]) (by simp[results,results98,go_sem]) rfl ?_;exact⟨⟨_,_,M,mc,by rw[ap.o],Ds ao.1.cg ab.size,by rw[aq.o,map_append];rfl,by rw[dl];exact λi hi=>absurd hi (Nat.not_lt_zero i)⟩,ab.trans (ao.2.mono ab.size)⟩
    ·have aq:ϝ (L.map CO.chg=T):=by
      show _=_;rw[a7.o,ar.o,if_neg (λh=>ex (by have:=isEmpty_iff.1 h.1;rw[<-ap.o,this];rfl)),append_nil]
     have p1:((pr:Int)==0)=false:=by rw[beq_eq_false_iff_ne];omega
     go_wp2;refine bodyPost_ret (v:=.tuple #[u15,vS M pr mc]) (by simp[results,results98,go_sem]) rfl ?_
     first
      |exact⟨⟨u15,L,M,mc,by rw[ap.o],Ds ai.o.cg ab.size,aq.o,bj.o⟩,br⟩
      |exact⟨⟨u15,L,⟨Ds ai.o.cg ab.size,aq.o⟩,M,⟨mc,by rw[ap.o]⟩,bj.o⟩,br⟩
      |exact⟨⟨u15,L,M,⟨mc,by rw[ap.o]⟩,Ds ai.o.cg ab.size,aq.o,bj.o⟩,br⟩
      |(refine⟨?_,br⟩;exact⟨u15,L,M,⟨mc,by rw[ap.o]⟩,Ds ai.o.cg ab.size,aq.o,bj.o⟩)
end jn
end Go.Proofs.YtdohnkkbkfhphaaGreat
