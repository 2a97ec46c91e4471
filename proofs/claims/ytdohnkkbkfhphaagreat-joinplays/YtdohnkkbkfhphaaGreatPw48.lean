import Derived.Test.YtdohnkkbkfhphaaGreatPw46
set_option linter.all false
set_option maxHeartbeats 16000000
set_option maxRecDepth 100000
open Go.ChangeShapes Go.WideShapes Go.ChangeAt Go.RowKit List
namespace Go.Proofs.YtdohnkkbkfhphaaGreat
open Go.Proofs.Tryz
namespace jn
open vl bf
attribute [local go_sem] Oper.semAt_some
theorem UZ(p:pl.Pln)(x:pl.PA)(s:Jn)(y:JX)(v:Ev)(O:Ϝ)(U:Nat)(w:ϛ)(hw:pl.wfPlan p)(hp:pl.planAt w p x)(h:joinAt w s y)(h0:pl.Al p=0)(hg:goodJ p s)(hc:comeJ p s v)(hv:evAt w v O)(cf:v.side=2):
 η 52 #[pl.Ak p x,joinV s y,evV v O U] w λe f=>(∃y' H L,e= .returned (.tuple #[joinV (CB p s v).1 y',H])/\L.map CO.chg=(CB p s v).2/\stepAt w f (CB p s v).1 y' H L)/\Ϟ w f:=by
 have a5:Tryz.prog.follows .mixedOrders=true:=rfl;obtain⟨T,E,al,kb,hs,od,vo,G,mk,BF,sq,B9,n4,kf,HK⟩:∃T E al kb hs od vo G mk BF sq B9 n4 kf,RowK p x s y v O U w T E al kb hs od vo G mk BF sq B9 n4 kf:=⟨_,_,_,_,_,_,_,_,_,_,_,_,_,_,Wu p x s y v O U w hw hp h h0 hg hc hv⟩;obtain⟨KF,KR,KV,KL,KB,KN,KK,bb,a0,KM,bc,KG,bp,KP,ar,cv,cq,bq,cr,du,aj,dm,dq,cs,d7,d8,dh,ba,dt,ay,bd⟩:=HK;clear hw hp h h0 hg hc hv;unfold AF hdV at bb a0;unfold pl.Ak;rw[A0];unfold evV;obtain⟨P,C,z,W⟩:=v;dsimp only at cf;have bs:=hV0 cf;clear cf;dsimp only at dm ba KF KR KV KL KP bp bq cr KG ar cv dh bd bc⊢;obtain⟨n,hn⟩:=nM W.length;have d5:=hV0 hn;rw[hn]at KF KR KV KP;rw[hn];go_enter func52,ntmps52;go_upto_region 1 with fail;generalize hV:(World.alloc (World.alloc (World.alloc (World.alloc w _) _) _) _)=V;have b4:Ϟ w V:=by rw[<-hV];exact((Ϫ.alloc ϡ _).alloc Ϥ _).alloc Ϥ _
 have HP:ϝ (boxP V w p x):=by
  subst hV;exact Ad (Ad (Ad (BL ..) Ϫ) Ϫ) Ϫ
 have HJ:ϝ (AK V (w+1) s y):=by
  subst hV;have:=AL (ξ w (Φ p x) 25) s y 31;rw[World.size_alloc]at this;exact Ah (Ah this Ϫ) Ϫ
 have HE:ϝ (Hv V (w+1+1) ⟨P,C,z,W⟩ O U):=by
  subst hV;refine⟨?_,?_,?_,?_⟩<;>go_simp
 have HZ:ϝ (noJ V (w+1+1+1)/\An V (w+1+1+1) 31):=by
  subst hV;have:=Fg (ξ (ξ (ξ w (Φ p x) 25) (Ψ s y) 31) #[vI P,vI C,vI z,vS O n U] 43);rw[World.size_alloc,World.size_alloc,World.size_alloc]at this;exact⟨this.1,this.2.1⟩
 clear hV;obtain⟨v0,v1,v2,v3,v4,v5,v6,v7,v8,v9,cg,ci,cj⟩:=HP.o;obtain⟨g0,g1,g2,g3⟩:=HE.o;dsimp only at g0 g1 g2 g3;rw[hn]at g3;go_upto_region 2 with(go_at_call 45;refine(KF.o _ b4).mono ?_;rintro e W0 ⟨rfl,an⟩);clear v0 v1 v2 v3 v4 v5 v6 v7 v8 v9 cg ci cj g0 g1 g2 g3 KF;have au:Ϟ w W0:=bT b4 an;have bu:ϝ (∀f,Ϟ W0 f->boxP f w p x/\AK f (w+1) s y/\Hv f (w+1+1) ⟨P,C,z,W⟩ O U/\noJ f (w+1+1+1)/\An f (w+1+1+1) 31):=λf I=>⟨Ad (Ad HP.o an) I,Ah (Ah HJ.o an) I,De (De HE.o an) I,Ay (Ay HZ.o.1 an) I,Ae (Ae HZ.o.2 an) I⟩;have ct:=hV0 hn;clear HP HJ HE HZ an b4 hn;obtain⟨⟨v0,v1,v2,v3,v4,v5,v6,v7,v8,v9,cg,ci,cj⟩,⟨u0,u1,u2,u3,u4,u5,u6,u7,u8⟩,⟨g0,g1,g2,g3⟩,_⟩:=bu.o _ bR;dsimp only at g0 g1 g2 g3;rw[ct.o]at g3
 go_upto_block 0 with fail
 go_cut [11,12,13] (λa b c wc=> ∃H L ma mc,a=H/\b=vS ma n4 mc/\c= .bool al/\CG wc w H L/\L.map CO.chg=T/\Cz wc ma E/\Ϟ W0 wc)
 case first=>
  as_aux_lemma=>
   by_cases k3:p.kind=3
   ·have b1:(p.kind !=3)=false:=by rw[k3];rfl
    have K3:ϝ (p.kind=3):=k3;clear k3;rcases ba.o with rfl|rfl
    ·exact absurd bs.o Ϡ
    ·have cz:=bq.o K3.o rfl;have br:=hV0 cz;have cx:=KV.o K3.o rfl;have dy:ϝ (∀Y,Ϟ w Y->_):=cx;clear cz cx;go_wp2_with (go_at_call 102;refine(dy.o _ au).mono ?_;rintro e Y ⟨⟨H,L,ma,mc,rfl,av,ad,aw⟩,b6⟩);go_meet;exact⟨H,L,ma,mc,rfl,rfl,by rw[br.o],Ds av au.size,ad,aw,b6⟩
   ·have b1:(p.kind !=3)=true:=by simpa using k3
    have br:ϝ (al= !E.isEmpty):=cq.o k3;have dx:ϝ (∀Y,Ϟ w Y->_):=KR.o k3;have q1:((n4:Int)>0)=(0<(n4:Int)):=rfl;have HQ:ϝ (decide ((0:Int)<(n4:Int))=al):=by
     show _=_;rw[br.o,<-ay.o]
     cases E with
     |nil=>rfl
     |cons a l=>rw[decide_eq_true (by rw[length_cons];omega)];rfl
    clear q1 k3;go_wp2_with (go_at_call 98;refine(dx.o _ au).mono ?_;rintro e Y ⟨⟨H,L,ma,mc,rfl,av,ad,aw⟩,b6⟩);go_meet;exact⟨H,L,ma,mc,rfl,rfl,by rw[<-HQ.o];first|rfl|simp,Ds av au.size,ad,aw,b6⟩
 case rest=>
  rename World=>m;obtain⟨H,L,ma,mc,df,rfl,rfl,av,ad,aw,b5⟩:=hcut;have d3:=df.symm;subst d3;clear df;obtain⟨fd,de⟩:=nM (3 - C);have a8:ϝ ((C=1/\fd=2)\/(C=2/\fd=1)):=by
   rcases ba.o with h|h
   ·exact .inl ⟨h,ϟ⟩
   ·exact .inr ⟨h,ϟ⟩
  rw[de]at ar bc bd⊢;clear de dh ba;have F:Ϟ w m:=bT au b5;have ck:=hV0 av;have a9:ϝ (L.map CO.chg=(CB p s ⟨P,C,z,W⟩).2):=ad.trans cv.o.symm;have cp:=hV0 aw;have Z:ϝ (∀f,Ϟ m f->boxP f w p x/\AK f (w+1) s y/\Hv f (w+1+1) ⟨P,C,z,W⟩ O U/\noJ f (w+1+1+1)/\An f (w+1+1+1) 31):=λf I=>bu.o _ (bT b5 I);have aa:ϝ (∀f,Ϟ m f->AK f (w+1) s y):=λf I=>(Z.o f I).2.1;have d4:w.heap.size+1+1+1<m.heap.size:=bf.AX (Z.o _ bR).2.2.2.2;clear av ad aw v0 v1 v2 v3 v4 v5 v6 v7 v8 v9 cg ci cj u0 u1 u2 u3 u4 u5 u6 u7 u8 g0 g1 g2 g3 bu KR KV KL KB KN KK cq bq cr du aj dq b5 au;have d6:m.drew.heap.size=m.heap.size:=rfl;go_upto_region 18 with fail
  go_cut [15] (λa wc=> ∃t q o,a= .pointer (τ t)/\DSt w wc p x s y ⟨P,C,z,W⟩ O U t (upJ s) ⟨q,o⟩/\Ϟ m wc/\m.heap.size<=t)
  case first=>
   refine gr.AQ (S:=λf=>AK f (w+1) s y) 16 rfl a5 (aa.o _ bR.drew) ?_;intro d;refine Ai 0 93 d ?_;refine Ai 3 96 d ?_;refine Ai 6 99 d ?_;refine Ai 8 101 d ?_;refine Ai 10 103 d ?_;refine takeB 12 105 d ?_;refine wpAnyH_ready (rs:=[2,14]) Ϣ ϡ ?_;refine AllReadyH.cons rfl (λK g=>?_) (AllReadyH.cons rfl (λK g=>?_) AllReadyH.nil)
   ·go_simp;go_at_call 93;refine(bb.o _ (F.trans (Below.mono ((Below.refl m.heap.size m).drew) F.size))).mono ?_;rintro e wa ⟨⟨q,rfl,bj⟩,a6⟩;have M:Ϟ m wa:=((Below.refl m.heap.size m).drew).trans (a6.mono ((Below.refl m.heap.size m).drew).size);go_wp2_with fail;refine g.out _ _ (aa.o _ M) (λd=>?_);clear g K
    try simp only[Act.put,sI,sZ,sSz]
    refine wpAnyH_ready (rs:=[5,14]) Ϣ ϡ ?_;refine AllReadyH.cons rfl (λK g=>?_) (AllReadyH.cons rfl (λK g=>?_) AllReadyH.nil)
    ·go_simp;go_at_call 93;refine(a0.o _ (F.trans (Below.mono (M) F.size))).mono ?_;rintro e wb ⟨⟨o,rfl,a7⟩,ap⟩;have D:Ϟ m wb:=(M).trans (ap.mono (M).size);go_wp2_with fail;refine g.out _ _ (aa.o _ D) (λd=>?_);clear g K
     try simp only[Act.put,sI,sZ,sSz]
     refine takeB 13 106 d ?_;refine rD 14 λK g=>?_;go_simp;refine g.out _ _ (aa.o _ ((D).alloc (D).size _)) (λd=>?_);clear g K
     try simp only[Act.put,sI,sZ,sSz]
     have HA:=Fg wb;generalize (World.alloc wb _)=wc at HA d⊢;obtain⟨ab,af,ai⟩:=HA;have N:Ϟ m wc:=(D).trans (ai.mono (D).size);have h1:=M.size;have h2:=D.size;refine rD 15 λK g=>?_;refine Cn rfl 31 (.tmp 15) (.tmp 106) rfl (wb.heap.size) 0 #[vI s.L.lim,vS q.m.1.1 q.m.1.2.1 q.m.1.2.2,vS q.ra q.rs.length q.rc,vI s.R.lim,vS o.m.1.1 o.m.1.2.1 o.m.1.2.2,vS o.ra o.rs.length o.rc,vI s.lm,vI s.rm,vI (s.seq+1)] rfl rfl ab BU Ϩ ?_;refine g.out _ _ (Dk ϟ _ _ _ (aa.o _ N)) (λd=>?_);clear g K;refine wpAnyH_done Ϣ ?_ _;go_wp2;go_meet;exact⟨_,q,o,rfl,Fu (s:=upJ s) (Z.o _ N).1 (Z.o _ N).2.1 (Z.o _ N).2.2.1 (Z.o _ N).2.2.2 ab af (A5 ((bj.below ap).below ai) (by have:=F.size;omega)) (A5 (a7.below ai) (by have:=F.size;omega)) (bT F N) ϟ,below_setCells ϟ _ _ _ N,ϟ⟩
    ·go_simp;refine g.out _ _ (aa.o _ ((M).alloc (M).size _)) (λd=>?_);clear g K
     try simp only[Act.put,sI,sZ,sSz]
     have HA:=Fg wa;generalize (World.alloc wa _)=wb at HA d⊢;obtain⟨ab,af,ai⟩:=HA;have D:Ϟ m wb:=(M).trans (ai.mono (M).size);refine rD 5 λK g=>?_;go_simp;go_at_call 93;refine(a0.o _ (F.trans (Below.mono (D) F.size))).mono ?_;rintro e wc ⟨⟨o,rfl,a7⟩,bg⟩;have N:Ϟ m wc:=(D).trans (bg.mono (D).size);go_wp2_with fail;refine g.out _ _ (aa.o _ N) (λd=>?_);clear g K
     try simp only[Act.put,sI,sZ,sSz]
     refine takeB 13 106 d ?_;have h1:=M.size;have h2:=D.size;replace ab:=Ay ab bg;replace af:=Ae af bg;refine rD 15 λK g=>?_;refine Cn rfl 31 (.tmp 15) (.tmp 106) rfl (wa.heap.size) 0 #[vI s.L.lim,vS q.m.1.1 q.m.1.2.1 q.m.1.2.2,vS q.ra q.rs.length q.rc,vI s.R.lim,vS o.m.1.1 o.m.1.2.1 o.m.1.2.2,vS o.ra o.rs.length o.rc,vI s.lm,vI s.rm,vI (s.seq+1)] rfl rfl ab BU Ϩ ?_;refine g.out _ _ (Dk ϟ _ _ _ (aa.o _ N)) (λd=>?_);clear g K;refine wpAnyH_done Ϣ ?_ _;go_wp2;go_meet;exact⟨_,q,o,rfl,Fu (s:=upJ s) (Z.o _ N).1 (Z.o _ N).2.1 (Z.o _ N).2.2.1 (Z.o _ N).2.2.2 ab af (A5 ((bj.below ai).below bg) (by have:=F.size;omega)) (A5 a7 (by have:=F.size;omega)) (bT F N) ϟ,below_setCells ϟ _ _ _ N,ϟ⟩
   ·go_simp;refine g.out _ _ (aa.o _ (((Below.refl m.heap.size m)).alloc ((Below.refl m.heap.size m)).size _).drew) (λd=>?_);clear g K
    try simp only[Act.put,sI,sZ,sSz]
    have HA:=Mn m;generalize (World.drew (World.alloc m _))=wz at HA d⊢;obtain⟨ab,af,ai⟩:=HA;have bi:Ϟ m wz:=((Below.refl m.heap.size m)).trans (ai.mono ((Below.refl m.heap.size m)).size);refine rD 2 λK g=>?_;go_simp;go_at_call 93;refine(bb.o _ (F.trans (Below.mono (bi) F.size))).mono ?_;rintro e wa ⟨⟨q,rfl,bj⟩,a6⟩;have M:Ϟ m wa:=(bi).trans (a6.mono (bi).size);go_wp2_with fail;refine g.out _ _ (aa.o _ M) (λd=>?_);clear g K
    try simp only[Act.put,sI,sZ,sSz]
    refine rD 5 λK g=>?_;go_simp;go_at_call 93;refine(a0.o _ (F.trans (Below.mono (M) F.size))).mono ?_;rintro e wb ⟨⟨o,rfl,a7⟩,ap⟩;have D:Ϟ m wb:=(M).trans (ap.mono (M).size);go_wp2_with fail;refine g.out _ _ (aa.o _ D) (λd=>?_);clear g K
    try simp only[Act.put,sI,sZ,sSz]
    refine takeB 13 106 d ?_;have h0:=bi.size;have h1:=M.size;have h2:=D.size;replace ab:=Ay (Ay ab a6) ap;replace af:=Ae (Ae af a6) ap;refine rD 15 λK g=>?_;refine Cn rfl 31 (.tmp 15) (.tmp 106) rfl (m.heap.size) 0 #[vI s.L.lim,vS q.m.1.1 q.m.1.2.1 q.m.1.2.2,vS q.ra q.rs.length q.rc,vI s.R.lim,vS o.m.1.1 o.m.1.2.1 o.m.1.2.2,vS o.ra o.rs.length o.rc,vI s.lm,vI s.rm,vI (s.seq+1)] rfl rfl ab BU Ϩ ?_;refine g.out _ _ (Dk ϟ _ _ _ (aa.o _ D)) (λd=>?_);clear g K;refine wpAnyH_done Ϣ ?_ _;go_wp2;go_meet;exact⟨_,q,o,rfl,Fu (s:=upJ s) (Z.o _ D).1 (Z.o _ D).2.1 (Z.o _ D).2.2.1 (Z.o _ D).2.2.2 ab af (A5 (bj.below ap) (by have:=F.size;omega)) (A5 a7 (by have:=F.size;omega)) (bT F D) ϟ,below_setCells ϟ _ _ _ D,ϟ⟩
  case rest=>
   rename World=>W2;obtain⟨t,q,o,rfl,hd,c9,ae⟩:=hcut;have cl:=hV0 hd;clear hd aa bb a0 d4;go_upto_region 20 with fail
   go_loopw [16] (λi wr=> ∃(k:Nat) (A:JX),k<=n4/\i=vI k/\DSt w wr p x s y ⟨P,C,z,W⟩ O U t (Av (upJ s) fd (meetAll BF (E.take k))) A/\Ϟ m wr) (λi _=>n4 - (intOf i).toNat)
   case atStart=>
    refine⟨0,⟨q,o⟩,Nat.zero_le _,rfl,?_,c9⟩;have e:Av (upJ s) fd (meetAll BF (E.take 0))=upJ s:=by
     rw[take_zero,<-bd];rcases a8.o with⟨_,rfl⟩|⟨_,rfl⟩<;>rfl
    rw[e];exact cl.o
   case round=>
    obtain⟨k,A,d2,rfl,ao,cb⟩:=hrel;clear cl c9;by_cases ad:k<n4
    ·obtain⟨lb,lo,d9,ea,el,x0,q,o,x3,x4,x5⟩:=cp.o k (by rw[ay.o];exact ad);subst el;have dg:E.take (k+1)=E.take k++[E.getD k default]:=by
      rw[take_add_one,gDe,gEe (by rw[ay.o];exact ad)];rfl
     have bh:meetAll BF (E.take (k+1))=D9 (Az (E.getD k default)) (meetAll BF (E.take k)):=by rw[dg,Ka]
     obtain⟨yl,dj⟩:=nM (E.getD k default);rw[dj]at x0 q o x3 x4 bh;obtain⟨ek,et,es,er,em⟩:=yl;dsimp only at x0 q o;obtain⟨Bk,bz⟩:=nM (meetAll BF (E.take k));have ds:ϝ (okB Bk):=by rw[<-bz];exact cs.o k
     rw[bz]at bh ao;obtain⟨Bn,b0⟩:=nM (D9 (Az ⟨ek,et,es,er,em⟩) Bk);have dl:=hV0 b0;have dr:ϝ (meetAll BF (E.take (k+1))=Bn):=bh.trans b0;have HD:=hV0 ao;have bv:ϝ (∀f,Ϟ m f->ϑ f lb (lo+k * 5) (.string ek) (vI et) (vI es)):=λf I=>⟨cLz I x0,cLz I q,cLz I o⟩;have i1:(0:Int)<=(k:Int):=ϟ;have i2:(k:Int)<(n4:Int):=ϟ;clear x0 q o x3 x4 x5 dj bz b0 bh dg ao;rcases a8.o with⟨rfl,rfl⟩|⟨rfl,rfl⟩
     ·exact absurd bs.o Ϡ
     ·as_aux_lemma=>
       have c0:Δ wr t 0 (vI Bk.lim):=HD.o.box.1;have c1:Δ wr t 1 (vS A.l.m.1.1 A.l.m.1.2.1 A.l.m.1.2.2):=HD.o.box.2.1;have c2:Δ wr t 2 (vS A.l.ra A.l.rs.length A.l.rc):=HD.o.box.2.2.1;have dw:ϝ (∀Y,Ϟ wr Y->CT 103 #[.agg (Ω Bk A.l),.string ek,vI et,vI es] Y λr f=>(∃X,r= .returned (.agg (Ω Bn X))/\OB f Y X Bn)/\Ϟ Y f):=λY hb=>by
        have:=KM.o Bk A.l ⟨ek,et,es,er,em⟩ Y (Ag HD.o.l.at hb) ds.o;rw[dl.o]at this;exact this
       go_upto_region 23 with fail;refine gr.AQ (S:=λf=>ϑ f lb (lo+k * 5) (.string ek) (vI et) (vI es)) 20 rfl a5 (bv.o _ cb.drew) ?_;intro d;refine takeB 0 115 d ?_;refine takeB 2 117 d ?_;refine Ai 3 118 d ?_;refine Ai 5 120 d ?_;refine Ai 7 122 d ?_;refine Ai 9 124 d ?_;refine Ai 11 126 d ?_;refine Ai 13 128 d ?_;refine Ai 15 130 d ?_;refine rD 1 λK g=>?_;go_simp;refine g.out _ _ d (λd=>?_);clear g K
       try simp only[Act.put,sI,sZ,sSz]
       refine rD 17 λK g=>?_;go_simp;go_at_call 103;refine(dw.o _ bR.drew).mono ?_;rintro e wm ⟨⟨X,rfl,bk⟩,d1⟩;have a4:Ϟ wr wm:=bR.drew.trans d1;have b8:Ϟ m wm:=bT cb a4;go_wp2_with fail;refine g.out _ _ (bv.o _ b8) (λd=>?_);clear g K
       try simp only[Act.put,sI,sZ,sSz]
       refine takeB 18 133 d ?_;have cm:=HD.o.below a4;have ah:=cm.buf 1 (B:=Bn) (X:=X) (A5 bk (Nat.le_trans HD.o.bl.size nR)) 0 rfl;have cd:∀j,j<9->Ξ wm t j:=λj hj=>by
        have:=(cm.room j hj).2;simpa using this
       have f0:=cd 0 ϟ;have f1:=cd 1 ϟ;have f2:=cd 2 ϟ;have e0:=cLz a4 c0;have e1:=cLz a4 c1;have e2:=cLz a4 c2;unfold hdV at ah;refine rD 19 λK g=>?_;go_simp;refine g.out _ _ (bv.o _ (((b8.setCell ae _).setCell ae _).setCell ae _)) (λd=>?_);clear g K;refine wpAnyH_done Ϣ ?_ _;clear f0 f1 f2 e0 e1 e2 c0 c1 c2;go_wp2;go_roundw
       case rel=>exact⟨k+1,_,ϟ,by go_num,by rw[dr.o];exact PN ah,((b8.setCell ae _).setCell ae _).setCell ae _⟩
       case measure=>simp[intOf];omega
    ·have hk:k=n4:=ϟ;subst hk;have e:E.take k=E:=by rw[<-ay.o,take_length]
     rw[e]at ao;obtain⟨SF,b3⟩:=nM (Av (upJ s) fd (meetAll BF E));obtain⟨BO,bx⟩:=nM (bufOf s C);rw[b3]at ar ao;rw[bx]at KP;have cu:ϝ ((C=1->SF.L=BO)/\(C=2->SF.R=BO)):=by
      rw[<-b3,<-bx];rcases a8.o with⟨rfl,rfl⟩|⟨rfl,rfl⟩
      ·exact⟨λh=>rfl,λh=>absurd h Ϡ⟩
      ·exact⟨λh=>absurd h Ϡ,λh=>rfl⟩
     obtain⟨Q,hQ⟩:=nM (!(hs&&decide (G<z)));have HQ:=hV0 hQ;have dp:ϝ (Q=true->(CB p s ⟨P,C,z,W⟩).1=SF):=λh=>by
      rw[ar.o];refine if_neg (λhh=>?_);rw[<-hQ,hh.1,decide_eq_true hh.2]at h
      cases h
     have cn:ϝ (Q=false->(CB p s ⟨P,C,z,W⟩).1=Av SF C B9):=λh=>by
      rw[ar.o];refine if_pos ?_;rw[<-hQ]at h;simp only[Bool.not_eq_false',Bool.and_eq_true,decide_eq_true_eq]at h;exact h
     have bn:=hV0 ao;clear ao e b3 bx hQ cp ay ar cs KM ad d2 bd;obtain⟨u0,u1,u2,u3,u4,u5,u6,u7,u8⟩:=bn.o.old;go_upto_region 26 with(go_at_call 92;refine(bc.o _).mono ?_;rintro e w3 ⟨⟨bl,a1,a2,n1,c1,n2,c2,rfl⟩,da⟩);generalize hX:(World.alloc w3 _)=W4;have db:Ϟ w3 W4:=by rw[<-hX];exact Ϫ
     clear hX u0 u1 u2 u3 u4 u5 u6 u7 u8 bc;have ca:Ϟ wr W4:=bT da db;have ax:ϝ (DSt w W4 p x s y ⟨P,C,z,W⟩ O U t SF A):=bn.o.below ca;have cy:Ϟ m W4:=bT cb ca;have a3:ϝ (∀f,Ϟ W4 f->(Δ f (w+1+1) 1 (vI C)/\Δ f (w+1+1) 2 (vI z))/\boxP f w p x):=λf I=>⟨⟨cLz I ax.o.ev.2.1,cLz I ax.o.ev.2.2.1⟩,Ad ax.o.plan I⟩
     go_cut [174] (λc wc=>c= .bool Q/\Ϟ W4 wc)
     case first=>
      as_aux_lemma=>
       cases hs with
       |false=>
        have az:ϝ (Q=true):=by rw[<-HQ.o];rfl
        refine gr.AQ (S:=λf=>(Δ f (w+1+1) 1 (vI C)/\Δ f (w+1+1) 2 (vI z))/\boxP f w p x) 16 rfl a5 (a3.o _ bR.drew) ?_;intro d;refine Ai 0 159 d ?_;refine takeB 2 161 d ?_;refine sk 3 162 d ?_;refine sk 4 163 d ?_;refine sk 5 164 d ?_;refine sk 6 165 d ?_;refine sk 7 166 d ?_;refine sk 8 167 d ?_;refine sk 9 168 d ?_;refine sk 10 169 d ?_;refine sk 11 170 d ?_;refine sk 12 171 d ?_;refine sk 13 172 d ?_;refine sk 14 173 d ?_;refine takeB 15 174 d ?_;refine wpAnyH_done Ϣ ?_ _;go_wp2;go_meet;exact⟨by rw[az.o],bR.drew⟩
       |true=>
        by_cases m1:mk=noMark
        ·have hm:(mk != -1099511627777)=false:=by rw[m1];rfl
         have az:ϝ (Q=false):=by rw[<-HQ.o,decide_eq_true (bp.o m1)];rfl
         clear m1;refine gr.AQ (S:=λf=>(Δ f (w+1+1) 1 (vI C)/\Δ f (w+1+1) 2 (vI z))/\boxP f w p x) 16 rfl a5 (a3.o _ bR.drew) ?_;intro d;refine Ai 0 159 d ?_;refine Ai 2 161 d ?_;refine Ai 4 163 d ?_;refine sk 6 165 d ?_;refine sk 7 166 d ?_;refine sk 8 167 d ?_;refine sk 9 168 d ?_;refine sk 10 169 d ?_;refine sk 11 170 d ?_;refine sk 12 171 d ?_;refine sk 13 172 d ?_;refine Ai 14 173 d ?_;refine wpAnyH_done Ϣ ?_ _;go_wp2;go_meet;exact⟨by rw[az.o],bR.drew⟩
        ·have hm:(mk != -1099511627777)=true:=by rw[bne_iff_ne];exact m1
         have dv:ϝ (∀Y,CT 96 #[pl.Ak p x,vI C,vI mk] Y (θ Y (vI G))):=KG.o m1;have az:ϝ (decide (z<=G)=Q):=by
          show _=_;rw[<-HQ.o,Bool.true_and];by_cases hh:z<=G
          ·rw[decide_eq_true hh,decide_eq_false (show¬G<z by omega)];rfl
          ·rw[decide_eq_false hh,decide_eq_true (show G<z by omega)];rfl
         clear m1;refine gr.AQ (S:=λf=>(Δ f (w+1+1) 1 (vI C)/\Δ f (w+1+1) 2 (vI z))/\boxP f w p x) 16 rfl a5 (a3.o _ bR.drew) ?_;intro d;refine Ai 0 159 d ?_;refine Ai 2 161 d ?_;refine Ai 4 163 d ?_;refine Ai 6 165 d ?_;refine Ai 8 167 d ?_;refine Ai 10 169 d ?_;refine rD 12 λK g=>?_;go_simp;go_at_call 96;refine(dv.o _).mono ?_;rintro e wg ⟨rfl,d0⟩;have dc:Ϟ W4 wg:=bR.drew.trans d0;go_wp2_with fail;refine g.out _ _ (a3.o _ dc) (λd=>?_);clear g K
         try simp only[Act.put,sI,sZ,sSz]
         refine Ai 13 172 d ?_;refine takeB 15 174 d ?_;refine wpAnyH_done Ϣ ?_ _;go_wp2;go_meet;exact⟨by rw[<-az.o],dc⟩
     case rest=>
      rename World=>W5;obtain⟨rfl,b7⟩:=hcut;have ac:ϝ (DSt w W5 p x s y ⟨P,C,z,W⟩ O U t SF A):=ax.o.below b7;have bw:Ϟ m W5:=bT cy b7;clear a3 ax bn KG bp HQ cy ca db da b7
      cases Q with
      |true=>
       have bo:ϝ ((CB p s ⟨P,C,z,W⟩).1=SF):=dp.o rfl;have bm:ϝ (CG W5 w H L):=ck.o.below bw;obtain⟨c0,c1,c2,c3,c4,c5,c6,c7,c8⟩:=ac.o.box;have aj:ϝ (noJ _ (w+1+1+1)):=ac.o.res;go_wp2_with ((with_reducible refine wpList_store_mid ?_ 31 (.tmp 6) (.tmp 175) ?_ (w.heap.size+1+1+1) 0 (Ψ SF A) ?_ ?_ ?_ ?_ ?_ ?_);exact rfl;exact rfl;exact rfl;exact rfl;exact aj.o;exact BU;exact Ϩ);clear c0 c1 c2 c3 c4 c5 c6 c7 c8;have HR:=It (R:=w.heap.size+1+1+1) ϟ aj.o ac.o.rty ⟨ac.o.l,ac.o.r,bm.o⟩ ac.o.bl;generalize (World.setCells _ (w.heap.size+1+1+1) 0 _)=W9 at HR⊢;obtain⟨⟨r0,r1,r2,r3,r4,r5,r6,r7,r8⟩,ak⟩:=HR;refine bodyPost_ret (v:=.tuple #[joinV SF A,H]) (by simp[results,results52,go_sem,A0,r0,r1,r2,r3,r4,r5,r6,r7,r8]) rfl ⟨?_,ak.2⟩;rw[bo.o]
       first|exact⟨A,H,L,rfl,a9.o,ak.1⟩|exact⟨A,H,rfl,L,a9.o,ak.1⟩
      |false=>
       have u8:=ac.o.old.2.2.2.2.2.2.2.2;rw[dt.o]at u8;obtain⟨g0,g1,g2,g3⟩:=ac.o.ev;dsimp only at g0 g1 g2 g3;rw[ct.o]at g3;go_upto_region 29 with fail;generalize hX:(World.alloc W5 _)=J;have be:Ϟ W5 J:=by rw[<-hX];exact Ϫ
       obtain⟨EB,am⟩:=nM W5.heap.size;have m0:Δ J EB 0 (.string kb):=by subst hX;rw[<-am];go_simp
       have m1:Δ J EB 1 (vI z):=by subst hX;rw[<-am];go_simp
       have m2:Δ J EB 2 (vI sq):=by subst hX;rw[<-am];go_simp
       have m3:Δ J EB 3 (vS O n U):=by subst hX;rw[<-am];go_simp
       have m4:Δ J EB 4 (.bool al):=by subst hX;rw[<-am];go_simp
       rw[am];have ag:ϝ (DSt w J p x s y ⟨P,C,z,W⟩ O U t SF A):=ac.o.below be;have dz:Ϟ m J:=bT bw be;replace g1:=cLz be g1;clear hX am be bw ac g0 g2 g3 u8;rcases a8.o with⟨rfl,rfl⟩|⟨rfl,rfl⟩
       ·exact absurd bs.o Ϡ
       ·skip;have c0:Δ J t 3 (vI BO.lim):=by rw[<-cu.o.2 rfl];exact ag.o.box.2.2.2.1
        have c1:Δ J t 4 (vS A.r.m.1.1 A.r.m.1.2.1 A.r.m.1.2.2):=ag.o.box.2.2.2.2.1;have c2:Δ J t 5 (vS A.r.ra A.r.rs.length A.r.rc):=ag.o.box.2.2.2.2.2.1;have co:ϝ (∀f,Ϟ J f->(Ξ f t 3/\Ξ f t 4/\Ξ f t 5)/\(∃u,Δ f t 3 u)/\(∃u,Δ f t 4 u)/\∃u,Δ f t 5 u):=λf hb=>by
         have h:=ag.o.below hb;have hf:∀j,j<9->Ξ f t j:=λj hj=>by
          have:=(h.room j hj).2;simpa using this
         exact⟨⟨hf 3 ϟ,hf 4 ϟ,hf 5 ϟ⟩,⟨_,h.box.2.2.2.1⟩,⟨_,h.box.2.2.2.2.1⟩,⟨_,h.box.2.2.2.2.2.1⟩⟩
        have cw:ϝ (CT 104 #[.agg (Ω BO A.r),.agg (ζ kb z sq O n U al)] J λr f=>(∃X,r= .returned (.agg (Ω B9 X))/\OB f J X B9)/\Ϟ J f):=KP.o A.r J (by rw[<-cu.o.2 rfl];exact ag.o.r.at) ag.o.bl;go_upto_region 32 with(go_at_call 104;refine cw.o.mono ?_;rintro e wp ⟨⟨X,rfl,bk⟩,b9⟩;obtain⟨⟨f3,f4,f5⟩,⟨z3,e3⟩,⟨z4,e4⟩,⟨z5,e5⟩⟩:=co.o _ b9);have ah:=(ag.o.below b9).buf 2 (B:=B9) (X:=X) (A5 bk ag.o.bl.size) 3 rfl;unfold hdV at ah;clear f3 f4 f5 e3 e4 e5 c0 c1 c2 m0 m1 m2 m3 m4 co cw bk;have dd:Ϟ m wp:=bT dz b9;obtain⟨S4,b2⟩:=nM (Av SF 2 B9);obtain⟨y4,di⟩:=nM (GB A 2 X);rw[b2,di]at ah;have bo:ϝ ((CB p s ⟨P,2,z,W⟩).1=S4):=by rw[<-b2];first|exact cn.o rfl|exact cn.o trivial
        clear b2 di;have cc:Ϟ m (World.setCell (World.setCell (World.setCell wp ⟨t,3,none⟩ (vI B9.lim)) ⟨t,4,none⟩ (vS X.m.1.1 X.m.1.2.1 X.m.1.2.2)) ⟨t,5,none⟩ (vS X.ra X.rs.length X.rc)):=((dd.setCell ae _).setCell ae _).setCell ae _;generalize (World.setCell (World.setCell (World.setCell wp _ _) _ _) _ _)=W7 at cc ah⊢;have aq:ϝ (DSt w W7 p x s y ⟨P,2,z,W⟩ O U t S4 y4):=ah;have bm:ϝ (CG W7 w H L):=ck.o.below cc;clear ah cc dd;obtain⟨c0,c1,c2,c3,c4,c5,c6,c7,c8⟩:=aq.o.box;have aj:ϝ (noJ _ (w+1+1+1)):=aq.o.res;go_wp2_with ((with_reducible refine wpList_store_mid ?_ 31 (.tmp 6) (.tmp 199) ?_ (w.heap.size+1+1+1) 0 (Ψ S4 y4) ?_ ?_ ?_ ?_ ?_ ?_);exact rfl;exact rfl;exact rfl;exact rfl;exact aj.o;exact BU;exact Ϩ);clear c0 c1 c2 c3 c4 c5 c6 c7 c8;have HR:=It (R:=w.heap.size+1+1+1) ϟ aj.o aq.o.rty ⟨aq.o.l,aq.o.r,bm.o⟩ aq.o.bl;generalize (World.setCells _ (w.heap.size+1+1+1) 0 _)=W9 at HR⊢;obtain⟨⟨r0,r1,r2,r3,r4,r5,r6,r7,r8⟩,ak⟩:=HR;refine bodyPost_ret (v:=.tuple #[joinV S4 y4,H]) (by simp[results,results52,go_sem,A0,r0,r1,r2,r3,r4,r5,r6,r7,r8]) rfl ⟨?_,ak.2⟩;rw[bo.o]
        first|exact⟨y4,H,L,rfl,a9.o,ak.1⟩|exact⟨y4,H,rfl,L,a9.o,ak.1⟩
end jn
end Go.Proofs.YtdohnkkbkfhphaaGreat
