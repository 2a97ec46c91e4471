import Derived.Test.YtdohnkkbkfhphaaGreatPw46
set_option linter.all false
set_option maxHeartbeats 16000000
set_option maxRecDepth 100000
open Go.ChangeShapes Go.WideShapes Go.ChangeAt Go.RowKit List
namespace Go.Proofs.YtdohnkkbkfhphaaGreat
open Go.Proofs.Tryz
namespace jn
open vl bf
attribute [local go_sem] Oper.semAt_some
theorem TC(p:pl.Pln)(x:pl.PA)(s:Jn)(y:JX)(v:Ev)(I:Ϝ)(M:Nat)(w:ϛ)(hw:pl.wfPlan p)(hp:pl.planAt w p x)(h:joinAt w s y)(h0:pl.Al p=0)(hg:goodJ p s)(hc:comeJ p s v)(hv:evAt w v I)(dx:v.side=1):
 η 52 #[pl.Ak p x,joinV s y,evV v I M] w λe f=>(∃y' ov L,e= .returned (.tuple #[joinV (CB p s v).1 y',ov])/\L.map CO.chg=(CB p s v).2/\stepAt w f (CB p s v).1 y' ov L)/\Ϟ w f:=by
 have ba:Tryz.prog.follows .mixedOrders=true:=rfl;obtain⟨T,P,af,kb,hs,od,vo,G,mk,BF,sq,B9,n4,kf,HK⟩:∃T P af kb hs od vo G mk BF sq B9 n4 kf,RowK p x s y v I M w T P af kb hs od vo G mk BF sq B9 n4 kf:=⟨_,_,_,_,_,_,_,_,_,_,_,_,_,_,Wu p x s y v I M w hw hp h h0 hg hc hv⟩;obtain⟨KF,KR,KV,KL,KB,KN,KK,b3,bk,KM,b4,KG,cn,KP,a5,d8,d4,d5,cp,bj,ao,cl,d3,d6,f8,f9,ez,b0,fe,a6,b5⟩:=HK;clear hw hp h h0 hg hc hv;unfold AF hdV at b3 bk;unfold pl.Ak;rw[A0];unfold evV;obtain⟨kd,E,C,N⟩:=v;dsimp only at dx;have cr:=hV0 dx;clear dx;dsimp only at cl b0 KF KR KV KL KP cn d5 cp KG a5 d8 ez b5 b4⊢;obtain⟨n,hn⟩:=nM N.length;have fz:=hV0 hn;rw[hn]at KF KR KV KP;rw[hn];go_enter func52,ntmps52;go_upto_region 1 with fail;generalize hV:(World.alloc (World.alloc (World.alloc (World.alloc w _) _) _) _)=V;have dg:Ϟ w V:=by rw[<-hV];exact((Ϫ.alloc ϡ _).alloc Ϥ _).alloc Ϥ _
 have HP:ϝ (boxP V w p x):=by
  subst hV;exact Ad (Ad (Ad (BL ..) Ϫ) Ϫ) Ϫ
 have HJ:ϝ (AK V (w+1) s y):=by
  subst hV;have:=AL (ξ w (Φ p x) 25) s y 31;rw[World.size_alloc]at this;exact Ah (Ah this Ϫ) Ϫ
 have HE:ϝ (Hv V (w+1+1) ⟨kd,E,C,N⟩ I M):=by
  subst hV;refine⟨?_,?_,?_,?_⟩<;>go_simp
 have HZ:ϝ (noJ V (w+1+1+1)/\An V (w+1+1+1) 31):=by
  subst hV;have:=Fg (ξ (ξ (ξ w (Φ p x) 25) (Ψ s y) 31) #[vI kd,vI E,vI C,vS I n M] 43);rw[World.size_alloc,World.size_alloc,World.size_alloc]at this;exact⟨this.1,this.2.1⟩
 clear hV;obtain⟨v0,v1,v2,v3,v4,v5,v6,v7,v8,v9,bb,bc,bd⟩:=HP.o;obtain⟨g0,g1,g2,Y⟩:=HE.o;dsimp only at g0 g1 g2 Y;rw[hn]at Y;go_upto_region 2 with(go_at_call 45;refine(KF.o _ dg).mono ?_;rintro e W0 ⟨rfl,ax⟩);clear v0 v1 v2 v3 v4 v5 v6 v7 v8 v9 bb bc bd g0 g1 g2 Y KF;have ar:Ϟ w W0:=bT dg ax;have bm:ϝ (∀f,Ϟ W0 f->boxP f w p x/\AK f (w+1) s y/\Hv f (w+1+1) ⟨kd,E,C,N⟩ I M/\noJ f (w+1+1+1)/\An f (w+1+1+1) 31):=λf H=>⟨Ad (Ad HP.o ax) H,Ah (Ah HJ.o ax) H,De (De HE.o ax) H,Ay (Ay HZ.o.1 ax) H,Ae (Ae HZ.o.2 ax) H⟩;have a7:=hV0 hn;clear HP HJ HE HZ ax dg hn;obtain⟨⟨v0,v1,v2,v3,v4,v5,v6,v7,v8,v9,bb,bc,bd⟩,⟨u0,u1,u2,u3,u4,u5,u6,u7,u8⟩,⟨g0,g1,g2,Y⟩,_⟩:=bm.o _ bR;dsimp only at g0 g1 g2 Y;rw[a7.o]at Y
 go_upto_block 0 with fail
 go_cut [11,12,13] (λa b c wc=> ∃ov L ma mc,a=ov/\b=vS ma n4 mc/\c= .bool af/\CG wc w ov L/\L.map CO.chg=T/\Cz wc ma P/\Ϟ W0 wc)
 case first=>
  as_aux_lemma=>
   by_cases k3:p.kind=3
   ·have b1:(p.kind !=3)=false:=by rw[k3];rfl
    have K3:ϝ (p.kind=3):=k3;clear k3;rcases b0.o with rfl|rfl
    ·obtain⟨db,ed,ee⟩:=cp.o K3.o rfl;have fq:n4=0:=by rw[<-a6.o,db];rfl
     subst fq;have co:=hV0 db;have bh:=hV0 ed;have ct:=hV0 ee;have d9:ϝ (∀O,CT 101 #[pl.Ak p x] O (θ O (.bool kf))):=KK.o K3.o;clear db ed ee
     go_upto_if 61 with fail
     have HA:=Uz W0;generalize (World.alloc W0 _)=WA at HA⊢;obtain⟨⟨z0,z1,z2,z3,z4⟩,az,ah,F⟩:=HA;have a0:W0.heap.size<WA.heap.size:=bLt _ _ z0;obtain⟨MB,dc⟩:=nM W0.heap.size;have bq:W0.heap.size<=MB:=ϟ;rw[show(⟨W0,0,none⟩:Addr)=⟨MB,0,none⟩ by rw[dc]];rw[dc]at z0 z1 z2 z3 z4 az ah a0;clear dc
     go_cut [13] (λc wc=> ∃e1 e2 e3,c= .bool af/\(af=true->Δ wc MB 3 (vS e1 e2 e3)/\∃z,vo=some z/\vl.rowAt wc e1 z.row/\e2=z.row.length/\0<e2/\e2<=400)/\Ϟ W0 wc)
     case first=>
      cases hs with
      |false=>
       have b2:ϝ (vo=none):=by rw[bj.o];exact if_neg Ϡ
       go_wp2;go_meet;have:af=false:=by rw[bh.o,b2.o];rfl
       exact⟨none,0,0,by rw[this],λh=>absurd (h.symm.trans this) Ϡ,F⟩
      |true=>
       rw[if_pos rfl]at bj;obtain⟨f0,f1,f2,f3,f4⟩:Ξ WA MB 0/\Ξ WA MB 1/\Ξ WA MB 2/\Ξ WA MB 3/\Ξ WA MB 4:=⟨az 0 ϟ,az 1 ϟ,az 2 ϟ,az 3 ϟ,az 4 ϟ⟩;have fw:Ϟ w WA:=bT ar F;have bg:=hV0 F;replace u0:=cLz F u0;replace u1:=cLz F u1;replace u2:=cLz F u2;replace u3:=cLz F u3;replace u4:=cLz F u4;replace u5:=cLz F u5;replace u6:=cLz F u6;replace u7:=cLz F u7;replace u8:=cLz F u8;replace g2:=cLz F g2;go_wp2_with (go_at_call 99;refine(KL.o _ fw).mono ?_;rintro e w2 ⟨⟨⟨ek,et,eq,⟨e1,e2,e3⟩,fj⟩,rfl,ds⟩,ai⟩;unfold EM.val hdV;dsimp only at ds⊢;have e9:ϝ (∀z,od=some z->ER w2 ⟨ek,et,eq,(e1,e2,e3),fj⟩ z/\∀g,(hdV (e1,e2,e3)).ownBlock=some g->An w2 g 103):=ds;clear ds;have q0:=cLz ai z0;have q1:=cLz ai z1;have q2:=cLz ai z2;have q3:=cLz ai z3;have q4:=cLz ai z4;have p0:=(ai.frozen (p:=⟨MB,0,none⟩) a0).trans f0;have p1:=(ai.frozen (p:=⟨MB,1,none⟩) a0).trans f1;have p2:=(ai.frozen (p:=⟨MB,2,none⟩) a0).trans f2;have p3:=(ai.frozen (p:=⟨MB,3,none⟩) a0).trans f3;have p4:=(ai.frozen (p:=⟨MB,4,none⟩) a0).trans f4);go_meet;have fv:Ϟ W0 w2:=bg.o.trans (ai.mono bg.o.size);have eu:af=od.isSome:=by rw[bh.o,bj.o]
       refine⟨e1,e2,e3,by rw[eu],λho=>?_,((((fv.setCell bq _).setCell bq _).setCell bq _).setCell bq _).setCell bq _⟩;refine⟨(FE q0 q1 q2 q3 q4 _ _ _ _ _).2.2.2.1,?_⟩
       cases hodc:od with
       |none=>rw[eu,hodc]at ho;cases ho
       |some z=>
        obtain⟨h1,h2⟩:=e9.o z hodc;have h3:=ao.o z hodc;have h4:=h1.len;dsimp only at h4;exact⟨z,bj.o.trans hodc,NC q0 q1 q2 q3 q4 h1.row _ _ _ _ _,h4,ϟ,ϟ⟩
     case rest=>
      rename World=>W2;obtain⟨e1,e2,e3,rfl,ew,a8⟩:=hcut;have cq:=hV0 ew;clear ew z0 z1 z2 z3 z4 az ah a0 F v0 v1 v2 v3 v4 v5 v6 v7 v8 v9 bb bc bd u0 u1 u2 u3 u4 u5 u6 u7 u8 g0 g1 g2 Y;have cx:Ϟ w W2:=bT ar a8;obtain⟨⟨v0,v1,v2,v3,v4,v5,v6,v7,v8,v9,bb,bc,bd⟩,_,⟨g0,g1,g2,Y⟩,_⟩:=bm.o _ a8;dsimp only at g0 g1 g2 Y;rw[a7.o]at Y
      cases af with
      |true=>
       obtain⟨f7,z,H,ex,ep,fx,fy⟩:=cq.o rfl;obtain⟨AR,au⟩:∃z',N++z.row=z':=⟨_,rfl⟩;obtain⟨an,br⟩:∃z',AR.length=z':=⟨_,rfl⟩;have cu:ϝ (CT 100 #[vS I n M,vS e1 e2 e3] W2 λe f=>(∃ad bp,e= .returned (vS ad an bp)/\A4 f W2 (vS ad an bp) AR)/\Ϟ W2 f):=by
        have h1:=cl.o;have:=KB.o I e1 M e3 N z.row W2 ϟ h1.2.2 ϟ (vl.Ac h1.1 cx) ex;rw[au,br,a7.o,<-ep]at this;exact this
       have cs:ϝ (T=[⟨1,AR⟩]):=by rw[ct.o,H,<-au];rfl
       clear H ex ep fx fy au br cq;go_wp2_with (first|(go_at_call 100;refine cu.o.mono ?_;rintro e w8 ⟨⟨aa,ac,rfl,dv⟩,a9⟩)|(at_builtin;refine Gl rfl (.tmp 71) (.tmp 78) rfl W2.heap.size (vS none 0 0) [] 1 aa an ac w8 0 rfl (World.ownsRow_nil _ _ _ _) ϟ a9.size rfl rfl ?_;intro g9 c9 w9 dw bu df fp));go_meet;have cj:=CG.add (CG.start (Nat.le_refl W2.heap.size)) (k:=1) a9 dv (rv:=vS aa an ac) (row:=AR) (v':=vS (τ g9) (0+1) c9) bu dw (λg' du=>by cases du;rcases df with h|h;exact absurd h (by simp[Value.ownBlock]);exact .inr (by show _<=g9;omega));exact⟨_,_,none,0,rfl,rfl,rfl,Ds cj cx.size,by rw[cs.o];rfl,by rw[co.o];exact λi hi=>absurd hi (Nat.not_lt_zero i),a8.trans ((a9.trans ((Lc bu).mono a9.size)).mono a8.size)⟩
      |false=>
       have b2:ϝ (vo=none):=by
        have:=bh.o
        cases vo with
        |none=>rfl
        |some z=>cases this
       clear cq
       cases kf with
       |false=>
        go_wp2_with (go_at_call 101;refine(d9.o _).mono ?_;rintro e w6 ⟨rfl,b7⟩);go_meet;exact⟨_,[],none,0,rfl,rfl,rfl,CG.start (bT cx b7).size,by rw[ct.o,b2.o];rfl,by rw[co.o];exact λi hi=>absurd hi (Nat.not_lt_zero i),bT a8 b7⟩
       |true=>
        obtain⟨AR,au⟩:∃z',N++bt.AE p.right.length=z':=⟨_,rfl⟩;obtain⟨an,br⟩:∃z',AR.length=z':=⟨_,rfl⟩;have cs:ϝ (T=[⟨1,AR⟩]):=by rw[ct.o,b2.o,<-au];rfl
        go_upto_region 17 with(go_at_call 101;refine(d9.o _).mono ?_;rintro e w6 ⟨rfl,b7⟩);have di:Ϟ W0 w6:=bT a8 b7;have ec:Ϟ w w6:=bT ar di;have cu:ϝ (∀(O w2:ϛ),Ϟ w6 w2->vl.rowAt w2 (τ O) (bt.AE p.right.length)->CT 100 #[vS I n M,vS (τ O) p.right.length p.right.length] w2 λe f=>(∃ad bp,e= .returned (vS ad an bp)/\A4 f w2 (vS ad an bp) AR)/\Ϟ w2 f):=λO w2 hb hn=>by
         have h1:=d3.o;have h2:=cl.o;have:=KB.o I (τ O) M p.right.length N (bt.AE p.right.length) w2 (by rw[h1.1];exact h1.2.1) h2.2.2 (by rw[h1.1];exact h1.2.2) (vl.Ac h2.1 (bT ec hb)) hn;rw[au,br,a7.o,h1.1]at this;exact this
        have bo:ϝ (∀f,Ϟ w6 f->Δ f (w+1+1) 3 (vS I n M)/\boxP f w p x):=λf H=>by
         obtain⟨hP,_,hE,_⟩:=bm.o _ (bT di H);have:=hE.2.2.2;dsimp only at this;rw[a7.o]at this;exact⟨this,hP⟩
        clear au br v0 v1 v2 v3 v4 v5 v6 v7 v8 v9 bb bc bd g0 g1 g2 Y;refine gr.AQ (S:=λf=>Δ f (w+1+1) 3 (vS I n M)/\boxP f w p x) 12 rfl ba (bo.o _ bR.drew) ?_;intro d;refine Ai 0 82 d ?_;refine Ai 2 84 d ?_;refine Ai 4 86 d ?_;refine rD 6 λK m=>?_;go_simp;go_at_call 23;refine(KN.o _).mono ?_;rintro e w7 ⟨⟨rfl,fs⟩,fl⟩;have b8:Ϟ w6 w7:=bR.drew.trans fl;go_wp2_with fail;refine m.out _ _ (bo.o _ b8) (λd=>?_);clear m K
        try simp only[Act.put,sI,sZ,sSz]
        refine rD 7 λK m=>?_;go_simp;go_at_call 100;refine(cu.o _ _ b8 fs).mono ?_;rintro e w8 ⟨⟨aa,ac,rfl,dv⟩,a9⟩;have aw:Ϟ w6 w8:=bT b8 a9;go_wp2_with fail;refine m.out _ _ (bo.o _ aw) (λd=>?_);clear m K
        try simp only[Act.put,sI,sZ,sSz]
        refine takeB 8 90 d ?_;refine rD 9 λK m=>?_;go_simp;refine m.out _ _ (bo.o _ (aw.alloc aw.size _)) (λd=>?_);clear m K
        try simp only[Act.put,sI,sZ,sSz]
        refine rD 10 λK m=>?_;refine Pk (by rfl) (.tmp 82) (.tmp 91) (by rfl) w6.heap.size (vS none 0 0) [] 1 aa an ac w8 0 rfl (World.ownsRow_nil _ _ _ _) ϟ aw.size (by simp[Act.eval,Act.put]) (by simp[Act.eval,Act.put]) ?_;intro g9 c9 w9 dw bu df fp;have cj:=CG.add (CG.start (Nat.le_refl w6.heap.size)) (k:=1) aw (World.ownsRow.mono dv b8.size) (rv:=vS aa an ac) (row:=AR) (v':=vS (τ g9) (0+1) c9) bu dw (λg' du=>by cases du;rcases df with h|h;exact absurd h (by simp[Value.ownBlock]);exact .inr (by show _<=g9;omega));have ei:Ϟ w6 w9:=aw.trans ((Lc bu).mono aw.size);show K (Act.put _ (some 92) _) _;refine m.out _ _ (bo.o _ ei) (λd=>?_);clear m K
        try simp only[Act.put,sI,sZ,sSz]
        refine takeB 11 11 d ?_;refine wpAnyH_done Ϣ ?_ _;go_wp2;go_meet;exact⟨_,_,none,0,rfl,rfl,rfl,Ds cj ec.size,by rw[cs.o];rfl,by rw[co.o];exact λi hi=>absurd hi (Nat.not_lt_zero i),bT di ei⟩
    ·exact absurd cr.o Ϡ
   ·have b1:(p.kind !=3)=true:=by simpa using k3
    have bh:ϝ (af= !P.isEmpty):=d4.o k3;have fh:ϝ (∀O,Ϟ w O->_):=KR.o k3;have q1:((n4:Int)>0)=(0<(n4:Int)):=rfl;have HQ:ϝ (decide ((0:Int)<(n4:Int))=af):=by
     show _=_;rw[bh.o,<-a6.o]
     cases P with
     |nil=>rfl
     |cons a l=>rw[decide_eq_true (by rw[length_cons];omega)];rfl
    clear q1 k3;go_wp2_with (go_at_call 98;refine(fh.o _ ar).mono ?_;rintro e O ⟨⟨ov,L,ma,mc,rfl,b9,ap,ca⟩,fk⟩);go_meet;exact⟨ov,L,ma,mc,rfl,rfl,by rw[<-HQ.o];first|rfl|simp,Ds b9 ar.size,ap,ca,fk⟩
 case rest=>
  rename World=>o;obtain⟨ov,L,ma,mc,ev,rfl,rfl,b9,ap,ca,dh⟩:=hcut;have ft:=ev.symm;subst ft;clear ev;obtain⟨fd,eo⟩:=nM (3 - E);have bx:ϝ ((E=1/\fd=2)\/(E=2/\fd=1)):=by
   rcases b0.o with h|h
   ·exact .inl ⟨h,ϟ⟩
   ·exact .inr ⟨h,ϟ⟩
  rw[eo]at a5 b4 b5⊢;clear eo ez b0;have U:Ϟ w o:=bT ar dh;have dy:=hV0 b9;have bz:ϝ (L.map CO.chg=(CB p s ⟨kd,E,C,N⟩).2):=ap.trans d8.o.symm;have bg:=hV0 ca;have SK:ϝ (∀f,Ϟ o f->boxP f w p x/\AK f (w+1) s y/\Hv f (w+1+1) ⟨kd,E,C,N⟩ I M/\noJ f (w+1+1+1)/\An f (w+1+1+1) 31):=λf H=>bm.o _ (bT dh H);have ae:ϝ (∀f,Ϟ o f->AK f (w+1) s y):=λf H=>(SK.o f H).2.1;have fu:w.heap.size+1+1+1<o.heap.size:=bf.AX (SK.o _ bR).2.2.2.2;clear b9 ap ca v0 v1 v2 v3 v4 v5 v6 v7 v8 v9 bb bc bd u0 u1 u2 u3 u4 u5 u6 u7 u8 g0 g1 g2 Y bm KR KV KL KB KN KK d4 d5 cp bj ao d3 dh ar;have f6:o.drew.heap.size=o.heap.size:=rfl;go_upto_region 18 with fail
  go_cut [15] (λa wc=> ∃A t q,a= .pointer (τ A)/\DSt w wc p x s y ⟨kd,E,C,N⟩ I M A (upJ s) ⟨t,q⟩/\Ϟ o wc/\o.heap.size<=A)
  case first=>
   refine gr.AQ (S:=λf=>AK f (w+1) s y) 16 rfl ba (ae.o _ bR.drew) ?_;intro d;refine Ai 0 93 d ?_;refine Ai 3 96 d ?_;refine Ai 6 99 d ?_;refine Ai 8 101 d ?_;refine Ai 10 103 d ?_;refine takeB 12 105 d ?_;refine wpAnyH_ready (rs:=[2,14]) Ϣ ϡ ?_;refine AllReadyH.cons rfl (λK m=>?_) (AllReadyH.cons rfl (λK m=>?_) AllReadyH.nil)
   ·go_simp;go_at_call 93;refine(b3.o _ (U.trans (Below.mono ((Below.refl o.heap.size o).drew) U.size))).mono ?_;rintro e wa ⟨⟨t,rfl,cf⟩,bv⟩;have Z:Ϟ o wa:=((Below.refl o.heap.size o).drew).trans (bv.mono ((Below.refl o.heap.size o).drew).size);go_wp2_with fail;refine m.out _ _ (ae.o _ Z) (λd=>?_);clear m K
    try simp only[Act.put,sI,sZ,sSz]
    refine wpAnyH_ready (rs:=[5,14]) Ϣ ϡ ?_;refine AllReadyH.cons rfl (λK m=>?_) (AllReadyH.cons rfl (λK m=>?_) AllReadyH.nil)
    ·go_simp;go_at_call 93;refine(bk.o _ (U.trans (Below.mono (Z) U.size))).mono ?_;rintro e wb ⟨⟨q,rfl,bw⟩,a3⟩;have J:Ϟ o wb:=(Z).trans (a3.mono (Z).size);go_wp2_with fail;refine m.out _ _ (ae.o _ J) (λd=>?_);clear m K
     try simp only[Act.put,sI,sZ,sSz]
     refine takeB 13 106 d ?_;refine rD 14 λK m=>?_;go_simp;refine m.out _ _ (ae.o _ ((J).alloc (J).size _)) (λd=>?_);clear m K
     try simp only[Act.put,sI,sZ,sSz]
     have HA:=Fg wb;generalize (World.alloc wb _)=wc at HA d⊢;obtain⟨ag,ah,F⟩:=HA;have ab:Ϟ o wc:=(J).trans (F.mono (J).size);have h1:=Z.size;have h2:=J.size;refine rD 15 λK m=>?_;refine Cn rfl 31 (.tmp 15) (.tmp 106) rfl (wb.heap.size) 0 #[vI s.L.lim,vS t.m.1.1 t.m.1.2.1 t.m.1.2.2,vS t.ra t.rs.length t.rc,vI s.R.lim,vS q.m.1.1 q.m.1.2.1 q.m.1.2.2,vS q.ra q.rs.length q.rc,vI s.lm,vI s.rm,vI (s.seq+1)] rfl rfl ag BU Ϩ ?_;refine m.out _ _ (Dk ϟ _ _ _ (ae.o _ ab)) (λd=>?_);clear m K;refine wpAnyH_done Ϣ ?_ _;go_wp2;go_meet;exact⟨_,t,q,rfl,Fu (s:=upJ s) (SK.o _ ab).1 (SK.o _ ab).2.1 (SK.o _ ab).2.2.1 (SK.o _ ab).2.2.2 ag ah (A5 ((cf.below a3).below F) (by have:=U.size;omega)) (A5 (bw.below F) (by have:=U.size;omega)) (bT U ab) ϟ,below_setCells ϟ _ _ _ ab,ϟ⟩
    ·go_simp;refine m.out _ _ (ae.o _ ((Z).alloc (Z).size _)) (λd=>?_);clear m K
     try simp only[Act.put,sI,sZ,sSz]
     have HA:=Fg wa;generalize (World.alloc wa _)=wb at HA d⊢;obtain⟨ag,ah,F⟩:=HA;have J:Ϟ o wb:=(Z).trans (F.mono (Z).size);refine rD 5 λK m=>?_;go_simp;go_at_call 93;refine(bk.o _ (U.trans (Below.mono (J) U.size))).mono ?_;rintro e wc ⟨⟨q,rfl,bw⟩,cb⟩;have ab:Ϟ o wc:=(J).trans (cb.mono (J).size);go_wp2_with fail;refine m.out _ _ (ae.o _ ab) (λd=>?_);clear m K
     try simp only[Act.put,sI,sZ,sSz]
     refine takeB 13 106 d ?_;have h1:=Z.size;have h2:=J.size;replace ag:=Ay ag cb;replace ah:=Ae ah cb;refine rD 15 λK m=>?_;refine Cn rfl 31 (.tmp 15) (.tmp 106) rfl (wa.heap.size) 0 #[vI s.L.lim,vS t.m.1.1 t.m.1.2.1 t.m.1.2.2,vS t.ra t.rs.length t.rc,vI s.R.lim,vS q.m.1.1 q.m.1.2.1 q.m.1.2.2,vS q.ra q.rs.length q.rc,vI s.lm,vI s.rm,vI (s.seq+1)] rfl rfl ag BU Ϩ ?_;refine m.out _ _ (Dk ϟ _ _ _ (ae.o _ ab)) (λd=>?_);clear m K;refine wpAnyH_done Ϣ ?_ _;go_wp2;go_meet;exact⟨_,t,q,rfl,Fu (s:=upJ s) (SK.o _ ab).1 (SK.o _ ab).2.1 (SK.o _ ab).2.2.1 (SK.o _ ab).2.2.2 ag ah (A5 ((cf.below F).below cb) (by have:=U.size;omega)) (A5 bw (by have:=U.size;omega)) (bT U ab) ϟ,below_setCells ϟ _ _ _ ab,ϟ⟩
   ·go_simp;refine m.out _ _ (ae.o _ (((Below.refl o.heap.size o)).alloc ((Below.refl o.heap.size o)).size _).drew) (λd=>?_);clear m K
    try simp only[Act.put,sI,sZ,sSz]
    have HA:=Mn o;generalize (World.drew (World.alloc o _))=wz at HA d⊢;obtain⟨ag,ah,F⟩:=HA;have cd:Ϟ o wz:=((Below.refl o.heap.size o)).trans (F.mono ((Below.refl o.heap.size o)).size);refine rD 2 λK m=>?_;go_simp;go_at_call 93;refine(b3.o _ (U.trans (Below.mono (cd) U.size))).mono ?_;rintro e wa ⟨⟨t,rfl,cf⟩,bv⟩;have Z:Ϟ o wa:=(cd).trans (bv.mono (cd).size);go_wp2_with fail;refine m.out _ _ (ae.o _ Z) (λd=>?_);clear m K
    try simp only[Act.put,sI,sZ,sSz]
    refine rD 5 λK m=>?_;go_simp;go_at_call 93;refine(bk.o _ (U.trans (Below.mono (Z) U.size))).mono ?_;rintro e wb ⟨⟨q,rfl,bw⟩,a3⟩;have J:Ϟ o wb:=(Z).trans (a3.mono (Z).size);go_wp2_with fail;refine m.out _ _ (ae.o _ J) (λd=>?_);clear m K
    try simp only[Act.put,sI,sZ,sSz]
    refine takeB 13 106 d ?_;have h0:=cd.size;have h1:=Z.size;have h2:=J.size;replace ag:=Ay (Ay ag bv) a3;replace ah:=Ae (Ae ah bv) a3;refine rD 15 λK m=>?_;refine Cn rfl 31 (.tmp 15) (.tmp 106) rfl (o.heap.size) 0 #[vI s.L.lim,vS t.m.1.1 t.m.1.2.1 t.m.1.2.2,vS t.ra t.rs.length t.rc,vI s.R.lim,vS q.m.1.1 q.m.1.2.1 q.m.1.2.2,vS q.ra q.rs.length q.rc,vI s.lm,vI s.rm,vI (s.seq+1)] rfl rfl ag BU Ϩ ?_;refine m.out _ _ (Dk ϟ _ _ _ (ae.o _ J)) (λd=>?_);clear m K;refine wpAnyH_done Ϣ ?_ _;go_wp2;go_meet;exact⟨_,t,q,rfl,Fu (s:=upJ s) (SK.o _ J).1 (SK.o _ J).2.1 (SK.o _ J).2.2.1 (SK.o _ J).2.2.2 ag ah (A5 (cf.below a3) (by have:=U.size;omega)) (A5 bw (by have:=U.size;omega)) (bT U J) ϟ,below_setCells ϟ _ _ _ J,ϟ⟩
  case rest=>
   rename World=>W2;obtain⟨A,t,q,rfl,hd,ef,ak⟩:=hcut;have dz:=hV0 hd;clear hd ae b3 bk fu;go_upto_region 20 with fail
   go_loopw [16] (λi wr=> ∃(k:Nat) (D:JX),k<=n4/\i=vI k/\DSt w wr p x s y ⟨kd,E,C,N⟩ I M A (Av (upJ s) fd (meetAll BF (P.take k))) D/\Ϟ o wr) (λi _=>n4 - (intOf i).toNat)
   case atStart=>
    refine⟨0,⟨t,q⟩,Nat.zero_le _,rfl,?_,ef⟩;have e:Av (upJ s) fd (meetAll BF (P.take 0))=upJ s:=by
     rw[take_zero,<-b5];rcases bx.o with⟨_,rfl⟩|⟨_,rfl⟩<;>rfl
    rw[e];exact dz.o
   case round=>
    obtain⟨k,D,fo,rfl,ay,dq⟩:=hrel;clear dz ef;by_cases ap:k<n4
    ·obtain⟨lb,lo,ga,gb,el,x0,t,q,x3,x4,x5⟩:=bg.o k (by rw[a6.o];exact ap);subst el;have ey:P.take (k+1)=P.take k++[P.getD k default]:=by
      rw[take_add_one,gDe,gEe (by rw[a6.o];exact ap)];rfl
     have cc:meetAll BF (P.take (k+1))=D9 (Az (P.getD k default)) (meetAll BF (P.take k)):=by rw[ey,Ka]
     obtain⟨yl,e7⟩:=nM (P.getD k default);rw[e7]at x0 t q x3 x4 cc;obtain⟨ek,et,es,er,em⟩:=yl;dsimp only at x0 t q;obtain⟨Bk,cz⟩:=nM (meetAll BF (P.take k));have fc:ϝ (okB Bk):=by rw[<-cz];exact d6.o k
     rw[cz]at cc ay;obtain⟨Bn,da⟩:=nM (D9 (Az ⟨ek,et,es,er,em⟩) Bk);have e8:=hV0 da;have fb:ϝ (meetAll BF (P.take (k+1))=Bn):=cc.trans da;have HD:=hV0 ay;have cv:ϝ (∀f,Ϟ o f->ϑ f lb (lo+k * 5) (.string ek) (vI et) (vI es)):=λf H=>⟨cLz H x0,cLz H t,cLz H q⟩;have i1:(0:Int)<=(k:Int):=ϟ;have i2:(k:Int)<(n4:Int):=ϟ;clear x0 t q x3 x4 x5 e7 cz da cc ey ay;rcases bx.o with⟨rfl,rfl⟩|⟨rfl,rfl⟩
     ·as_aux_lemma=>
       have c0:Δ wr A 3 (vI Bk.lim):=HD.o.box.2.2.2.1;have c1:Δ wr A 4 (vS D.r.m.1.1 D.r.m.1.2.1 D.r.m.1.2.2):=HD.o.box.2.2.2.2.1;have c2:Δ wr A 5 (vS D.r.ra D.r.rs.length D.r.rc):=HD.o.box.2.2.2.2.2.1;have fg:ϝ (∀O,Ϟ wr O->CT 103 #[.agg (Ω Bk D.r),.string ek,vI et,vI es] O λr f=>(∃X,r= .returned (.agg (Ω Bn X))/\OB f O X Bn)/\Ϟ O f):=λO hb=>by
        have:=KM.o Bk D.r ⟨ek,et,es,er,em⟩ O (Ag HD.o.r.at hb) fc.o;rw[e8.o]at this;exact this
       go_upto_region 24 with fail;refine gr.AQ (S:=λf=>ϑ f lb (lo+k * 5) (.string ek) (vI et) (vI es)) 20 rfl ba (cv.o _ dq.drew) ?_;intro d;refine takeB 0 134 d ?_;refine takeB 2 136 d ?_;refine Ai 3 137 d ?_;refine Ai 5 139 d ?_;refine Ai 7 141 d ?_;refine Ai 9 143 d ?_;refine Ai 11 145 d ?_;refine Ai 13 147 d ?_;refine Ai 15 149 d ?_;refine rD 1 λK m=>?_;go_simp;refine m.out _ _ d (λd=>?_);clear m K
       try simp only[Act.put,sI,sZ,sSz]
       refine rD 17 λK m=>?_;go_simp;go_at_call 103;refine(fg.o _ bR.drew).mono ?_;rintro e wm ⟨⟨X,rfl,cg⟩,fn⟩;have bs:Ϟ wr wm:=bR.drew.trans fn;have dl:Ϟ o wm:=bT dq bs;go_wp2_with fail;refine m.out _ _ (cv.o _ dl) (λd=>?_);clear m K
       try simp only[Act.put,sI,sZ,sSz]
       refine takeB 18 152 d ?_;have d0:=HD.o.below bs;have am:=d0.buf 2 (B:=Bn) (X:=X) (A5 cg (Nat.le_trans HD.o.bl.size nR)) 3 rfl;have dt:∀j,j<9->Ξ wm A j:=λj hj=>by
        have:=(d0.room j hj).2;simpa using this
       have f0:=dt 3 ϟ;have f1:=dt 4 ϟ;have f2:=dt 5 ϟ;have e0:=cLz bs c0;have e1:=cLz bs c1;have e2:=cLz bs c2;unfold hdV at am;refine rD 19 λK m=>?_;go_simp;refine m.out _ _ (cv.o _ (((dl.setCell ak _).setCell ak _).setCell ak _)) (λd=>?_);clear m K;refine wpAnyH_done Ϣ ?_ _;clear f0 f1 f2 e0 e1 e2 c0 c1 c2;go_wp2;go_roundw
       case rel=>exact⟨k+1,_,ϟ,by go_num,by rw[fb.o];exact PN am,((dl.setCell ak _).setCell ak _).setCell ak _⟩
       case measure=>simp[intOf];omega
     ·exact absurd cr.o Ϡ
    ·have hk:k=n4:=ϟ;subst hk;have e:P.take k=P:=by rw[<-a6.o,take_length]
     rw[e]at ay;obtain⟨SF,de⟩:=nM (Av (upJ s) fd (meetAll BF P));obtain⟨BO,cy⟩:=nM (bufOf s E);rw[de]at a5 ay;rw[cy]at KP;have d7:ϝ ((E=1->SF.L=BO)/\(E=2->SF.R=BO)):=by
      rw[<-de,<-cy];rcases bx.o with⟨rfl,rfl⟩|⟨rfl,rfl⟩
      ·exact⟨λh=>rfl,λh=>absurd h Ϡ⟩
      ·exact⟨λh=>absurd h Ϡ,λh=>rfl⟩
     obtain⟨Q,hQ⟩:=nM (!(hs&&decide (G<C)));have HQ:=hV0 hQ;have fa:ϝ (Q=true->(CB p s ⟨kd,E,C,N⟩).1=SF):=λh=>by
      rw[a5.o];refine if_neg (λhh=>?_);rw[<-hQ,hh.1,decide_eq_true hh.2]at h
      cases h
     have d1:ϝ (Q=false->(CB p s ⟨kd,E,C,N⟩).1=Av SF E B9):=λh=>by
      rw[a5.o];refine if_pos ?_;rw[<-hQ]at h;simp only[Bool.not_eq_false',Bool.and_eq_true,decide_eq_true_eq]at h;exact h
     have ck:=hV0 ay;clear ay e de cy hQ bg a6 a5 d6 KM ap fo b5;obtain⟨u0,u1,u2,u3,u4,u5,u6,u7,u8⟩:=ck.o.old;go_upto_region 26 with(go_at_call 92;refine(b4.o _).mono ?_;rintro e w3 ⟨⟨bl,a1,a2,n1,c1,n2,c2,rfl⟩,eg⟩);generalize hX:(World.alloc w3 _)=W4;have eh:Ϟ w3 W4:=by rw[<-hX];exact Ϫ
     clear hX u0 u1 u2 u3 u4 u5 u6 u7 u8 b4;have dp:Ϟ wr W4:=bT eg eh;have be:ϝ (DSt w W4 p x s y ⟨kd,E,C,N⟩ I M A SF D):=ck.o.below dp;have eb:Ϟ o W4:=bT dq dp;have bn:ϝ (∀f,Ϟ W4 f->(Δ f (w+1+1) 1 (vI E)/\Δ f (w+1+1) 2 (vI C))/\boxP f w p x):=λf H=>⟨⟨cLz H be.o.ev.2.1,cLz H be.o.ev.2.2.1⟩,Ad be.o.plan H⟩
     go_cut [174] (λc wc=>c= .bool Q/\Ϟ W4 wc)
     case first=>
      as_aux_lemma=>
       cases hs with
       |false=>
        have bi:ϝ (Q=true):=by rw[<-HQ.o];rfl
        refine gr.AQ (S:=λf=>(Δ f (w+1+1) 1 (vI E)/\Δ f (w+1+1) 2 (vI C))/\boxP f w p x) 16 rfl ba (bn.o _ bR.drew) ?_;intro d;refine Ai 0 159 d ?_;refine takeB 2 161 d ?_;refine sk 3 162 d ?_;refine sk 4 163 d ?_;refine sk 5 164 d ?_;refine sk 6 165 d ?_;refine sk 7 166 d ?_;refine sk 8 167 d ?_;refine sk 9 168 d ?_;refine sk 10 169 d ?_;refine sk 11 170 d ?_;refine sk 12 171 d ?_;refine sk 13 172 d ?_;refine sk 14 173 d ?_;refine takeB 15 174 d ?_;refine wpAnyH_done Ϣ ?_ _;go_wp2;go_meet;exact⟨by rw[bi.o],bR.drew⟩
       |true=>
        by_cases m1:mk=noMark
        ·have hm:(mk != -1099511627777)=false:=by rw[m1];rfl
         have bi:ϝ (Q=false):=by rw[<-HQ.o,decide_eq_true (cn.o m1)];rfl
         clear m1;refine gr.AQ (S:=λf=>(Δ f (w+1+1) 1 (vI E)/\Δ f (w+1+1) 2 (vI C))/\boxP f w p x) 16 rfl ba (bn.o _ bR.drew) ?_;intro d;refine Ai 0 159 d ?_;refine Ai 2 161 d ?_;refine Ai 4 163 d ?_;refine sk 6 165 d ?_;refine sk 7 166 d ?_;refine sk 8 167 d ?_;refine sk 9 168 d ?_;refine sk 10 169 d ?_;refine sk 11 170 d ?_;refine sk 12 171 d ?_;refine sk 13 172 d ?_;refine Ai 14 173 d ?_;refine wpAnyH_done Ϣ ?_ _;go_wp2;go_meet;exact⟨by rw[bi.o],bR.drew⟩
        ·have hm:(mk != -1099511627777)=true:=by rw[bne_iff_ne];exact m1
         have ff:ϝ (∀O,CT 96 #[pl.Ak p x,vI E,vI mk] O (θ O (vI G))):=KG.o m1;have bi:ϝ (decide (C<=G)=Q):=by
          show _=_;rw[<-HQ.o,Bool.true_and];by_cases hh:C<=G
          ·rw[decide_eq_true hh,decide_eq_false (show¬G<C by omega)];rfl
          ·rw[decide_eq_false hh,decide_eq_true (show G<C by omega)];rfl
         clear m1;refine gr.AQ (S:=λf=>(Δ f (w+1+1) 1 (vI E)/\Δ f (w+1+1) 2 (vI C))/\boxP f w p x) 16 rfl ba (bn.o _ bR.drew) ?_;intro d;refine Ai 0 159 d ?_;refine Ai 2 161 d ?_;refine Ai 4 163 d ?_;refine Ai 6 165 d ?_;refine Ai 8 167 d ?_;refine Ai 10 169 d ?_;refine rD 12 λK m=>?_;go_simp;go_at_call 96;refine(ff.o _).mono ?_;rintro e wg ⟨rfl,fm⟩;have ej:Ϟ W4 wg:=bR.drew.trans fm;go_wp2_with fail;refine m.out _ _ (bn.o _ ej) (λd=>?_);clear m K
         try simp only[Act.put,sI,sZ,sSz]
         refine Ai 13 172 d ?_;refine takeB 15 174 d ?_;refine wpAnyH_done Ϣ ?_ _;go_wp2;go_meet;exact⟨by rw[<-bi.o],ej⟩
     case rest=>
      rename World=>W5;obtain⟨rfl,dj⟩:=hcut;have aj:ϝ (DSt w W5 p x s y ⟨kd,E,C,N⟩ I M A SF D):=be.o.below dj;have cw:Ϟ o W5:=bT eb dj;clear bn be ck KG cn HQ eb dp eh eg dj
      cases Q with
      |true=>
       have cm:ϝ ((CB p s ⟨kd,E,C,N⟩).1=SF):=fa.o rfl;have ci:ϝ (CG W5 w ov L):=dy.o.below cw;obtain⟨c0,c1,c2,c3,c4,c5,c6,c7,c8⟩:=aj.o.box;have ao:ϝ (noJ _ (w+1+1+1)):=aj.o.res;go_wp2_with ((with_reducible refine wpList_store_mid ?_ 31 (.tmp 6) (.tmp 175) ?_ (w.heap.size+1+1+1) 0 (Ψ SF D) ?_ ?_ ?_ ?_ ?_ ?_);exact rfl;exact rfl;exact rfl;exact rfl;exact ao.o;exact BU;exact Ϩ);clear c0 c1 c2 c3 c4 c5 c6 c7 c8;have HR:=It (R:=w.heap.size+1+1+1) ϟ ao.o aj.o.rty ⟨aj.o.l,aj.o.r,ci.o⟩ aj.o.bl;generalize (World.setCells _ (w.heap.size+1+1+1) 0 _)=W9 at HR⊢;obtain⟨⟨r0,r1,r2,r3,r4,r5,r6,r7,r8⟩,aq⟩:=HR;refine bodyPost_ret (v:=.tuple #[joinV SF D,ov]) (by simp[results,results52,go_sem,A0,r0,r1,r2,r3,r4,r5,r6,r7,r8]) rfl ⟨?_,aq.2⟩;rw[cm.o]
       first|exact⟨D,ov,L,rfl,bz.o,aq.1⟩|exact⟨D,ov,rfl,L,bz.o,aq.1⟩
      |false=>
       have u8:=aj.o.old.2.2.2.2.2.2.2.2;rw[fe.o]at u8;obtain⟨g0,g1,g2,Y⟩:=aj.o.ev;dsimp only at g0 g1 g2 Y;rw[a7.o]at Y;go_upto_region 29 with fail;generalize hX:(World.alloc W5 _)=W;have b6:Ϟ W5 W:=by rw[<-hX];exact Ϫ
       obtain⟨EB,av⟩:=nM W5.heap.size;have m0:Δ W EB 0 (.string kb):=by subst hX;rw[<-av];go_simp
       have m1:Δ W EB 1 (vI C):=by subst hX;rw[<-av];go_simp
       have m2:Δ W EB 2 (vI sq):=by subst hX;rw[<-av];go_simp
       have m3:Δ W EB 3 (vS I n M):=by subst hX;rw[<-av];go_simp
       have m4:Δ W EB 4 (.bool af):=by subst hX;rw[<-av];go_simp
       rw[av];have al:ϝ (DSt w W p x s y ⟨kd,E,C,N⟩ I M A SF D):=aj.o.below b6;have fi:Ϟ o W:=bT cw b6;replace g1:=cLz b6 g1;clear hX av b6 cw aj g0 g2 Y u8;rcases bx.o with⟨rfl,rfl⟩|⟨rfl,rfl⟩
       ·skip;have c0:Δ W A 0 (vI BO.lim):=by rw[<-d7.o.1 rfl];exact al.o.box.1
        have c1:Δ W A 1 (vS D.l.m.1.1 D.l.m.1.2.1 D.l.m.1.2.2):=al.o.box.2.1;have c2:Δ W A 2 (vS D.l.ra D.l.rs.length D.l.rc):=al.o.box.2.2.1;have d2:ϝ (∀f,Ϟ W f->(Ξ f A 0/\Ξ f A 1/\Ξ f A 2)/\(∃u,Δ f A 0 u)/\(∃u,Δ f A 1 u)/\∃u,Δ f A 2 u):=λf hb=>by
         have h:=al.o.below hb;have hf:∀j,j<9->Ξ f A j:=λj hj=>by
          have:=(h.room j hj).2;simpa using this
         exact⟨⟨hf 0 ϟ,hf 1 ϟ,hf 2 ϟ⟩,⟨_,h.box.1⟩,⟨_,h.box.2.1⟩,⟨_,h.box.2.2.1⟩⟩
        have ea:ϝ (CT 104 #[.agg (Ω BO D.l),.agg (ζ kb C sq I n M af)] W λr f=>(∃X,r= .returned (.agg (Ω B9 X))/\OB f W X B9)/\Ϟ W f):=KP.o D.l W (by rw[<-d7.o.1 rfl];exact al.o.l.at) al.o.bl;go_upto_region 32 with(go_at_call 104;refine ea.o.mono ?_;rintro e wp ⟨⟨X,rfl,cg⟩,dm⟩;obtain⟨⟨f3,f4,f5⟩,⟨z3,e3⟩,⟨z4,e4⟩,⟨z5,e5⟩⟩:=d2.o _ dm);have am:=(al.o.below dm).buf 1 (B:=B9) (X:=X) (A5 cg al.o.bl.size) 0 rfl;unfold hdV at am;clear f3 f4 f5 e3 e4 e5 c0 c1 c2 m0 m1 m2 m3 m4 d2 ea cg;have en:Ϟ o wp:=bT fi dm;obtain⟨S4,dd⟩:=nM (Av SF 1 B9);obtain⟨y4,e6⟩:=nM (GB D 1 X);rw[dd,e6]at am;have cm:ϝ ((CB p s ⟨kd,1,C,N⟩).1=S4):=by rw[<-dd];first|exact d1.o rfl|exact d1.o trivial
        clear dd e6;have dr:Ϟ o (World.setCell (World.setCell (World.setCell wp ⟨A,0,none⟩ (vI B9.lim)) ⟨A,1,none⟩ (vS X.m.1.1 X.m.1.2.1 X.m.1.2.2)) ⟨A,2,none⟩ (vS X.ra X.rs.length X.rc)):=((en.setCell ak _).setCell ak _).setCell ak _;generalize (World.setCell (World.setCell (World.setCell wp _ _) _ _) _ _)=W7 at dr am⊢;have a4:ϝ (DSt w W7 p x s y ⟨kd,1,C,N⟩ I M A S4 y4):=am;have ci:ϝ (CG W7 w ov L):=dy.o.below dr;clear am dr en;obtain⟨c0,c1,c2,c3,c4,c5,c6,c7,c8⟩:=a4.o.box;have ao:ϝ (noJ _ (w+1+1+1)):=a4.o.res;go_wp2_with ((with_reducible refine wpList_store_mid ?_ 31 (.tmp 6) (.tmp 199) ?_ (w.heap.size+1+1+1) 0 (Ψ S4 y4) ?_ ?_ ?_ ?_ ?_ ?_);exact rfl;exact rfl;exact rfl;exact rfl;exact ao.o;exact BU;exact Ϩ);clear c0 c1 c2 c3 c4 c5 c6 c7 c8;have HR:=It (R:=w.heap.size+1+1+1) ϟ ao.o a4.o.rty ⟨a4.o.l,a4.o.r,ci.o⟩ a4.o.bl;generalize (World.setCells _ (w.heap.size+1+1+1) 0 _)=W9 at HR⊢;obtain⟨⟨r0,r1,r2,r3,r4,r5,r6,r7,r8⟩,aq⟩:=HR;refine bodyPost_ret (v:=.tuple #[joinV S4 y4,ov]) (by simp[results,results52,go_sem,A0,r0,r1,r2,r3,r4,r5,r6,r7,r8]) rfl ⟨?_,aq.2⟩;rw[cm.o]
        first|exact⟨y4,ov,L,rfl,bz.o,aq.1⟩|exact⟨y4,ov,rfl,L,bz.o,aq.1⟩
       ·exact absurd cr.o Ϡ
end jn
end Go.Proofs.YtdohnkkbkfhphaaGreat
