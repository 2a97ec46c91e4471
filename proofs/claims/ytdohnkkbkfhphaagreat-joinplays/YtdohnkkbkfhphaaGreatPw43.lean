import Derived.Test.YtdohnkkbkfhphaaGreatPw42
set_option linter.all false
set_option maxHeartbeats 16000000
set_option maxRecDepth 100000
open Go.ChangeShapes Go.WideShapes Go.ChangeAt Go.RowKit
namespace Go.Proofs.YtdohnkkbkfhphaaGreat
open Go.Proofs.Tryz
namespace jn
open vl bf
attribute [local go_sem] Oper.semAt_some
theorem TR{w:ϛ}{e:EM}{z:Ent}{L:List Ent}{a:Int}(h:ER w e z):DO L a e.ent=DO L a z:=by
 unfold DO FU EM.ent cmpP;dsimp only;rw[h.key,h.time,h.seq];rfl
theorem Fg(W:ϛ):noJ (ξ W #[ω,ψ,ψ,ω,ψ,ψ,ω,ω,ω] 31) W.heap.size/\An (ξ W #[ω,ψ,ψ,ω,ψ,ψ,ω,ω,ω] 31) W.heap.size 31/\Ϟ W (ξ W #[ω,ψ,ψ,ω,ψ,ψ,ω,ω,ω] 31):=
 ⟨EP W,⟨_,_,World.alloc_heap_new W _⟩,Ϫ⟩
theorem Mn(W:ϛ):noJ (W.alloc (.cells #[ω,ψ,ψ,ω,ψ,ψ,ω,ω,ω] 31)).drew W.heap.size/\An (W.alloc (.cells #[ω,ψ,ψ,ω,ψ,ψ,ω,ω,ω] 31)).drew W.heap.size 31/\Ϟ W (W.alloc (.cells #[ω,ψ,ψ,ω,ψ,ψ,ω,ω,ω] 31)).drew:=
 ⟨Ay (EP W) bR.drew,Ae ⟨_,_,World.alloc_heap_new W _⟩ bR.drew,Ϫ.drew⟩
theorem Qm(p:pl.Pln)(x:pl.PA)(s:Jn)(y:JX)(v:Ev)(ra:Ϝ)(rc:Nat)(w:ϛ)(h:joinAt w s y)(h0:pl.Al p=0)(hg:goodJ p s)(hs:v.side=1\/v.side=2)(hf:tm.Bc v.time=true):
 η 51 #[pl.Ak p x,joinV s y,evV v ra rc] w λe f=>(∃y',e= .returned (joinV (Bu p (BS s v.side v.time)) y')/\OB f w y'.l (Bu p (BS s v.side v.time)).L/\OB f w y'.r (Bu p (BS s v.side v.time)).R)/\Ϟ w f:=by
 have bo:Tryz.prog.follows .mixedOrders=true:=rfl;have bg:=hIz (λ(i:ϛ) (hb:Ϟ w i)=>IL s.L y.l i (Ag h.l hb) hg.ok.L);have a9:=hIz (λ(i:ϛ) (hb:Ϟ w i)=>IL s.R y.r i (Ag h.r hb) hg.ok.R);have bs:=hV0 hs;have ab:ϝ (goodJ p (BS s v.side v.time)):=QI hg v.side v.time hf;have a7:=hV0 h0;obtain⟨F,hF⟩:=nM (Bu p (BS s v.side v.time));have a6:=hV0 hF;rw[hF];clear hF h0 hg hf;unfold AF hdV at bg a9;unfold pl.Ak;rw[A0];unfold evV;obtain⟨kd,sd,tm,an⟩:=v;dsimp only at bs ab a6⊢;clear hs;obtain⟨n,hn⟩:=nM an.length;rw[hn];go_enter func51,ntmps51;go_upto_region 1 with fail;generalize U:(World.alloc (World.alloc (World.alloc (World.alloc w _) _) _) _)=V;have L:Ϟ w V:=by rw[<-U];exact((Ϫ.alloc ϡ _).alloc Ϥ _).alloc Ϥ _
 have b6:V.heap.size=w.heap.size+1+1+1+1:=by rw[<-U];simp
 have HP:ϝ (boxP V w p x):=by
  subst U;exact Ad (Ad (Ad (BL ..) Ϫ) Ϫ) Ϫ
 have HJ:ϝ (AK V (w+1) s y):=by
  subst U;have:=AL (ξ w (Φ p x) 25) s y 31;rw[World.size_alloc]at this;exact Ah (Ah this Ϫ) Ϫ
 have HE:ϝ (Hv V (w+1+1) ⟨kd,sd,tm,an⟩ ra rc):=by
  subst U;refine⟨?_,?_,?_,?_⟩<;>go_simp
 have HZ:ϝ (noJ V (w+1+1+1)/\An V (w+1+1+1) 31):=by
  subst U;have:=Fg (ξ (ξ (ξ w (Φ p x) 25) (Ψ s y) 31) #[vI kd,vI sd,vI tm,vS ra n rc] 43);rw[World.size_alloc,World.size_alloc,World.size_alloc]at this;exact⟨this.1,this.2.1⟩
 clear U;have cb:V.drew.heap.size=V.heap.size:=rfl;have r:ϝ (∀f,Ϟ V f->AK f (w+1) s y):=λf hz=>Ah HJ.o hz
 go_cut [7] (λa wc=> ∃q o k,a= .pointer (τ q)/\DSt w wc p x s y ⟨kd,sd,tm,an⟩ ra rc q s ⟨o,k⟩)
 case first=>
  refine gr.AQ (S:=λf=>AK f (w+1) s y) 15 rfl bo (r.o _ bR.drew) ?_;intro d;refine takeB 0 10 d ?_;refine takeB 1 11 d ?_;refine takeB 3 13 d ?_;refine takeB 4 14 d ?_;refine takeB 6 16 d ?_;refine takeB 7 17 d ?_;refine takeB 8 18 d ?_;refine takeB 9 19 d ?_;refine takeB 10 20 d ?_;refine takeB 11 21 d ?_;refine wpAnyH_ready (rs:=[2,13]) Ϣ ϡ ?_;refine AllReadyH.cons rfl (λK b=>?_) (AllReadyH.cons rfl (λK b=>?_) AllReadyH.nil)
  ·go_simp;go_at_call 93;refine(bg.o _ (L.trans (Below.mono ((Below.refl V.heap.size V).drew) L.size))).mono ?_;rintro e wa ⟨⟨o,rfl,bd⟩,a3⟩;have O:Ϟ V wa:=((Below.refl V.heap.size V).drew).trans (a3.mono ((Below.refl V.heap.size V).drew).size);go_wp2_with fail;refine b.out _ _ (r.o _ O) (λd=>?_);clear b K
   try simp only[Act.put,sI,sZ,sSz]
   refine wpAnyH_ready (rs:=[5,13]) Ϣ ϡ ?_;refine AllReadyH.cons rfl (λK b=>?_) (AllReadyH.cons rfl (λK b=>?_) AllReadyH.nil)
   ·go_simp;go_at_call 93;refine(a9.o _ (L.trans (Below.mono (O) L.size))).mono ?_;rintro e wb ⟨⟨k,rfl,a4⟩,aw⟩;have J:Ϟ V wb:=(O).trans (aw.mono (O).size);go_wp2_with fail;refine b.out _ _ (r.o _ J) (λd=>?_);clear b K
    try simp only[Act.put,sI,sZ,sSz]
    refine takeB 12 22 d ?_;refine rD 13 λK b=>?_;go_simp;refine b.out _ _ (r.o _ ((J).alloc (J).size _)) (λd=>?_);clear b K
    try simp only[Act.put,sI,sZ,sSz]
    have HA:=Fg wb;generalize (World.alloc wb _)=wc at HA d⊢;obtain⟨aa,ai,aq⟩:=HA;have P:Ϟ V wc:=(J).trans (aq.mono (J).size);have h1:=O.size;have h2:=J.size;refine rD 14 λK b=>?_;refine Cn rfl 31 (.tmp 7) (.tmp 22) rfl (wb.heap.size) 0 #[vI s.L.lim,vS o.m.1.1 o.m.1.2.1 o.m.1.2.2,vS o.ra o.rs.length o.rc,vI s.R.lim,vS k.m.1.1 k.m.1.2.1 k.m.1.2.2,vS k.ra k.rs.length k.rc,vI s.lm,vI s.rm,vI s.seq] rfl rfl aa BU Ϩ ?_;refine b.out _ _ (Dk ϟ _ _ _ (r.o _ P)) (λd=>?_);clear b K;refine wpAnyH_done Ϣ ?_ _;go_wp2;go_meet;exact⟨_,o,k,rfl,Fu (Ad HP.o P) (Ah HJ.o P) (De HE.o P) ⟨Ay HZ.o.1 P,Ae HZ.o.2 P⟩ aa ai (A5 ((bd.below aw).below aq) (by have:=L.size;omega)) (A5 (a4.below aq) (by have:=L.size;omega)) (bT L P) ϟ⟩
   ·go_simp;refine b.out _ _ (r.o _ ((O).alloc (O).size _)) (λd=>?_);clear b K
    try simp only[Act.put,sI,sZ,sSz]
    have HA:=Fg wa;generalize (World.alloc wa _)=wb at HA d⊢;obtain⟨aa,ai,aq⟩:=HA;have J:Ϟ V wb:=(O).trans (aq.mono (O).size);refine rD 5 λK b=>?_;go_simp;go_at_call 93;refine(a9.o _ (L.trans (Below.mono (J) L.size))).mono ?_;rintro e wc ⟨⟨k,rfl,a4⟩,bb⟩;have P:Ϟ V wc:=(J).trans (bb.mono (J).size);go_wp2_with fail;refine b.out _ _ (r.o _ P) (λd=>?_);clear b K
    try simp only[Act.put,sI,sZ,sSz]
    refine takeB 12 22 d ?_;have h1:=O.size;have h2:=J.size;replace aa:=Ay aa bb;replace ai:=Ae ai bb;refine rD 14 λK b=>?_;refine Cn rfl 31 (.tmp 7) (.tmp 22) rfl (wa.heap.size) 0 #[vI s.L.lim,vS o.m.1.1 o.m.1.2.1 o.m.1.2.2,vS o.ra o.rs.length o.rc,vI s.R.lim,vS k.m.1.1 k.m.1.2.1 k.m.1.2.2,vS k.ra k.rs.length k.rc,vI s.lm,vI s.rm,vI s.seq] rfl rfl aa BU Ϩ ?_;refine b.out _ _ (Dk ϟ _ _ _ (r.o _ P)) (λd=>?_);clear b K;refine wpAnyH_done Ϣ ?_ _;go_wp2;go_meet;exact⟨_,o,k,rfl,Fu (Ad HP.o P) (Ah HJ.o P) (De HE.o P) ⟨Ay HZ.o.1 P,Ae HZ.o.2 P⟩ aa ai (A5 ((bd.below aq).below bb) (by have:=L.size;omega)) (A5 a4 (by have:=L.size;omega)) (bT L P) ϟ⟩
  ·go_simp;refine b.out _ _ (r.o _ (((Below.refl V.heap.size V)).alloc ((Below.refl V.heap.size V)).size _).drew) (λd=>?_);clear b K
   try simp only[Act.put,sI,sZ,sSz]
   have HA:=Mn V;generalize (World.drew (World.alloc V _))=wz at HA d⊢;obtain⟨aa,ai,aq⟩:=HA;have bc:Ϟ V wz:=((Below.refl V.heap.size V)).trans (aq.mono ((Below.refl V.heap.size V)).size);refine rD 2 λK b=>?_;go_simp;go_at_call 93;refine(bg.o _ (L.trans (Below.mono (bc) L.size))).mono ?_;rintro e wa ⟨⟨o,rfl,bd⟩,a3⟩;have O:Ϟ V wa:=(bc).trans (a3.mono (bc).size);go_wp2_with fail;refine b.out _ _ (r.o _ O) (λd=>?_);clear b K
   try simp only[Act.put,sI,sZ,sSz]
   refine rD 5 λK b=>?_;go_simp;go_at_call 93;refine(a9.o _ (L.trans (Below.mono (O) L.size))).mono ?_;rintro e wb ⟨⟨k,rfl,a4⟩,aw⟩;have J:Ϟ V wb:=(O).trans (aw.mono (O).size);go_wp2_with fail;refine b.out _ _ (r.o _ J) (λd=>?_);clear b K
   try simp only[Act.put,sI,sZ,sSz]
   refine takeB 12 22 d ?_;have h0:=bc.size;have h1:=O.size;have h2:=J.size;replace aa:=Ay (Ay aa a3) aw;replace ai:=Ae (Ae ai a3) aw;rw[b6]at aa ai;refine rD 14 λK b=>?_;refine Cn rfl 31 (.tmp 7) (.tmp 22) rfl (w.heap.size+1+1+1+1) 0 #[vI s.L.lim,vS o.m.1.1 o.m.1.2.1 o.m.1.2.2,vS o.ra o.rs.length o.rc,vI s.R.lim,vS k.m.1.1 k.m.1.2.1 k.m.1.2.2,vS k.ra k.rs.length k.rc,vI s.lm,vI s.rm,vI s.seq] rfl rfl aa BU Ϩ ?_;refine b.out _ _ (Dk ϟ _ _ _ (r.o _ J)) (λd=>?_);clear b K;refine wpAnyH_done Ϣ ?_ _;go_wp2;go_meet;exact⟨_,o,k,rfl,Fu (Ad HP.o J) (Ah HJ.o J) (De HE.o J) ⟨Ay HZ.o.1 J,Ae HZ.o.2 J⟩ aa ai (A5 (bd.below aw) (by have:=L.size;omega)) (A5 a4 (by have:=L.size;omega)) (bT L J) ϟ⟩
 case rest=>
  rename World=>W1;obtain⟨q,o,k,rfl,hd⟩:=hcut;have be:=hV0 hd;obtain⟨g0,g1,g2,g3⟩:=hd.ev;have M:∀j,j<9->Ξ W1 q j:=λj hj=>by
   have:=(hd.room j hj).2;simpa using this
  have H:=hd.box.2.2.2.2.2.2.1;have C:=hd.box.2.2.2.2.2.2.2.1;have f6:=M 6 ϟ;have f7:=M 7 ϟ;clear r HP HJ HE HZ L b6 cb M hd
  go_upto_if 25 with fail
  go_cut [] (λwc=>DSt w wc p x s y ⟨kd,sd,tm,an⟩ ra rc q (BS s sd tm) ⟨o,k⟩)
  case first=>
   rcases bs.o with rfl|rfl
   ·go_wp2;go_meet;exact be.o.mark 1 tm
   ·go_wp2;go_meet;exact be.o.mark 2 tm
  case rest=>
   rename World=>W2;have ac:=hV0 hcut;clear g0 g1 g2 g3 H C f6 f7 be hcut;obtain⟨m,bu⟩:=nM (BS s sd tm);rw[bu]at ac ab a6;clear bu;obtain⟨D,bn⟩:=nM m.lm;obtain⟨E,b5⟩:=nM m.rm;have aj:=hV0 bn;have af:=hV0 b5;have H:=ac.o.box.2.2.2.2.2.2.1;rw[bn]at H;clear bn b5
   go_upto_if 34 with fail
   go_cut [] (λwc=> ∃y2,DSt w wc p x s y ⟨kd,sd,tm,an⟩ ra rc q ⟨m.L,(dropJ p m).R,m.lm,m.rm,m.seq⟩ y2)
   case first=>
    by_cases N:D=noMark
    ·have hm:(D != -1099511627777)=false:=by rw[N];rfl
     skip;go_wp2;go_meet;rw[VL ab.o.ok,if_pos (aj.o.trans N)];exact⟨_,ac.o⟩
    ·have hm:(D != -1099511627777)=true:=by rw[bne_iff_ne];exact N
     obtain⟨ga,gf⟩:=Qr (p:=p) (side:=2) a7.o ϡ (show CW D=true by rw[<-aj.o];exact ab.o.ok.lm) N;obtain⟨B9,al⟩:=nM (Bt (Cm (pl.Gv p 2 D)) m.R);have a1:(dropJ p m).R=B9:=by rw[VL ab.o.ok,if_neg (by rw[aj.o];exact N),aj.o];exact al
     rw[ga]at al;have KG:=hIz (λ(i:ϛ)=>pl.Lh p x 2 D i a7.o gf);have KD:ϝ (∀i,Ϟ W2 i->CT 95 #[.agg (Ω m.R k),vI (pl.goneAt p 2 D)] i λe f=>(∃X,e= .returned (.agg (Ω B9 X))/\OB f i X B9)/\Ϟ i f):=λi hb=>by
      have:=P6 m.R k (pl.goneAt p 2 D) i (Ag (ac.o.r.at) hb) ab.o.ok.R;rw[al]at this;exact this
     obtain⟨W,Y,Z,c3,c4,c5,H,C,c8⟩:=ac.o.box;dsimp only at W Y Z c3 c4 c5 H C c8;have r:ϝ (∀f,Ϟ W2 f->Δ f q 6 (vI D)/\boxP f w p x):=λf hz=>⟨cLz hz (by rw[<-aj.o];exact H),Ad ac.o.plan hz⟩;generalize pl.goneAt p 2 D=G at KG KD;have az:=hV0 a1;clear a1 al ga gf N;go_upto_region 6 with fail;refine gr.AQ (S:=λf=>Δ f q 6 (vI D)/\boxP f w p x) 9 rfl bo (r.o _ bR.drew) ?_;intro d;refine takeB 0 35 d ?_;refine takeB 2 37 d ?_;refine takeB 3 38 d ?_;refine takeB 4 39 d ?_;refine wpAnyH_ready (rs:=[1,5]) Ϣ ϡ ?_;refine AllReadyH.cons rfl (λK b=>?_) (AllReadyH.cons rfl (λK b=>?_) AllReadyH.nil)
     ·go_simp;refine b.out _ _ d (λd=>?_);clear b K
      try simp only[Act.put,sI,sZ,sSz]
      refine rD 5 λK b=>?_;go_simp;go_at_call 96;refine(KG.o _).mono ?_;rintro e wg ⟨rfl,av⟩;have t:Ϟ W2 wg:=bR.drew.trans av;go_wp2_with fail;refine b.out _ _ (r.o _ t) (λd=>?_);clear b K
      try simp only[Act.put,sI,sZ,sSz]
      refine rD 6 λK b=>?_;go_simp;go_at_call 95;refine(KD.o _ t).mono ?_;rintro e wp ⟨⟨X,rfl,ah⟩,ag⟩;have I:Ϟ W2 wp:=bT t ag;go_wp2_with fail;refine b.out _ _ (r.o _ I) (λd=>?_);clear b K
      try simp only[Act.put,sI,sZ,sSz]
      refine takeB 7 42 d ?_;have ad:=ac.o.below I;have A:=ad.buf 2 (B:=B9) (X:=X) (A5 ah (Nat.le_trans ac.o.bl.size t.size)) 3 rfl;have M:∀j,j<9->Ξ wp q j:=λj hj=>by
       have:=(ad.room j hj).2;simpa using this
      have f3:=M 3 ϟ;have f4:=M 4 ϟ;have f5:=M 5 ϟ;have e3:=cLz I c3;have e4:=cLz I c4;have e5:=cLz I c5;unfold hdV at A;refine rD 8 λK b=>?_;go_simp;refine b.out _ _ ⟨by have:=A.box;rw[<-aj.o];exact this.2.2.2.2.2.2.1,A.plan⟩ (λd=>?_);clear b K;refine wpAnyH_done Ϣ ?_ _;go_wp2;go_meet;rw[az.o];exact⟨_,A⟩
     ·go_simp;go_at_call 96;refine(KG.o _).mono ?_;rintro e wg ⟨rfl,av⟩;have t:Ϟ W2 wg:=bR.drew.trans av;go_wp2_with fail;refine b.out _ _ (r.o _ t) (λd=>?_);clear b K
      try simp only[Act.put,sI,sZ,sSz]
      have d3:=cLz t c3;have d4:=cLz t c4;have d5:=cLz t c5;refine rD 1 λK b=>?_;go_simp;refine b.out _ _ d (λd=>?_);clear b K
      try simp only[Act.put,sI,sZ,sSz]
      refine rD 6 λK b=>?_;go_simp;go_at_call 95;refine(KD.o _ t).mono ?_;rintro e wp ⟨⟨X,rfl,ah⟩,ag⟩;have I:Ϟ W2 wp:=bT t ag;go_wp2_with fail;refine b.out _ _ (r.o _ I) (λd=>?_);clear b K
      try simp only[Act.put,sI,sZ,sSz]
      refine takeB 7 42 d ?_;have ad:=ac.o.below I;have A:=ad.buf 2 (B:=B9) (X:=X) (A5 ah (Nat.le_trans ac.o.bl.size t.size)) 3 rfl;have M:∀j,j<9->Ξ wp q j:=λj hj=>by
       have:=(ad.room j hj).2;simpa using this
      have f3:=M 3 ϟ;have f4:=M 4 ϟ;have f5:=M 5 ϟ;have e3:=cLz I c3;have e4:=cLz I c4;have e5:=cLz I c5;unfold hdV at A;refine rD 8 λK b=>?_;go_simp;refine b.out _ _ ⟨by have:=A.box;rw[<-aj.o];exact this.2.2.2.2.2.2.1,A.plan⟩ (λd=>?_);clear b K;refine wpAnyH_done Ϣ ?_ _;go_wp2;go_meet;rw[az.o];exact⟨_,A⟩
   case rest=>
    rename World=>W3;obtain⟨y2,hd⟩:=hcut;have ae:=hV0 hd;clear hd ac H;have C:=ae.o.box.2.2.2.2.2.2.2.1;dsimp only at C;rw[af.o]at C
    go_upto_if 45 with fail
    go_cut [] (λwc=> ∃y3,DSt w wc p x s y ⟨kd,sd,tm,an⟩ ra rc q (dropJ p m) y3)
    case first=>
     by_cases N:E=noMark
     ·have hm:(E != -1099511627777)=false:=by rw[N];rfl
      skip;go_wp2;go_meet;refine⟨y2,?_⟩;have e:dropJ p m=⟨m.L,(dropJ p m).R,m.lm,m.rm,m.seq⟩:=by
       have:=VK (p:=p) ab.o.ok;rw[if_pos (af.o.trans N)]at this;rw[<-this];rfl
      rw[e];exact ae.o
     ·have hm:(E != -1099511627777)=true:=by rw[bne_iff_ne];exact N
      obtain⟨ga,gf⟩:=Qr (p:=p) (side:=1) a7.o ϡ (show CW E=true by rw[<-af.o];exact ab.o.ok.rm) N;obtain⟨B9,al⟩:=nM (Bt (Cm (pl.Gv p 1 E)) m.L);have a1:(dropJ p m).L=B9:=by rw[VK ab.o.ok,if_neg (by rw[af.o];exact N),af.o];exact al
      rw[ga]at al;have KG:=hIz (λ(i:ϛ)=>pl.Lh p x 1 E i a7.o gf);have KD:ϝ (∀i,Ϟ W3 i->CT 95 #[.agg (Ω m.L y2.l),vI (pl.goneAt p 1 E)] i λe f=>(∃X,e= .returned (.agg (Ω B9 X))/\OB f i X B9)/\Ϟ i f):=λi hb=>by
       have:=P6 m.L y2.l (pl.goneAt p 1 E) i (Ag (ae.o.l.at) hb) ab.o.ok.L;rw[al]at this;exact this
      obtain⟨W,Y,Z,c3,c4,c5,H,C,c8⟩:=ae.o.box;dsimp only at W Y Z c3 c4 c5 H C c8;have r:ϝ (∀f,Ϟ W3 f->Δ f q 7 (vI E)/\boxP f w p x):=λf hz=>⟨cLz hz (by rw[<-af.o];exact C),Ad ae.o.plan hz⟩;generalize pl.goneAt p 1 E=G at KG KD;have az:ϝ (dropJ p m=⟨B9,(dropJ p m).R,m.lm,m.rm,m.seq⟩):=by show _=_;rw[<-a1];rfl
      clear a1 al ga gf N;go_upto_region 8 with fail;refine gr.AQ (S:=λf=>Δ f q 7 (vI E)/\boxP f w p x) 9 rfl bo (r.o _ bR.drew) ?_;intro d;refine takeB 0 46 d ?_;refine takeB 2 48 d ?_;refine takeB 3 49 d ?_;refine takeB 4 50 d ?_;refine wpAnyH_ready (rs:=[1,5]) Ϣ ϡ ?_;refine AllReadyH.cons rfl (λK b=>?_) (AllReadyH.cons rfl (λK b=>?_) AllReadyH.nil)
      ·go_simp;refine b.out _ _ d (λd=>?_);clear b K
       try simp only[Act.put,sI,sZ,sSz]
       refine rD 5 λK b=>?_;go_simp;go_at_call 96;refine(KG.o _).mono ?_;rintro e wg ⟨rfl,av⟩;have t:Ϟ W3 wg:=bR.drew.trans av;go_wp2_with fail;refine b.out _ _ (r.o _ t) (λd=>?_);clear b K
       try simp only[Act.put,sI,sZ,sSz]
       refine rD 6 λK b=>?_;go_simp;go_at_call 95;refine(KD.o _ t).mono ?_;rintro e wp ⟨⟨X,rfl,ah⟩,ag⟩;have I:Ϟ W3 wp:=bT t ag;go_wp2_with fail;refine b.out _ _ (r.o _ I) (λd=>?_);clear b K
       try simp only[Act.put,sI,sZ,sSz]
       refine takeB 7 53 d ?_;have ad:=ae.o.below I;have A:=ad.buf 1 (B:=B9) (X:=X) (A5 ah (Nat.le_trans ae.o.bl.size t.size)) 0 rfl;have M:∀j,j<9->Ξ wp q j:=λj hj=>by
        have:=(ad.room j hj).2;simpa using this
       have f0:=M 0 ϟ;have f1:=M 1 ϟ;have f2:=M 2 ϟ;have e0:=cLz I W;have e1:=cLz I Y;have e2:=cLz I Z;unfold hdV at A;refine rD 8 λK b=>?_;go_simp;refine b.out _ _ ⟨by have:=A.box;rw[<-af.o];exact this.2.2.2.2.2.2.2.1,A.plan⟩ (λd=>?_);clear b K;refine wpAnyH_done Ϣ ?_ _;go_wp2;go_meet;rw[az.o];exact⟨_,A⟩
      ·go_simp;go_at_call 96;refine(KG.o _).mono ?_;rintro e wg ⟨rfl,av⟩;have t:Ϟ W3 wg:=bR.drew.trans av;go_wp2_with fail;refine b.out _ _ (r.o _ t) (λd=>?_);clear b K
       try simp only[Act.put,sI,sZ,sSz]
       have d0:=cLz t W;have d1:=cLz t Y;have d2:=cLz t Z;refine rD 1 λK b=>?_;go_simp;refine b.out _ _ d (λd=>?_);clear b K
       try simp only[Act.put,sI,sZ,sSz]
       refine rD 6 λK b=>?_;go_simp;go_at_call 95;refine(KD.o _ t).mono ?_;rintro e wp ⟨⟨X,rfl,ah⟩,ag⟩;have I:Ϟ W3 wp:=bT t ag;go_wp2_with fail;refine b.out _ _ (r.o _ I) (λd=>?_);clear b K
       try simp only[Act.put,sI,sZ,sSz]
       refine takeB 7 53 d ?_;have ad:=ae.o.below I;have A:=ad.buf 1 (B:=B9) (X:=X) (A5 ah (Nat.le_trans ae.o.bl.size t.size)) 0 rfl;have M:∀j,j<9->Ξ wp q j:=λj hj=>by
        have:=(ad.room j hj).2;simpa using this
       have f0:=M 0 ϟ;have f1:=M 1 ϟ;have f2:=M 2 ϟ;have e0:=cLz I W;have e1:=cLz I Y;have e2:=cLz I Z;unfold hdV at A;refine rD 8 λK b=>?_;go_simp;refine b.out _ _ ⟨by have:=A.box;rw[<-af.o];exact this.2.2.2.2.2.2.2.1,A.plan⟩ (λd=>?_);clear b K;refine wpAnyH_done Ϣ ?_ _;go_wp2;go_meet;rw[az.o];exact⟨_,A⟩
    case rest=>
     rename World=>W4;obtain⟨y3,hd⟩:=hcut;have T:=hV0 hd;clear hd ae C;obtain⟨g,a2⟩:=nM (dropJ p m);have ap:ϝ (goodJ p g):=by rw[<-a2];exact IQ ab.o
     have ak:ϝ (g.lm=D/\g.rm=E):=by rw[<-a2];exact⟨aj.o,af.o⟩
     have ax:ϝ (F=if p.kind=3 then NO g else g):=by
      show _=_;rw[<-a6.o,<-a2];rfl
     rw[a2]at T;clear a2 ab a6 aj af;have v0:=T.o.plan.1;have H:=T.o.box.2.2.2.2.2.2.1;have C:=T.o.box.2.2.2.2.2.2.2.1;rw[ak.o.1]at H;rw[ak.o.2]at C;obtain⟨kk,bz⟩:=nM p.kind;rw[bz]at v0 ax;obtain⟨Q,hQ⟩:=nM (!(decide (kk=3)&&decide (D≠noMark)&&decide (E≠noMark)));have HQ:=hV0 hQ;clear bz hQ;go_upto_region 9 with fail
     go_cut [66] (λc wc=>wc=W4/\c= .bool Q)
     case first=>
      by_cases k3:kk=3
      ·have b1:(kk !=3)=false:=by rw[k3];rfl
       by_cases N:D=noMark
       ·have b2:(D== -1099511627777)=true:=by rw[N];rfl
        have M1:ϝ (D=noMark):=N;clear N;go_wp2;go_meet;exact⟨rfl,by rw[<-HQ.o,decide_eq_false (p:=D≠noMark) (λh=>h M1.o)];simp⟩
       ·have b2:(D== -1099511627777)=false:=by rw[beq_eq_false_iff_ne];exact N
        by_cases m2:E=noMark
        ·have b3:(E== -1099511627777)=true:=by rw[m2];rfl
         have M2:ϝ (E=noMark):=m2;clear m2;go_wp2;go_meet;exact⟨rfl,by rw[<-HQ.o,decide_eq_false (p:=E≠noMark) (λh=>h M2.o)];simp⟩
        ·have b3:(E== -1099511627777)=false:=by rw[beq_eq_false_iff_ne];exact m2
         go_wp2;go_meet;exact⟨rfl,by rw[<-HQ.o,decide_eq_true k3,decide_eq_true N,decide_eq_true m2];rfl⟩
      ·have b1:(kk !=3)=true:=by simpa using k3
       go_wp2;go_meet;exact⟨rfl,by rw[<-HQ.o,decide_eq_false k3];rfl⟩
     case rest=>
      obtain⟨b7,rfl⟩:=hcut;have cj:=b7.symm;subst cj;clear v0 H C b7
      cases Q with
      |true=>
       have ao:ϝ (F=g):=by
        show _=_;rw[ax.o];by_cases k3:kk=3
        ·rw[if_pos k3];refine Zx ap.o.ok ?_;rw[ak.o.1,ak.o.2];have:=HQ.o;simp only[Bool.not_eq_true',Bool.and_eq_false_iff,decide_eq_false_iff_not]at this;rcases this with(h|h)|h
         ·exact absurd k3 h
         ·exact .inl (Decidable.not_not.1 h)
         ·exact .inr (Decidable.not_not.1 h)
        ·exact if_neg k3
       clear ax HQ;obtain⟨W,Y,Z,c3,c4,c5,H,C,c8⟩:=T.o.box;have a0:ϝ (noJ _ (w+1+1+1)):=T.o.res;go_wp2_with ((with_reducible refine wpList_store_mid ?_ 31 (.tmp 6) (.tmp 67) ?_ (w.heap.size+1+1+1) 0 (Ψ g y3) ?_ ?_ ?_ ?_ ?_ ?_);exact rfl;exact rfl;exact rfl;exact rfl;exact a0.o;exact BU;exact Ϩ);clear W Y Z c3 c4 c5 H C c8;have HR:=It (R:=w.heap.size+1+1+1) ϟ a0.o T.o.rty ⟨T.o.l,T.o.r,CG.start T.o.bl.size⟩ T.o.bl;generalize (World.setCells _ (w.heap.size+1+1+1) 0 _)=W9 at HR⊢;obtain⟨⟨r0,r1,r2,r3,r4,r5,r6,r7,r8⟩,au⟩:=HR;exact bodyPost_ret (v:=joinV g y3) (by simp[results,results51,go_sem,A0,r0,r1,r2,r3,r4,r5,r6,r7,r8]) rfl ⟨⟨y3,by rw[ao.o],by rw[ao.o];exact au.1.l,by rw[ao.o];exact au.1.r⟩,au.2⟩
      |false=>
       have b4:kk=3/\D≠noMark/\E≠noMark:=by
        have:=HQ.o;simp only[Bool.not_eq_false',Bool.and_eq_true,decide_eq_true_eq]at this;exact⟨this.1.1,this.1.2,this.2⟩
       rw[if_pos b4.1]at ax;clear b4 HQ;obtain⟨am,ba⟩:=nM (min D E);have cd:(if E<D then E else D)=am:=by rw[<-ba];split<;>omega
       have cf:(if D<E then D else E)=am:=by rw[<-ba];split<;>omega
       have b9:ϝ (Mf g=am):=by
        show min g.lm g.rm=am;rw[ak.o.1,ak.o.2];exact ba
       have H:=T.o.box.2.2.2.2.2.2.1;have C:=T.o.box.2.2.2.2.2.2.2.1;rw[ak.o.1]at H;rw[ak.o.2]at C;go_upto_region 12 with fail;generalize U:(World.alloc W4 _)=W5;have bw:Ϟ W4 W5:=by rw[<-U];exact Ϫ
       have l0:Δ W5 W4 0 (vI am):=by subst U;go_simp
       clear U H C cd cf ba ak;have a5:ϝ (DSt w W5 p x s y ⟨kd,sd,tm,an⟩ ra rc q g y3):=T.o.below bw;have KA:ϝ (∀i,Ϟ W5 i->CT 43 #[.agg (Ω g.R y3.r)] i λe f=>(∃a c,e= .returned (vS a (AP (Aa g.R)).length c)/\Cz f a (AP (Aa g.R)))/\Ϟ i f):=λi hb=>by
        refine(FG g.R y3.r i (Ag a5.o.r.at hb) ap.o.ok.R).mono ?_;rintro e f ⟨⟨hh,es,l,he,ho,ci,hr⟩,ca⟩;have cg:l=AP (Aa g.R):=Ec ci (FZ hr) ap.o.ok.R.once;rw[cg]at ho;obtain⟨e1,e2,_⟩:=OE.entsAt ho;obtain⟨g1,g2,g3⟩:=hh;dsimp only at e1 e2;subst e1;exact⟨⟨g1,g3,he,e2⟩,ca⟩
       obtain⟨W,Y,Z,c3,c4,c5,H,C,c8⟩:=a5.o.box;go_upto_region 13 with(go_at_call 43;(with_reducible refine(KA.o _ bR).mono ?_);rintro e wl ⟨⟨la,lc,rfl,b0⟩,bx⟩);generalize U:(World.alloc wl _)=W6;have bm:Ϟ wl W6:=by rw[<-U];exact Ϫ
       have l1:Δ W6 wl 0 (vS la (AP (Aa g.R)).length lc):=by subst U;go_simp
       clear U W Y Z c3 c4 c5 H C c8 KA;have bk:Ϟ W5 W6:=bT bx bm;have ay:ϝ (DSt w W6 p x s y ⟨kd,sd,tm,an⟩ ra rc q g y3):=a5.o.below bk;have br:ϝ (Cz W6 la (AP (Aa g.R))):=Fv b0 bm;replace l0:=cLz bk l0;obtain⟨B8,bh⟩:=nM (Bt (λz=> !DO (AP (Aa g.R)) am z) g.R);have a8:ϝ ((∀l∈partsB g.R,l.length<=100000)/\g.R.runs.length<=100000/\∀y∈Aa g.R,y.row.length<=2000000):=⟨ap.o.ok.R.small.1,ap.o.ok.R.small.2.1,ap.o.ok.R.size.2⟩;have KO:ϝ (CT 93 #[.agg (Ω g.R y3.r),.func (.func 97) #[] #[μ wl,μ W4]] W6 λe f=>(∃X,e= .returned (.agg (Ω B8 X))/\OB f W6 X B8)/\Ϟ W6 f):=by
        have:=Qp 97 (enters_of func97 Ϣ rfl) #[μ wl,μ W4] (λz=> !DO (AP (Aa g.R)) am z) g.R y3.r W6 ay.o.r.at a8.o.1 a8.o.2.1 a8.o.2.2 (λe z w2 cc _ bj=>by
         have:=YB e (AP (Aa g.R)) am wl.heap.size W4.heap.size la lc w2 (cLz bj l1) (cLz bj l0) (Fv br.o bj) (by rw[(A9 _).length_eq];have:=ap.o.ok.R.all;omega);rw[TR cc]at this;exact this)
        rw[bh]at this;exact this
       have bp:ϝ (NO g=Av g 2 B8):=by
        show _=_;unfold NO;rw[b9.o,<-bh,MX (λz hz=>Zw ap.o.ok am hz)];rfl
       obtain⟨W,Y,Z,c3,c4,c5,H,C,c8⟩:=ay.o.box;clear bh l0 l1 br a5 T b0 a8 bw bx bm bk;have bq:ϝ (∀f,Ϟ W6 f->(Ξ f q 3/\Ξ f q 4/\Ξ f q 5)/\(∃u,Δ f q 3 u)/\(∃u,Δ f q 4 u)/\∃u,Δ f q 5 u):=λf hb=>by
        have h:=ay.o.below hb;have hf:∀j,j<9->Ξ f q j:=λj hj=>by
         have:=(h.room j hj).2;simpa using this
        exact⟨⟨hf 3 ϟ,hf 4 ϟ,hf 5 ϟ⟩,⟨_,h.box.2.2.2.1⟩,⟨_,h.box.2.2.2.2.1⟩,⟨_,h.box.2.2.2.2.2.1⟩⟩
       go_upto_region 14 with(go_at_call 93;refine KO.o.mono ?_;rintro e wp ⟨⟨X,rfl,ah⟩,ag⟩;obtain⟨⟨f3,f4,f5⟩,⟨z3,e3⟩,⟨z4,e4⟩,⟨z5,e5⟩⟩:=bq.o _ ag);have A:=(ay.o.below ag).buf 2 (B:=B8) (X:=X) (A5 ah ay.o.bl.size) 3 rfl;unfold hdV at A;have ao:ϝ (F=Av g 2 B8):=ax.o.trans bp.o;clear f3 f4 f5 e3 e4 e5 W Y Z c3 c4 c5 H C c8 bq KO ah;obtain⟨S4,bi⟩:=nM (Av g 2 B8);obtain⟨y4,b8⟩:=nM (GB y3 2 X);rw[bi,b8]at A;rw[bi]at ao;clear bi b8 bp ax;generalize bv:(World.setCell (World.setCell (World.setCell wp _ _) _ _) _ _)=W7;have ar:ϝ (DSt w W7 p x s y ⟨kd,sd,tm,an⟩ ra rc q S4 y4):=by rw[<-bv];exact A
       clear bv A;obtain⟨W,Y,Z,c3,c4,c5,H,C,c8⟩:=ar.o.box;have a0:ϝ (noJ _ (w+1+1+1)):=ar.o.res;go_wp2_with ((with_reducible refine wpList_store_mid ?_ 31 (.tmp 6) (.tmp 81) ?_ (w.heap.size+1+1+1) 0 (Ψ S4 y4) ?_ ?_ ?_ ?_ ?_ ?_);exact rfl;exact rfl;exact rfl;exact rfl;exact a0.o;exact BU;exact Ϩ);clear W Y Z c3 c4 c5 H C c8;have HR:=It (R:=w.heap.size+1+1+1) ϟ a0.o ar.o.rty ⟨ar.o.l,ar.o.r,CG.start ar.o.bl.size⟩ ar.o.bl;generalize (World.setCells _ (w.heap.size+1+1+1) 0 _)=W9 at HR⊢;obtain⟨⟨r0,r1,r2,r3,r4,r5,r6,r7,r8⟩,au⟩:=HR;exact bodyPost_ret (v:=joinV S4 y4) (by simp[results,results51,go_sem,A0,r0,r1,r2,r3,r4,r5,r6,r7,r8]) rfl ⟨⟨y4,by rw[ao.o],by rw[ao.o];exact au.1.l,by rw[ao.o];exact au.1.r⟩,au.2⟩
end jn
end Go.Proofs.YtdohnkkbkfhphaaGreat
