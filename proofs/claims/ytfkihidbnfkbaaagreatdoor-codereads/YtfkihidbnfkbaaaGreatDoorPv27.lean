import Derived.Test.YtfkihidbnfkbaaaGreatDoorPv26
set_option linter.all false
set_option maxHeartbeats 8000000
set_option maxRecDepth 100000
open List renaming length->ϲ
namespace Go.Proofs.YtfkihidbnfkbaaaGreatDoor
open ChangeShapes WideShapes ChangeAt RowKit List Proofs.Tryz
namespace jn
open vl bf
attribute [local go_sem] Oper.semAt_some
variable {w w0 : ϟ} {b base i k : Nat} {p : pl.Pln} {x : pl.PA} {s : Jn} {y : JX} {t v : Value} {T : TypeId} {L : List CO}
def Lv(h:boxP w b p x)(z:13<=k)(u:Value):boxP (ό w b k u) b p x:=by
 obtain⟨a,c,g,j,l,m,n,o,q,r,d,e,f⟩:=h;exact⟨cell_far a ϣ,cell_far c ϣ,cell_far g ϣ,cell_far j ϣ,cell_far l ϣ,cell_far m ϣ,cell_far n ϣ,cell_far o ϣ,cell_far q ϣ,cell_far r ϣ,cell_far d ϣ,cell_far e ϣ,cell_far f ϣ⟩
def Lw{n:Nat}(h:w.there b 0 n)(q:Nat)(u:Value):(w.setCell ⟨q,k,none⟩ u).there b 0 n:=λj a=>⟨by
 obtain⟨v,c⟩:=cD.1 (h j a).1;obtain⟨e,d⟩:=fw (p:=⟨q,k,none⟩) (x:=u) c;rw[d];rfl,by rw[aD];exact(h j a).2⟩
def Aci(h:boxC w b p x s y t)(n:Int):boxC (ό w b 21 (vI n)) b p x ⟨s.L,s.R,s.lm,s.rm,n⟩ y t:=by
 refine⟨Lv h.plan ϣ _,?_,cell_far h.told ϣ,Lw h.room _ _⟩;obtain⟨u0,u1,u2,u3,u4,u5,u6,u7,u8⟩:=h.join;exact⟨cell_far u0 ϣ,cell_far u1 ϣ,cell_far u2 ϣ,cell_far u3 ϣ,cell_far u4 ϣ,cell_far u5 ϣ,cell_far u6 ϣ,cell_far u7 ϣ,JR _ _ _ u8⟩
def MS(y:JX)(side:Int)(z:BX):JX:=if side=2 then⟨y.l,z⟩else⟨z,y.r⟩
def Cj(h:Δ w b i v)(h0:k≠i)(h1:k+1≠i)(a:k+1+1≠i)(u0 u1 u2:Value):Δ (ό (ό (ό w b k u0) b (k+1) u1) b (k+1+1) u2) b i v:=cell_far (cell_far (cell_far h h0) h1) a
def XZ(h:Δ w b k v)(u0 u1 u2:Value):Δ (ό (ό (ό w b k u0) b (k+1) u1) b (k+1+1) u2) b k u0:=cell_far (cell_far (JR _ _ _ h) ϣ) ϣ
def Ya(h:Δ w b (k+1) v)(u0 u1 u2:Value):Δ (ό (ό (ό w b k u0) b (k+1) u1) b (k+1+1) u2) b (k+1) u1:=cell_far (JR _ _ _ (cell_far h ϣ)) ϣ
def Yb(h:Δ w b (k+1+1) v)(u0 u1 u2:Value):Δ (ό (ό (ό w b k u0) b (k+1) u1) b (k+1+1) u2) b (k+1+1) u2:=JR _ _ _ (cell_far (cell_far h ϣ) ϣ)
theorem Acj(h:boxC w b p x s y t)(side:Int)(B:Buf)(X:BX)(k:Nat)(a:13+A6 side=k):boxC (ό (ό (ό w b k (vI B.lim)) b (k+1) (hdV X.m.1)) b (k+1+1) (vS X.ra (ϲ X.rs) X.rc)) b p x (AP s side B) (MS y side X) t:=by
 have c:A6 side=0\/A6 side=3:=by unfold A6;split<;>simp
 refine⟨Lv (Lv (Lv h.plan ϣ _) ϣ _) ϣ _,?_,Cj h.told ϣ ϣ ϣ _ _ _,Lw (Lw (Lw h.room _ _) _ _) _ _⟩;obtain⟨u0,u1,u2,u3,u4,u5,u6,u7,u8⟩:=h.join;unfold A6 at a;unfold AP MS;by_cases e:side=2
 ·rw[AE e]at a;subst a;rw[AE e,AE e];refine⟨Cj u0 ϣ ϣ ϣ _ _ _,Cj u1 ϣ ϣ ϣ _ _ _,Cj u2 ϣ ϣ ϣ _ _ _,XZ u3 _ _ _,Ya u4 _ _ _,Yb u5 _ _ _,Cj u6 ϣ ϣ ϣ _ _ _,Cj u7 ϣ ϣ ϣ _ _ _,Cj u8 ϣ ϣ ϣ _ _ _⟩
 ·rw[AC e]at a;subst a;rw[AC e,AC e];refine⟨XZ u0 _ _ _,Ya u1 _ _ _,Yb u2 _ _ _,Cj u3 ϣ ϣ ϣ _ _ _,Cj u4 ϣ ϣ ϣ _ _ _,Cj u5 ϣ ϣ ϣ _ _ _,Cj u6 ϣ ϣ ϣ _ _ _,Cj u7 ϣ ϣ ϣ _ _ _,Cj u8 ϣ ϣ ϣ _ _ _⟩
def FJ{q:Nat}(h:Δ w q i v)(a:b≠q)(u0 u1 u2:Value):Δ (ό (ό (ό w b k u0) b (k+1) u1) b (k+1+1) u2) q i v:=
 have ne:∀j,(⟨b,j,none⟩:Addr)≠⟨q,i,none⟩:=λj e=>a (by injection e)
 ((bJ _ _ _ _ (ne _)).trans ((bJ _ _ _ _ (ne _)).trans (bJ _ _ _ _ (ne _)))).trans h
def Ws{q:Addr}(h:w.frozen? q=false)(u0 u1 u2:Value):(((w.setCell ⟨b,k,none⟩ u0).setCell ⟨b,k+1,none⟩ u1).setCell ⟨b,k+1+1,none⟩ u2).frozen? q=false:=by
 rw[aD,aD,aD];exact h
def Q4(s:Jn)(side:Int)(B:Buf):(AP s side B).lm=s.lm/\(AP s side B).rm=s.rm/\(AP s side B).seq=s.seq:=by unfold AP;split<;>exact⟨rfl,rfl,rfl⟩
def F6(h:Am w b T)(k:Nat)(u:Value):Cv T w (ό w b k u):=⟨(RK 0 w).setCell (At _) u,λg e d c _ _=>CB _ _ _ _ (λa=>tyAt_apart d h c a)⟩
def Ja(h:Am w b T)(k:Nat)(u0 u1 u2:Value):Cv T w (ό (ό (ό w b k u0) b (k+1) u1) b (k+1+1) u2):=
 ((F6 h _ _).trans (F6 (tyAt_set h _ _) _ _)).trans (F6 (tyAt_set (tyAt_set h _ _) _ _) _ _)
def Lx(h:CG w base v L)(c:Am w b T)(a:calmC T)(k:Nat)(u:Value):CG (ό w b k u) base v L:=P6 h c a.c a.t.v k u
def Wt(h:JSt w0 w b T p x s y t L)(a:calmC T)(n:Int):JSt w0 (ό w b 21 (vI n)) b T p x ⟨s.L,s.R,s.lm,s.rm,n⟩ y t L:=
 ⟨Aci h.box n,tyAt_set h.ty _ _,h.up,Hf h.l h.ty a.t _ _,Hf h.r h.ty a.t _ _,h.ap,Lx h.cg h.ty a _ _,h.bl.setCell h.up _⟩
def AeE(h:JSt w0 w b T p x s y t L)(c:calmC T)(side a:Int):JSt w0 (ό w b (13+BN side) (vI a)) b T p x (Fy s side a) y t L:=by
 have e:(Fy s side a).L=s.L/\(Fy s side a).R=s.R:=by unfold Fy;split<;>exact⟨rfl,rfl⟩
 exact⟨AaF h.box side a,tyAt_set h.ty _ _,h.up,by rw[e.1];exact Hf h.l h.ty c.t _ _,by rw[e.2];exact Hf h.r h.ty c.t _ _,h.ap,Lx h.cg h.ty c _ _,h.bl.setCell h.up _⟩
theorem Wu{d:ϟ}(h:JSt w0 w b T p x s y t L)(c:calmC T)(D:Ϣ w d)(side:Int){B:Buf}{X:BX}(l:OB d base X B)(j:w.heap.size<=base)(k:Nat)(E:13+A6 side=k):
 JSt w0 (ό (ό (ό d b k (vI B.lim)) b (k+1) (hdV X.m.1)) b (k+1+1) (vS X.ra (ϲ X.rs) X.rc)) b T p x (AP s side B) (MS y side X) t L:=by
 have a:=h.below D;have n:=a.ty;have o:=tyAt_set n ⟨b,k,none⟩ (vI B.lim);have g:=tyAt_set o ⟨b,k+1,none⟩ (hdV X.m.1);have m:∀{r:Nat} {Z:BX} {C:Buf},OB d r Z C->OB (ό (ό (ό d b k (vI B.lim)) b (k+1) (hdV X.m.1)) b (k+1+1) (vS X.ra (ϲ X.rs) X.rc)) r Z C:=λI=>Hf (Hf (Hf I n c.t _ _) o c.t _ _) g c.t _ _;have F:w0.heap.size<=base:=B0 h.bl.size j;have A:=m (CL l F);have z:=Lx (Lx (Lx a.cg n c k (vI B.lim)) o c (k+1) (hdV X.m.1)) g c (k+1+1) (vS X.ra (ϲ X.rs) X.rc);have u:=((a.bl.setCell (p:=⟨b,k,none⟩) h.up (vI B.lim)).setCell (p:=⟨b,k+1,none⟩) h.up (hdV X.m.1)).setCell (p:=⟨b,k+1+1,none⟩) h.up (vS X.ra (ϲ X.rs) X.rc);have f:=Acj a.box side B X k E;unfold AP MS at *;by_cases e:side=2
 ·rw[AE e,AE e]at f;rw[AE e,AE e];exact⟨f,tyAt_set g _ _,h.up,m a.l,A,P4 h.l l j,z,u⟩
 ·rw[AC e,AC e]at f;rw[AC e,AC e];exact⟨f,tyAt_set g _ _,h.up,A,m a.r,λp G q H=>O5 (P4 h.r l j q H p G),z,u⟩
def Kb(p:pl.Pln)(s:Jn):Nat->Jn
 |0=>s
 |1=>⟨Ei (Fe (Df p s 1)) s.L,s.R,s.lm,s.rm,s.seq⟩
 |_=>Nh p s
theorem Ack(h:k<2):pl.Bw ((k:Int)+1)=true/\Ar (Kb p s k) ((k:Int)+1)=Ar s ((k:Int)+1)/\Df p (Kb p s k) ((k:Int)+1)=Df p s ((k:Int)+1)/\AP (Kb p s k) ((k:Int)+1) (Ei (Fe (Df p s ((k:Int)+1))) (Ar s ((k:Int)+1)))=Kb p s (k+1):=by
 match k,h with
 |0,_=>exact⟨Ϥ,rfl,rfl,rfl⟩
 |1,_=>exact⟨Ϥ,rfl,rfl,rfl⟩
theorem Wv(b:Nat)(T:TypeId)(p:pl.Pln)(x:pl.PA)(s:Jn)(y:JX)(t:Value)(L:List CO)(w0 w:ϟ)(h:JSt w0 w b T p x s y t L)(hT:calmC T)(ai:T≠3)(hw:pl.wfPlan p)(hp:pl.planAt w0 p x)(hg:goodJ p s):
 χ 338 #[ω b] w λe A=>e= .returned (.tuple #[])/\∃j,JSt w0 A b T p x (Nh p s) j t L/\Cv T w A:=by
 have HJ:=hV0 h;have HG:=hV0 hg;have ah:ϡ (pl.wfPlan p/\pl.planAt w0 p x):=⟨hw,hp⟩;clear h hg hw hp;go_enter func338,ntmps338;go_wp2;generalize F:(World.alloc w _)=V;have aj:Ϣ w V:=by rw[<-F];exact Ϯ
 have J:Δ V w 0 (vI 1):=by subst F;go_simp
 have M:Δ V w 1 (vI 2):=by subst F;go_simp
 have ag:ϡ (Am V w 3):=by subst F;exact⟨_,_,DE w _⟩
 clear F
 go_loopw [7] (λi wr=> ∃(k:Nat) (j:JX),k<=2/\i=vI k/\ϡ (JSt w0 wr b T p x (Kb p s k) j t L)/\ϡ (Cv T V wr)) (λi _=>2 - (intOf i).toNat)
 case atStart=>exact⟨0,y,ϣ,rfl,HJ.o.below aj,Bi bR⟩
 case round=>
  obtain⟨k,j,hk,rfl,g,E⟩:=hrel;have J:=E.o.cell ag.o ai.symm Ϥ Ϥ J;have M:=E.o.cell ag.o ai.symm Ϥ Ϥ M;by_cases am:k<2
  ·have i1:=nn0 k;have i2:(k:Int)<2:=ϣ;have ac:Δ wr w k (vI ((k:Int)+1)):=by
    match k,am with
    |0,_=>exact J
    |1,_=>exact M
   clear J M;obtain⟨d1,N,d3,d4⟩:=Ack (p:=p) (s:=s) am;obtain⟨l,ab⟩:=nM (Ei (Fe (Df p s ((k:Int)+1))) (Ar s ((k:Int)+1)));rw[ab]at d4;have O:=HG.o.of ((k:Int)+1);have o:bufAt wr (Ar s ((k:Int)+1)) (BZ j ((k:Int)+1)):=by
    rw[<-N];unfold Ar BZ;split
    ·exact g.o.r.at
    ·exact g.o.l.at
   have D:=JN g.o.box.join ((k:Int)+1);rw[N]at D;have I:ϡ (∀c,Ϣ wr c->CT 344 #[ω b,vI ((k:Int)+1)] c (ψ c (vI (Df p s ((k:Int)+1))))):=λc C=>by
    have:=L1 b p x (Kb p s k) j t ((k:Int)+1) c ah.o.1 (pl.Ae ah.o.2 (g.o.bl.trans (C.mono g.o.bl.size))) (g.o.below C).box d1;rw[d3]at this;exact this
   have KB:ϡ (∀c,CT 252 #[.pointer (some ⟨b,13,none⟩),vI ((k:Int)+1)] c λe A=>e= .returned (.pointer (some ⟨b,13+A6 ((k:Int)+1),none⟩))/\A=c):=λc=>He b 13 _ c;have z:ϡ (∀c,Ϣ wr c->CT 343 #[Bh (Ar s ((k:Int)+1)) (BZ j ((k:Int)+1)),vI (Df p s ((k:Int)+1))] c λe A=>(∃X,e= .returned (.tuple #[Bh l X,Ϗ])/\OB A c X l)/\Ϣ c A):=λc C=>by
    have:=Aef (Ar s ((k:Int)+1)) (BZ j ((k:Int)+1)) (Df p s ((k:Int)+1)) c (Ao o C) O.2 (by have:=O.1.all;omega) (Gh O.1);rw[ab]at this;exact this
   have B:ϡ (∀c,Ϣ wr c->∀i,i<23->Ξ c b i):=λc C i hi=>by
    have:=((g.o.below C).box.room i hi).2;simpa using this
   have an:A6 ((k:Int)+1)=0\/A6 ((k:Int)+1)=3:=by unfold A6;split<;>simp
   obtain⟨q,hq⟩:=nM (13+A6 ((k:Int)+1));have Z:=hV0 hq;have ar:13<=q/\q<=16:=ϣ;obtain⟨G,hG⟩:=nM (Df p s ((k:Int)+1));obtain⟨bo,ak⟩:=nM (Ar s ((k:Int)+1));obtain⟨bx,al⟩:=nM (BZ j ((k:Int)+1));obtain⟨H,P⟩:=nM ((k:Int)+1);have af:ϡ (AP (Kb p s k) H l=Kb p s (k+1)):=by show _=_;rw[<-P];exact d4
   have ap:=hV0 P;rw[hG]at I z;rw[ak,al]at z D;rw[hq]at KB D;rw[P]at I KB Z ac;obtain⟨aw,ax,⟨⟨m1,m2,m3⟩,ml⟩,rs⟩:=bx;obtain⟨au,av,ay⟩:=bo;unfold Bh hdV at z;dsimp only at z D;obtain⟨n,hn⟩:=nM (ϲ rs);rw[hn]at z D;obtain⟨Q,R,U⟩:=D;have lb:b<wr.heap.size:=g.o.box.lt;clear d1 N d3 d4 ab O o an hq hG ak al hn P;go_wp2_with (go_at_call 252;refine(KB.o _).mono ?_;rintro e wr ⟨rfl,rfl⟩);refine gr.CZ 13 rfl Ϧ (S:=λ_=>True) trivial (λd=>?_)
   iterate 3 refine C9 13 d ?_
   refine tkz 4 21 d ?_;refine tkz 5 22 d ?_;refine fR (rs:=[3,6]) Ϧ ϥ ?_;refine dI rfl (λK a=>?_) (dI rfl (λK a=>?_) fS)
   ·go_simp;refine a.out _ _ trivial (λd=>?_);clear a K
    try simp only[Act.put,sI,sZ,sSz]
    refine rD 6 λK a=>?_;go_simp;go_at_call 344;refine(I.o _ bR.drew).mono ?_;rintro e wg ⟨rfl,ad⟩;have r:Ϣ wr wg:=bR.drew.trans ad;go_wp2_with fail;refine a.out _ _ trivial (λd=>?_);clear a K
    try simp only[Act.put,sI,sZ,sSz]
    refine rD 7 λK a=>?_;go_simp;go_at_call 343;refine(z.o _ r).mono ?_;rintro e m ⟨⟨X,rfl,o⟩,ae⟩;have f:Ϣ wr m:=bT r ae;go_wp2_with fail;refine a.out _ _ trivial (λd=>?_);clear a K
    try simp only[Act.put,sI,sZ,sSz]
    refine tkz 8 16 d ?_;refine tkz 9 25 d ?_;refine tkz 10 26 d ?_;refine tkz 11 27 d ?_;have Y:ϡ (OB m wr X l):=CL o r.size;have f0:=B.o _ f q ϣ;have f1:=B.o _ f (q+1) ϣ;have f2:=B.o _ f (q+1+1) ϣ;obtain⟨e0,e1,e2⟩:=lk3 f Q R U;clear o;refine rD 12 λK a=>?_;go_simp;refine a.out _ _ trivial (λd=>?_);clear a K;refine GT Ϧ ?_ _;have W:ϡ (Cv T wr (ό (ό (ό m b q (vI l.lim)) b (q+1) (vS X.m.1.1 X.m.1.2.1 X.m.1.2.2)) b (q+1+1) (vS X.ra (ϲ X.rs) X.rc))):=(Bi f).trans (Ja (g.o.below f).ty q _ _ _);have u:=Wu g.o hT f H Y.o nR q Z.o;unfold hdV at u;generalize (((m.setCell ⟨b,q,none⟩ (vI l.lim)).setCell ⟨b,q+1,none⟩ (vS X.m.1.1 X.m.1.2.1 X.m.1.2.2)).setCell ⟨b,q+1+1,none⟩ (vS X.ra (ϲ X.rs) X.rc))=W4 at *;have aa:ϡ (JSt w0 W4 b T p x (Kb p s (k+1)) (MS j H X) t L):=by
     show JSt _ _ _ _ _ _ _ _ _ _;rw[<-af.o];exact u
    clear u;go_wp2;go_roundw
    (case rel=>exact⟨k+1,_,ϣ,by go_num,aa,E.o.trans W.o⟩)
    (case measure=>simp[intOf];omega)
   ·go_simp;go_at_call 344;refine(I.o _ bR.drew).mono ?_;rintro e wg ⟨rfl,ad⟩;have r:Ϣ wr wg:=bR.drew.trans ad;go_wp2_with fail;refine a.out _ _ trivial (λd=>?_);clear a K
    try simp only[Act.put,sI,sZ,sSz]
    obtain⟨d0,d1,N⟩:=lk3 r Q R U;refine rD 3 λK a=>?_;go_simp;refine a.out _ _ trivial (λd=>?_);clear a K
    try simp only[Act.put,sI,sZ,sSz]
    refine rD 7 λK a=>?_;go_simp;go_at_call 343;refine(z.o _ r).mono ?_;rintro e m ⟨⟨X,rfl,o⟩,ae⟩;have f:Ϣ wr m:=bT r ae;go_wp2_with fail;refine a.out _ _ trivial (λd=>?_);clear a K
    try simp only[Act.put,sI,sZ,sSz]
    refine tkz 8 16 d ?_;refine tkz 9 25 d ?_;refine tkz 10 26 d ?_;refine tkz 11 27 d ?_;have Y:ϡ (OB m wr X l):=CL o r.size;have f0:=B.o _ f q ϣ;have f1:=B.o _ f (q+1) ϣ;have f2:=B.o _ f (q+1+1) ϣ;obtain⟨e0,e1,e2⟩:=lk3 f Q R U;clear o;refine rD 12 λK a=>?_;go_simp;refine a.out _ _ trivial (λd=>?_);clear a K;refine GT Ϧ ?_ _;have W:ϡ (Cv T wr (ό (ό (ό m b q (vI l.lim)) b (q+1) (vS X.m.1.1 X.m.1.2.1 X.m.1.2.2)) b (q+1+1) (vS X.ra (ϲ X.rs) X.rc))):=(Bi f).trans (Ja (g.o.below f).ty q _ _ _);have u:=Wu g.o hT f H Y.o nR q Z.o;unfold hdV at u;generalize (((m.setCell ⟨b,q,none⟩ (vI l.lim)).setCell ⟨b,q+1,none⟩ (vS X.m.1.1 X.m.1.2.1 X.m.1.2.2)).setCell ⟨b,q+1+1,none⟩ (vS X.ra (ϲ X.rs) X.rc))=W4 at *;have aa:ϡ (JSt w0 W4 b T p x (Kb p s (k+1)) (MS j H X) t L):=by
     show JSt _ _ _ _ _ _ _ _ _ _;rw[<-af.o];exact u
    clear u;go_wp2;go_roundw
    (case rel=>exact⟨k+1,_,ϣ,by go_num,aa,E.o.trans W.o⟩)
    (case measure=>simp[intOf];omega)
  ·have ao:k=2:=ϣ;subst ao;have aq:¬(((2:Nat):Int)<2):=ϣ;go_wp2;exact cH (v:=.tuple #[]) (by simp[results,results338,go_sem]) rfl ⟨rfl,⟨j,g.o⟩,(Bi aj).trans E.o⟩
def Acl{b:Buf}{y:Ent}{l:List Ent}(h:okB b)(j:bf.hasB (Ab b) (AJ y)=false)(n:l.Perm (b.mem++[y]))(g:Nq l):IE b l=Dr b y:=by
 unfold Dr;have m:((b.mem++[y]).map AJ).Nodup:=by
  have f:(b.mem.map AJ).Nodup:=by
   have:=h.once;rw[E6,DQ]at this;exact(aK.1 this).1
  rw[DQ];refine aK.2 ⟨f,ϥ,λa ha c d e=>?_⟩;have d:c=AJ y:=by simpa using d
  subst d e;have:=RO j;refine this ?_;rw[E6,DQ];exact Fk.2 (.inl ha)
 rw[LR n g m]
theorem C8(b:Nat)(T:TypeId)(p:pl.Pln)(x:pl.PA)(s:Jn)(y:JX)(t:Value)(L:List CO)(v:Ev)(l:Ϡ)(o:Nat)(met:Bool)(w0 w:ϟ)(h:JSt w0 w b T p x s y t L)(hT:calmC T)(hw:pl.wfPlan p)(hp:pl.planAt w0 p x)(Y:goodJ p s)(hc:comeJ p s v)(hv:evAt w0 v l):
 χ 340 #[ω b,Ep p v l o,.bool met] w λe c=>e= .returned (.tuple #[])/\∃y',JSt w0 c b T p x (Fs p s v met) y' t L/\Cv T w c:=by
 have R:=hV0 h;have F:ϡ (∀a,Below (w.heap.size+1) (ϊ w #[vI v.side,vI v.time,vS l (ϲ v.row) o,.string (pl.A0 p v.side v.row),.bool (pl.hasB p v.side v.row)] 208) a->CT 344 #[ω b,vI v.side] a (ψ a (vI (Df p s v.side)))):=λa u=>by
  have aw:Ϣ w a:=Ϯ.trans (u.mono (PS _));exact L1 b p x s y t v.side a hw (pl.Ae hp (h.bl.trans (aw.mono h.bl.size))) (h.below aw).box hc.side
 have KB:ϡ (∀a,CT 252 #[.pointer (some ⟨b,13,none⟩),vI v.side] a λe c=>e= .returned (.pointer (some ⟨b,13+A6 v.side,none⟩))/\c=a):=λa=>He b 13 v.side a;have N:A6 v.side=0\/A6 v.side=3:=by unfold A6;split<;>simp
 have aa:ϡ (∀a,Ϣ w a->Δ a b (13+A6 v.side) (vI (Ar s v.side).lim)/\Δ a b (13+A6 v.side+1) (vS (BZ y v.side).m.1.1 (BZ y v.side).m.1.2.1 (BZ y v.side).m.1.2.2)/\Δ a b (13+A6 v.side+2) (vS (BZ y v.side).ra (ϲ (BZ y v.side).rs) (BZ y v.side).rc)):=λa u=>JN (h.below u).box.join v.side;have Q:ϡ (∀a,Ϣ w a->∀i,i<23->Ξ a b i):=λa u i hi=>by
  have:=((h.below u).box.room i hi).2;simpa using this
 have ag:ϡ (∀a,Ϣ w a->Δ a b 21 (vI s.seq)):=λa u=>(h.below u).box.join.2.2.2.2.2.2.2.2;have ae:bufAt w (Ar s v.side) (BZ y v.side):=by
  unfold Ar BZ;split
  ·exact h.r.at
  ·exact h.l.at
 have B:ϡ (pl.hasB p v.side v.row=true->Df p s v.side<v.time->∀a,Ϣ w a->CT 345 #[Bh (Ar s v.side) (BZ y v.side),(⟨pl.A0 p v.side v.row,v.time,s.seq,(l,ϲ v.row,o),met⟩:EM).val] a λr c=>(∃X,r= .returned (.tuple #[Bh (Dr (Ar s v.side) ⟨pl.A0 p v.side v.row,v.time,s.seq,v.row,met⟩) X,Ϗ])/\OB c a X (Dr (Ar s v.side) ⟨pl.A0 p v.side v.row,v.time,s.seq,v.row,met⟩))/\Ϣ a c):=λhh Z a u=>by
  obtain⟨hf,bm⟩:=UX (met:=met) hh hv.wf hc.time Y.ok.sq;have az:bf.hasB (Ab (Ar s v.side)) (pl.A0 p v.side v.row,v.time,s.seq)=false:=QW (λz f=>Y.ok.below z (by
   unfold Ar at f;split at f
   ·exact Fk.2 (.inr f)
   ·exact Fk.2 (.inl f)))
  have ok:=(Y.of v.side).1;have bj:vl.rowAt a l v.row:=vl.Ac hv.row (h.bl.trans (u.mono h.bl.size));refine(Ago (Ar s v.side) (BZ y v.side) ⟨pl.A0 p v.side v.row,v.time,s.seq,(l,ϲ v.row,o),met⟩ ⟨pl.A0 p v.side v.row,v.time,s.seq,v.row,met⟩ a (Ao ae u) (Y.of v.side).2 (by have:=ok.all;omega) (Gh ok) ⟨rfl,rfl,rfl,rfl,rfl,bj⟩ ⟨B0 bm Ϥ,hv.wf,hv.len⟩ (Ge hf) az hc.few).mono ?_;rintro r c ⟨⟨x',l',rfl,bi,bg,ho⟩,bd⟩;have e:=Acl (y:=⟨pl.A0 p v.side v.row,v.time,s.seq,v.row,met⟩) ok az bi bg;rw[e]at ho⊢;exact⟨⟨x',rfl,ho⟩,bd⟩
 have A:ϡ (Fs p s v met=if pl.hasB p v.side v.row=true/\Df p s v.side<v.time then⟨(AP s v.side (Dr (Ar s v.side) ⟨pl.A0 p v.side v.row,v.time,s.seq,v.row,met⟩)).L,(AP s v.side (Dr (Ar s v.side) ⟨pl.A0 p v.side v.row,v.time,s.seq,v.row,met⟩)).R,s.lm,s.rm,s.seq+1⟩else⟨s.L,s.R,s.lm,s.rm,s.seq+1⟩):=by
  show _=_;unfold Fs;split
  ·unfold AP;split<;>rfl
  ·rfl
 have bk:=Y.ok.sq;have bn:IntKind.i64.wrap (s.seq+1)=s.seq+1:=by rw[ch.Cr];omega
 have lb:=h.box.lt;obtain⟨KJ,au⟩:=nM (Fs p s v met);rw[au]at A⊢;obtain⟨C,av⟩:=nM (Dr (Ar s v.side) ⟨pl.A0 p v.side v.row,v.time,s.seq,v.row,met⟩);rw[av]at A B;unfold Ep;obtain⟨D,h1⟩:=nM (pl.A0 p v.side v.row);obtain⟨kh,h2⟩:=nM (pl.hasB p v.side v.row);obtain⟨E,a0⟩:=nM (ϲ v.row);obtain⟨G,hG⟩:=nM (Df p s v.side);obtain⟨P,a2⟩:=nM s.seq;rw[hG]at F A B;rw[h1,h2,a0]at F B⊢;rw[h2]at A;rw[a2]at ag bn B A bk;obtain⟨k,hk⟩:=nM (13+A6 v.side);have al:=hV0 hk;rw[hk]at KB aa;obtain⟨bo,ax⟩:=nM (Ar s v.side);obtain⟨bx,ay⟩:=nM (BZ y v.side);rw[ax,ay]at aa B;obtain⟨j,a1⟩:=nM v.side;obtain⟨q,a4⟩:=nM v.time;rw[a1]at F KB A al⊢;rw[a4]at F B A⊢;have bu:13<=k/\k<=16:=ϣ;obtain⟨bq,br,⟨⟨m1,m2,m3⟩,ml⟩,rs⟩:=bx;obtain⟨bp,bv,bw⟩:=bo;unfold Bh hdV EM.val at B;dsimp only at B aa;obtain⟨n,hn⟩:=nM (ϲ rs);rw[hn]at B aa;clear h hw hp Y hc hv ae au av h1 h2 a0 hG a2 hk ax ay a1 a4 hn N;go_enter func340,ntmps340;go_wp2;generalize H:(World.alloc w _)=V at F⊢;have M:Ϣ w V:=by rw[<-H];exact Ϯ
 have a5:V.heap.size=w.heap.size+1:=by rw[<-H];simp
 rw[<-a5]at F;obtain⟨m,I⟩:=nM w.heap.size;rw[I]at a5;have s0:Δ V m 0 (vI j):=by subst H;rw[<-I];go_simp
 have s1:Δ V m 1 (vI q):=by subst H;rw[<-I];go_simp
 have s2:Δ V m 2 (vS l E o):=by subst H;rw[<-I];go_simp
 have s3:Δ V m 3 (.string D):=by subst H;rw[<-I];go_simp
 have s4:Δ V m 4 (.bool kh):=by subst H;rw[<-I];go_simp
 clear H;have U:ϡ (∀c,Ϣ V c->ϖ c m (vI j) (vI q) (vS l E o) (.string D) (.bool kh)):=λc f=>⟨cLz f s0,cLz f s1,cLz f s2,cLz f s3,cLz f s4⟩;rw[I]
 cases kh with
 |false=>
  refine gr.CZ 11 rfl Ϧ (S:=λc=>ϖ c m (vI j) (vI q) (vS l E o) (.string D) (.bool false)) (U.o _ bR.drew) (λd=>?_)
  iterate 11 first|refine C9 11 d ?_|refine Hd 11 d ?_
  refine GT Ϧ ?_ _;have ab:ϡ (KJ=⟨s.L,s.R,s.lm,s.rm,P+1⟩):=by show _=_;rw[A.o,AC ϥ]
  have aq:=ag.o _ M;have ar:=Q.o _ M 21 ϣ;go_wp2;refine cH (v:=.tuple #[]) (by simp[results,results340,go_sem]) rfl ⟨rfl,y,?_,?_⟩
  ·rw[ab.o];exact Wt ((R.o.below M).below bR.drew) hT _
  ·exact(Bi M.drew).trans (F6 ((R.o.below M).below bR.drew).ty _ _)
 |true=>
  by_cases Z:G<q
  ·have bh:=pl.EH (x:=q) (y:=G) true (by simpa using Z);refine gr.CZ 11 rfl Ϧ (S:=λc=>ϖ c m (vI j) (vI q) (vS l E o) (.string D) (.bool true)) (U.o _ bR.drew) (λd=>?_)
   iterate 8 refine C9 11 d ?_
   refine rD 8 λK g=>?_;go_simp;go_at_call 344;refine(F.o _ bR.drew).mono ?_;rintro e wg ⟨rfl,ak⟩;have O:Ϣ V wg:=bR.drew.trans ak;go_wp2_with fail;refine g.out _ _ (U.o _ O) (λd=>?_);clear g K
   try simp only[Act.put,sI,sZ,sSz]
   refine tkz 9 16 d ?_;refine tkz 10 17 d ?_;refine GT Ϧ ?_ _;have ab:ϡ (KJ=⟨(AP s j C).L,(AP s j C).R,s.lm,s.rm,P+1⟩):=by show _=_;rw[A.o,AE ⟨trivial,Z⟩]
   have ao:=B.o trivial Z;have bb:ϡ (∀c,Ϣ wg c->ϖ c m (vI j) (vI q) (vS l E o) (.string D) (.bool true)):=λc f=>U.o _ (bT O f);go_wp2;refine gr.CZ 7 rfl Ϧ (S:=λc=>ϖ c m (vI j) (vI q) (vS l E o) (.string D) (.bool true)) (bb.o _ bR.drew) (λd=>?_)
   iterate 5 refine C9 7 d ?_
   refine rD 5 λK g=>?_;go_simp;go_at_call 252;refine(KB.o _).mono ?_;rintro e wq ⟨rfl,rfl⟩;go_wp2_with fail;refine g.out _ _ d (λd=>?_);clear g K
   try simp only[Act.put,sI,sZ,sSz]
   refine tkz 6 6 d ?_;refine GT Ϧ ?_ _;go_wp2;generalize aj:wg.drew=W3;have N:Ϣ w W3:=by rw[<-aj];exact(bT M O).drew
   have af:Ϣ V W3:=by rw[<-aj];exact O.drew
   clear aj;have bc:ϡ (∀a,Ϣ W3 a->CT 345 #[.agg (τ bp m1 m2 m3 bq n br),.agg (φ D q P l E o met)] a λr c=>(∃X,r= .returned (.tuple #[.agg (Ω C X),Ϗ])/\OB c a X C)/\Ϣ a c):=λa u=>ao a (bT N u);obtain⟨a6,a7,a8⟩:=aa.o _ N;have bs:=ag.o _ N;have ap:ϡ (∀c,Ϣ W3 c->ϕ c m (vI j) (vI q) (vS l E o) (.string D) (.bool true) (Δ c b 21 (vI P))):=λc f=>⟨cLz f (cLz af s0),cLz f (cLz af s1),cLz f (cLz af s2),cLz f (cLz af s3),cLz f (cLz af s4),cLz f bs⟩;clear ao;refine gr.CZ 23 rfl Ϧ (S:=λc=>ϕ c m (vI j) (vI q) (vS l E o) (.string D) (.bool true) (Δ c b 21 (vI P))) (ap.o _ bR.drew) (λd=>?_)
   iterate 3 refine C9 23 d ?_
   iterate 13 refine C9 24 d ?_
   refine rD 3 λK g=>?_;go_simp;refine g.out _ _ d (λd=>?_);clear g K
   try simp only[Act.put,sI,sZ,sSz]
   refine rD 17 λK g=>?_;go_simp;go_at_call 345;refine(bc.o _ bR.drew).mono ?_;rintro e wp ⟨⟨X,rfl,ae⟩,be⟩;have ah:Ϣ W3 wp:=bR.drew.trans be;go_wp2_with fail;refine g.out _ _ (ap.o _ ah) (λd=>?_);clear g K
   try simp only[Act.put,sI,sZ,sSz]
   iterate 4 refine C9 23 d ?_
   have ba:=hV0 ae;obtain⟨d0,d1,d2⟩:=lk3 ah a6 a7 a8;have W:Ϣ w wp:=bT N ah;have f0:=Q.o _ W k ϣ;have f1:=Q.o _ W (k+1) ϣ;have f2:=Q.o _ W (k+1+1) ϣ;have ad:b≠m:=ϣ;have J:=d;clear ae d;refine rD 22 λK g=>?_;go_simp;refine g.out _ _ ⟨FJ J.1 ad _ _ _,FJ J.2.1 ad _ _ _,FJ J.2.2.1 ad _ _ _,FJ J.2.2.2.1 ad _ _ _,FJ J.2.2.2.2.1 ad _ _ _,Cj J.2.2.2.2.2 ϣ ϣ ϣ _ _ _⟩ (λd=>?_);clear g K;refine GT Ϧ ?_ _;have aq:=d.2.2.2.2.2;have ar:Ξ (ό (ό (ό wp b k (vI C.lim)) b (k+1) (vS X.m.1.1 X.m.1.2.1 X.m.1.2.2)) b (k+1+1) (vS X.ra (ϲ X.rs) X.rc)) b 21:=Ws (Q.o _ W 21 ϣ) _ _ _;have am:=(Bi W).trans (Ja (R.o.below W).ty k (vI C.lim) (vS X.m.1.1 X.m.1.2.1 X.m.1.2.2) (vS X.ra (ϲ X.rs) X.rc));have ai:=Wu (R.o.below N) hT ah j ba.o nR k al.o;unfold hdV at ai;generalize (((wp.setCell ⟨b,k,none⟩ (vI C.lim)).setCell ⟨b,k+1,none⟩ (vS X.m.1.1 X.m.1.2.1 X.m.1.2.2)).setCell ⟨b,k+1+1,none⟩ (vS X.ra (ϲ X.rs) X.rc))=W4 at *;have a9:ϡ (Cv T w W4):=am;clear am;have an:ϡ (JSt w0 W4 b T p x (AP s j C) (MS y j X) t L):=ai;clear ai d J;go_wp2;refine cH (v:=.tuple #[]) (by simp[results,results340,go_sem]) rfl ⟨rfl,MS y j X,?_,a9.o.trans (F6 an.o.ty _ _)⟩;have a3:=Wt an.o hT (P+1);rw[(Q4 s j C).1,(Q4 s j C).2.1]at a3;rw[ab.o];exact a3
  ·have bh:=pl.EH (x:=q) (y:=G) false (by simpa using Z);refine gr.CZ 11 rfl Ϧ (S:=λc=>ϖ c m (vI j) (vI q) (vS l E o) (.string D) (.bool true)) (U.o _ bR.drew) (λd=>?_)
   iterate 8 refine C9 11 d ?_
   refine rD 8 λK g=>?_;go_simp;go_at_call 344;refine(F.o _ bR.drew).mono ?_;rintro e wg ⟨rfl,ak⟩;have O:Ϣ V wg:=bR.drew.trans ak;go_wp2_with fail;refine g.out _ _ (U.o _ O) (λd=>?_);clear g K
   try simp only[Act.put,sI,sZ,sSz]
   refine tkz 9 16 d ?_;refine tkz 10 17 d ?_;refine GT Ϧ ?_ _;have ab:ϡ (KJ=⟨s.L,s.R,s.lm,s.rm,P+1⟩):=by show _=_;rw[A.o,AC (by simp[Z])]
   have ac:Ϣ w wg:=bT M O;have aq:=ag.o _ ac;have ar:=Q.o _ ac 21 ϣ;go_wp2;refine cH (v:=.tuple #[]) (by simp[results,results340,go_sem]) rfl ⟨rfl,y,?_,?_⟩
   ·rw[ab.o];exact Wt (R.o.below ac) hT _
   ·exact(Bi ac).trans (F6 (R.o.below ac).ty _ _)
end jn
namespace jn
open vl
variable {p : pl.Pln}
def Ga{s:Jn}(h:AV p s=0):pl.Ag p=0:=by
 unfold AV at h;split at h
 ·exact h
 ·rename_i k;exact fA.1 k
def TK(h:pl.Ag p=0)(a:p.grouped=false):ϲ (pl.Cc p)<=ύ:=by
 have:=bt.Acw h;unfold pl.Cc pl.A5;rw[a,AC Ϥ,lAp];omega
def OH(p:pl.Pln)(x:pl.PA)(w:ϟ)(a:p.grouped=false):
 χ 51 #[pl.Ai p x,ώ] w (ψ w (vI 0)):=by
 unfold pl.Ai;rw[a];go_enter func51,ntmps51;go_wp2;go_ret;exact⟨rfl,Ϯ⟩
theorem OI(p:pl.Pln)(x:pl.PA)(a:Ϡ)(q:Nat)(v:List ch.Cnt)(w:ϟ)(Q:pl.wfPlan p)(P:pl.planAt w p x)(h0:pl.Ag p=0)(M:p.grouped=false)(E:ch.viewAt w a v)(F:ch.BK v)(D:ϲ v<=ύ):
 χ 52 #[pl.Ai p x,vS a (ϲ v) q] w (ψ w (vI (if ch.Av v≠0 then ch.Av v else bt.Ej (pl.Cc p) v))):=by
 have o:=hIz (λ(c:ϟ) (f:Ϣ w c)=>ch.Bb a q v c (ch.Bp E f) F D);have I:=hIz (λ(c:ϟ) (f:Ϣ w c)=>pl.Yf p x c Q (pl.Ae P f));have KV:=hIz (λ(c:ϟ) j H (f:Ϣ w c) (Y:pl.Au c j (pl.Cc p))=>bt.Kc a j q H v (pl.Cc p) c D (ch.Bp E f) F Y (TK h0 M));obtain⟨R,z⟩:=nM (if ch.Av v≠0 then ch.Av v else bt.Ej (pl.Cc p) v);have g:=hV0 z;have U:=hV0 h0;rw[z];clear z Q P E F D h0 M;obtain⟨l,r⟩:=nM (ch.Av v);obtain⟨E2,u⟩:=nM (bt.Ej (pl.Cc p) v);obtain⟨n,h⟩:=nM (ϲ v);rw[r,h]at o;rw[u,h]at KV;rw[r,u]at g;rw[h];clear r u h;unfold pl.Ai at I⊢;go_enter func52,ntmps52;go_wp2_with fail;generalize A:(World.alloc w _)=V;have B:Ϣ w V:=by rw[<-A];exact Ϯ
 have m:ϡ (boxP V w p x):=by
  subst A;exact BF ..
 clear A;refine(o.o _ B).mono ?_;rintro e c ⟨rfl,C⟩;have d:Ϣ w c:=bT B C;replace m:ϡ (boxP c w p x):=Af m.o C;clear C B o;by_cases G:l=0
 rotate_left
 ·have aa:(l !=0)=true:=by simpa using G
  have W:ϡ (l=R):=by show _=_;rw[<-g.o,AE G]
  go_wp2;go_ret;exact⟨Ad W.o,d⟩
 subst G;rw[AC Ϥ]at g;obtain⟨v0,v1,v2,v3,v4,v5,v6,v7,v8,v9,ab,ac,ad⟩:=m.o;go_wp2_with fail;refine(I.o _ d).mono ?_;rintro e S ⟨Z,K⟩;replace d:Ϣ w S:=bT d K;rcases Z with⟨hx,_⟩|⟨_,j,H,rfl,N⟩
 ·exact absurd U.o hx
 have J:=KV.o S j H d N;obtain⟨on,O⟩:=nM (ϲ (pl.Cc p));rw[O]at J⊢;clear O N K;go_wp2_with fail;refine J.mono ?_;rintro e w3 ⟨rfl,X⟩;go_wp2;go_ret;exact⟨Ad g.o,bT d X⟩
theorem Ww(p:pl.Pln)(x:pl.PA)(e:Eng)(y:EX)(w:ϟ)(C:pl.wfPlan p)(B:pl.planAt w p x)(A:p.grouped=false)(h:enAt w e y)(q:wfEn e):
 χ 27 #[pl.Ai p x,enV e y] w (ψ w (vI (En p e))):=by
 have g:=hIz (λ(a:ϟ) (j:Ϣ w a)=>Bb p x e.j y.y a C (pl.Ae B j) (h.j.below j) q.j);have F:ϡ (∀a:World,CT 51 #[pl.Ai p x,ώ] a (ψ a (vI 0))):=λa=>OH p x a A;have KV:ϡ (AV p e.j=0->∀a,Ϣ w a->CT 52 #[pl.Ai p x,vS y.va (ϲ e.v) y.vc] a (ψ a (vI (if ch.Av e.v≠0 then ch.Av e.v else bt.Ej (pl.Cc p) e.v)))):=λh0 a j=>OI p x y.va y.vc e.v a C (pl.Ae B j) (Ga h0) A (ch.Bp h.v j) q.v q.n;obtain⟨R,u⟩:=nM (En p e);have f:=hV0 u;rw[u];clear u C B h q A;unfold En at f;obtain⟨r,G⟩:=nM (AV p e.j);obtain⟨E2,H⟩:=nM (if ch.Av e.v≠0 then ch.Av e.v else bt.Ej (pl.Cc p) e.v);rw[G]at g KV f;rw[H]at KV f;clear G H;unfold pl.Ai at g F KV⊢;rw[AU]at g;rw[FQ];go_enter func27,ntmps27;go_wp2_with fail;generalize m:(World.alloc (World.alloc w _) _)=V;have z:Ϣ w V:=by rw[<-m];exact Ϯ.alloc ϥ _
 have d:ϡ (boxP V w p x):=by
  subst m;exact Af (BF ..) Ϯ
 have c:ϡ (Ek V (w.heap.size+1) e y):=by
  subst m;have:=F7 (ϊ w (Φ p x) 32) e y 42;rw[D0]at this;exact this
 clear m;refine(g.o _ z).mono ?_;rintro e1 a ⟨rfl,n⟩;have l:Ϣ w a:=bT z n;replace d:ϡ (boxP a w p x):=Af d.o n;replace c:ϡ (Ek a (w.heap.size+1) e y):=B5 c.o n;clear n z g;by_cases D:r=0
 rotate_left
 ·have ab:(r !=0)=true:=by simpa using D
  have Z:ϡ (r=R):=by show _=_;rw[<-f.o,AE D]
  go_wp2;go_ret;exact⟨Ad Z.o,l⟩
 subst D;rw[AC Ϥ]at f;obtain⟨I,J,O,P,Q,S,U,W,X,Y,K,M,N⟩:=d.o;obtain⟨u0,u1,u2,u3,u4,u5,u6,u7,u8,u9,u10⟩:=c.o;go_wp2_with fail;refine(F.o _).mono ?_;rintro e2 E ⟨rfl,o⟩;replace l:Ϣ w E:=bT l o;replace d:ϡ (boxP E w p x):=Af d.o o;replace c:ϡ (Ek E (w.heap.size+1) e y):=B5 c.o o;clear I J O P Q S U W X Y K M N u0 u1 u2 u3 u4 u5 u6 u7 u8 u9 u10 o;obtain⟨I,J,O,P,Q,S,U,W,X,Y,K,M,N⟩:=d.o;obtain⟨u0,u1,u2,u3,u4,u5,u6,u7,u8,u9,u10⟩:=c.o;go_wp2_with fail;refine(KV.o ϫ _ l).mono ?_;rintro e3 w3 ⟨rfl,aa⟩;go_wp2;go_ret;exact⟨Ad f.o,bT l aa⟩
end jn
namespace gr
open vl pl bt
attribute [local go_sem] Oper.semAt_some
theorem Nl(p:Pln)(x:PA)(a:Ϡ)(cap:Nat)(d:List Grp)(w:ϟ)(hw:wfPlan p)(hp:planAt w p x)(af:ϲ d<=ύ)(h:Ag p≠0\/p.grouped=false\/4096<ϲ d):
 χ 62 #[Ai p x,vS a (ϲ d) cap] w (ψ w (vI (CP p d))):=by
 have f:=hIz (λ(j:ϟ) (hb:Ϣ w j)=>FF p x j hw (Ae hp hb));obtain⟨R,m⟩:=nM (CP p d);have c:=hV0 m;unfold CP at c;rw[m];clear m hw hp;obtain⟨AB,Y⟩:=nM (allB (ϲ d) (Gb p d));rw[Y]at c;obtain⟨E,Z⟩:=nM (Ag p);rw[Z]at f c h;obtain⟨O,aa⟩:=nM (ϲ d);rw[aa]at c af h⊢;clear Y Z aa;obtain⟨am,aq,ap,al,aw,an,left,right,ah,ai,ae,ad,ab⟩:=p;obtain⟨la,lc,rr,rc,lk,ao,rk,av,ga,gc,ag,ac⟩:=x;unfold Ai at f⊢;dsimp only at f c h⊢;have HB:=hV0 h;clear h;obtain⟨n6,S⟩:∃n,ϲ left=n:=⟨_,rfl⟩;obtain⟨n7,U⟩:∃n,ϲ right=n:=⟨_,rfl⟩;obtain⟨n8,W⟩:∃n,ϲ ah=n:=⟨_,rfl⟩;obtain⟨n9,X⟩:∃n,ϲ ai=n:=⟨_,rfl⟩;obtain⟨ar,P⟩:∃n,ϲ ad=n:=⟨_,rfl⟩;obtain⟨au,Q⟩:∃n,ϲ ab=n:=⟨_,rfl⟩;simp only[S,U,W,X,P,Q]at f⊢;clear S U W X P Q;go_enter func62,ntmps62;go_wp2_with fail;generalize o:(World.alloc w _)=V;have q:Ϣ w V:=by rw[<-o];exact Ϯ
 obtain⟨z,A,F,G,H,I,J,K,M,N,B,C,D⟩:=Aha o;clear o;refine(f.o _ q).mono ?_;rintro e j ⟨rfl,r⟩;have u:Ϣ w j:=bT q r;have zz:=Acx r z A F G H I J K M N B C D;clear z A F G H I J K M N B C D;obtain⟨z,A,F,G,H,I,J,K,M,N,B,C,D⟩:=zz;clear r q f;by_cases l:E=0
 ·subst l
  cases ae with
  |false=>
   have g:ϡ (1=R):=by show _=_;rw[<-c.o];simp
   go_wp2;go_ret;exact⟨Ad g.o,u⟩
  |true=>
   have h1:O>4096:=by have:=HB.o;simpa using this
   have g:ϡ (2=R):=by show _=_;rw[<-c.o];simp;omega
   have ak:(O:Int)>4096:=ϣ;go_wp2;go_ret;exact⟨Ad g.o,u⟩
 ·have aj:(E !=0)=true:=by simpa using l
  have g:ϡ (E=R):=by show _=_;rw[<-c.o,AE l]
  go_wp2;go_ret;exact⟨Ad g.o,u⟩
end gr
