import Derived.Test.YtfkihidbnfkbaaaGreatDoorPv26
import Derived.Test.YtfkihidbnfkbaaaGreatDoorPv19
set_option linter.all false
set_option maxHeartbeats 8000000
set_option maxRecDepth 100000
open Go.ChangeShapes Go.WideShapes Go.ChangeAt Go.RowKit Go.Joins Go.Deep List
namespace Go.Proofs.YtfkihidbnfkbaaaGreatDoor
open Go.Proofs.Tryz
namespace jn
open vl bf
attribute [local go_sem] Oper.semAt_some
variable {w w0 : Ϡ} {b base i k : Nat} {p : pl.Pln} {x : pl.PA} {s : Jn} {y : JX} {t v : Value} {T : TypeId} {L : List CO}
theorem Kw(h:boxP w b p x)(z:13<=k)(u:Value):boxP (ό w b k u) b p x:=by
 obtain⟨a,c,g,j,l,m,n,o,q,r,d,e,f⟩:=h;exact⟨cell_far a Ϥ,cell_far c Ϥ,cell_far g Ϥ,cell_far j Ϥ,cell_far l Ϥ,cell_far m Ϥ,cell_far n Ϥ,cell_far o Ϥ,cell_far q Ϥ,cell_far r Ϥ,cell_far d Ϥ,cell_far e Ϥ,cell_far f Ϥ⟩
theorem Kx{n:Nat}(h:w.there b 0 n)(q:Nat)(u:Value):(w.setCell ⟨q,k,none⟩ u).there b 0 n:=λj a=>⟨by
 obtain⟨v,c⟩:=Option.isSome_iff_exists.1 (h j a).1;obtain⟨e,d⟩:=cell?_setCell_some (p:=⟨q,k,none⟩) (x:=u) c;rw[d];rfl,by rw[World.frozen?_setCell];exact(h j a).2⟩
theorem AaO(h:boxC w b p x s y t)(n:Int):boxC (ό w b 21 (vI n)) b p x ⟨s.L,s.R,s.lm,s.rm,n⟩ y t:=by
 refine⟨Kw h.plan Ϥ _,?_,cell_far h.told Ϥ,Kx h.room _ _⟩;obtain⟨u0,u1,u2,u3,u4,u5,u6,u7,u8⟩:=h.join;exact⟨cell_far u0 Ϥ,cell_far u1 Ϥ,cell_far u2 Ϥ,cell_far u3 Ϥ,cell_far u4 Ϥ,cell_far u5 Ϥ,cell_far u6 Ϥ,cell_far u7 Ϥ,World.cell?_setCell_same _ _ _ u8⟩
def Mt(y:JX)(side:Int)(z:BX):JX:=if side=2 then⟨y.l,z⟩else⟨z,y.r⟩
theorem Ck(h:Δ w b i v)(h0:k≠i)(h1:k+1≠i)(a:k+1+1≠i)(u0 u1 u2:Value):Δ (ό (ό (ό w b k u0) b (k+1) u1) b (k+1+1) u2) b i v:=cell_far (cell_far (cell_far h h0) h1) a
theorem WN(h:Δ w b k v)(u0 u1 u2:Value):Δ (ό (ό (ό w b k u0) b (k+1) u1) b (k+1+1) u2) b k u0:=cell_far (cell_far (World.cell?_setCell_same _ _ _ h) Ϥ) Ϥ
theorem WQ(h:Δ w b (k+1) v)(u0 u1 u2:Value):Δ (ό (ό (ό w b k u0) b (k+1) u1) b (k+1+1) u2) b (k+1) u1:=cell_far (World.cell?_setCell_same _ _ _ (cell_far h Ϥ)) Ϥ
theorem WS(h:Δ w b (k+1+1) v)(u0 u1 u2:Value):Δ (ό (ό (ό w b k u0) b (k+1) u1) b (k+1+1) u2) b (k+1+1) u2:=World.cell?_setCell_same _ _ _ (cell_far (cell_far h Ϥ) Ϥ)
theorem AaP(h:boxC w b p x s y t)(side:Int)(B:Buf)(X:BX)(k:Nat)(a:13+A8 side=k):boxC (ό (ό (ό w b k (vI B.lim)) b (k+1) (hdV X.m.1)) b (k+1+1) (vS X.ra X.rs.length X.rc)) b p x (AU s side B) (Mt y side X) t:=by
 have c:A8 side=0\/A8 side=3:=by unfold A8;split<;>simp
 refine⟨Kw (Kw (Kw h.plan Ϥ _) Ϥ _) Ϥ _,?_,Ck h.told Ϥ Ϥ Ϥ _ _ _,Kx (Kx (Kx h.room _ _) _ _) _ _⟩;obtain⟨u0,u1,u2,u3,u4,u5,u6,u7,u8⟩:=h.join;unfold A8 at a;unfold AU Mt;by_cases e:side=2
 ·rw[if_pos e]at a;subst a;rw[if_pos e,if_pos e];refine⟨Ck u0 Ϥ Ϥ Ϥ _ _ _,Ck u1 Ϥ Ϥ Ϥ _ _ _,Ck u2 Ϥ Ϥ Ϥ _ _ _,WN u3 _ _ _,WQ u4 _ _ _,WS u5 _ _ _,Ck u6 Ϥ Ϥ Ϥ _ _ _,Ck u7 Ϥ Ϥ Ϥ _ _ _,Ck u8 Ϥ Ϥ Ϥ _ _ _⟩
 ·rw[if_neg e]at a;subst a;rw[if_neg e,if_neg e];refine⟨WN u0 _ _ _,WQ u1 _ _ _,WS u2 _ _ _,Ck u3 Ϥ Ϥ Ϥ _ _ _,Ck u4 Ϥ Ϥ Ϥ _ _ _,Ck u5 Ϥ Ϥ Ϥ _ _ _,Ck u6 Ϥ Ϥ Ϥ _ _ _,Ck u7 Ϥ Ϥ Ϥ _ _ _,Ck u8 Ϥ Ϥ Ϥ _ _ _⟩
theorem F9{q:Nat}(h:Δ w q i v)(a:b≠q)(u0 u1 u2:Value):Δ (ό (ό (ό w b k u0) b (k+1) u1) b (k+1+1) u2) q i v:=
 have ne:∀j,(⟨b,j,none⟩:Addr)≠⟨q,i,none⟩:=λj e=>a (by injection e)
 ((World.cell?_setCell_other _ _ _ _ (ne _)).trans ((World.cell?_setCell_other _ _ _ _ (ne _)).trans (World.cell?_setCell_other _ _ _ _ (ne _)))).trans h
theorem UW{q:Addr}(h:w.frozen? q=false)(u0 u1 u2:Value):(((w.setCell ⟨b,k,none⟩ u0).setCell ⟨b,k+1,none⟩ u1).setCell ⟨b,k+1+1,none⟩ u2).frozen? q=false:=by
 rw[World.frozen?_setCell,World.frozen?_setCell,World.frozen?_setCell];exact h
theorem PU(s:Jn)(side:Int)(B:Buf):(AU s side B).lm=s.lm/\(AU s side B).rm=s.rm/\(AU s side B).seq=s.seq:=by unfold AU;split<;>exact⟨rfl,rfl,rfl⟩
theorem Fu(h:Ah w b T)(k:Nat)(u:Value):Cy T w (ό w b k u):=⟨(Below.refl 0 w).setCell (Nat.zero_le _) u,λg e d c _ _=>heap_setCell_other _ _ _ _ (λa=>tyAt_apart d h c a)⟩
theorem I6(h:Ah w b T)(k:Nat)(u0 u1 u2:Value):Cy T w (ό (ό (ό w b k u0) b (k+1) u1) b (k+1+1) u2):=
 ((Fu h _ _).trans (Fu (Ao h _ _) _ _)).trans (Fu (Ao (Ao h _ _) _ _) _ _)
theorem Ky(h:CG w base v L)(c:Ah w b T)(a:calmC T)(k:Nat)(u:Value):CG (ό w b k u) base v L:=OS h c a.c a.t.v k u
theorem UX(h:JSt w0 w b T p x s y t L)(a:calmC T)(n:Int):JSt w0 (ό w b 21 (vI n)) b T p x ⟨s.L,s.R,s.lm,s.rm,n⟩ y t L:=
 ⟨AaO h.box n,Ao h.ty _ _,h.up,GM h.l h.ty a.t _ _,GM h.r h.ty a.t _ _,h.ap,Ky h.cg h.ty a _ _,h.bl.setCell h.up _⟩
theorem Ad2(h:JSt w0 w b T p x s y t L)(c:calmC T)(side a:Int):JSt w0 (ό w b (13+BV side) (vI a)) b T p x (Fi s side a) y t L:=by
 have e:(Fi s side a).L=s.L/\(Fi s side a).R=s.R:=by unfold Fi;split<;>exact⟨rfl,rfl⟩
 exact⟨ZB h.box side a,Ao h.ty _ _,h.up,by rw[e.1];exact GM h.l h.ty c.t _ _,by rw[e.2];exact GM h.r h.ty c.t _ _,h.ap,Ky h.cg h.ty c _ _,h.bl.setCell h.up _⟩
theorem UY{d:Ϡ}(h:JSt w0 w b T p x s y t L)(c:calmC T)(D:ϣ w d)(side:Int){B:Buf}{X:BX}(l:OB d base X B)(j:w.heap.size<=base)(k:Nat)(E:13+A8 side=k):
 JSt w0 (ό (ό (ό d b k (vI B.lim)) b (k+1) (hdV X.m.1)) b (k+1+1) (vS X.ra X.rs.length X.rc)) b T p x (AU s side B) (Mt y side X) t L:=by
 have a:=h.below D;have n:=a.ty;have o:=Ao n ⟨b,k,none⟩ (vI B.lim);have g:=Ao o ⟨b,k+1,none⟩ (hdV X.m.1);have m:∀{r:Nat} {Z:BX} {C:Buf},OB d r Z C->OB (ό (ό (ό d b k (vI B.lim)) b (k+1) (hdV X.m.1)) b (k+1+1) (vS X.ra X.rs.length X.rc)) r Z C:=λJ=>GM (GM (GM J n c.t _ _) o c.t _ _) g c.t _ _;have F:w0.heap.size<=base:=Nat.le_trans h.bl.size j;have A:=m (CX l F);have z:=Ky (Ky (Ky a.cg n c k (vI B.lim)) o c (k+1) (hdV X.m.1)) g c (k+1+1) (vS X.ra X.rs.length X.rc);have u:=((a.bl.setCell (p:=⟨b,k,none⟩) h.up (vI B.lim)).setCell (p:=⟨b,k+1,none⟩) h.up (hdV X.m.1)).setCell (p:=⟨b,k+1+1,none⟩) h.up (vS X.ra X.rs.length X.rc);have f:=AaP a.box side B X k E;unfold AU Mt at *;by_cases e:side=2
 ·rw[if_pos e,if_pos e]at f;rw[if_pos e,if_pos e];exact⟨f,Ao g _ _,h.up,m a.l,A,OO h.l l j,z,u⟩
 ·rw[if_neg e,if_neg e]at f;rw[if_neg e,if_neg e];exact⟨f,Ao g _ _,h.up,A,m a.r,λp G q I=>N9 (OO h.r l j q I p G),z,u⟩
def J2(p:pl.Pln)(s:Jn):Nat->Jn
 |0=>s
 |1=>⟨Eg (EV (Di p s 1)) s.L,s.R,s.lm,s.rm,s.seq⟩
 |_=>M4 p s
theorem AaQ(h:k<2):pl.B8 ((k:Int)+1)=true/\Av (J2 p s k) ((k:Int)+1)=Av s ((k:Int)+1)/\Di p (J2 p s k) ((k:Int)+1)=Di p s ((k:Int)+1)/\AU (J2 p s k) ((k:Int)+1) (Eg (EV (Di p s ((k:Int)+1))) (Av s ((k:Int)+1)))=J2 p s (k+1):=by
 match k,h with
 |0,_=>exact⟨ϥ,rfl,rfl,rfl⟩
 |1,_=>exact⟨ϥ,rfl,rfl,rfl⟩
theorem UZ(b:Nat)(T:TypeId)(p:pl.Pln)(x:pl.PA)(s:Jn)(y:JX)(t:Value)(L:List CO)(w0 w:Ϡ)(h:JSt w0 w b T p x s y t L)(hT:calmC T)(aj:T≠3)(hw:pl.wfPlan p)(hp:pl.planAt w0 p x)(hg:goodJ p s):
 χ 338 #[ω b] w λe A=>e= .returned (.tuple #[])/\∃j,JSt w0 A b T p x (M4 p s) j t L/\Cy T w A:=by
 have HJ:=hV0 h;have HG:=hV0 hg;have ai:Ϣ (pl.wfPlan p/\pl.planAt w0 p x):=⟨hw,hp⟩;clear h hg hw hp;go_enter func338,ntmps338;go_wp2;generalize F:(World.alloc w _)=V;have ak:ϣ w V:=by rw[<-F];exact ϯ
 have M:Δ V w 0 (vI 1):=by subst F;go_simp
 have N:Δ V w 1 (vI 2):=by subst F;go_simp
 have ah:Ϣ (Ah V w 3):=by subst F;exact⟨_,_,World.alloc_heap_new w _⟩
 clear F
 go_loopw [7] (λi wr=> ∃(k:Nat) (j:JX),k<=2/\i=vI k/\Ϣ (JSt w0 wr b T p x (J2 p s k) j t L)/\Ϣ (Cy T V wr)) (λi _=>2 - (intOf i).toNat)
 case atStart=>exact⟨0,y,Ϥ,rfl,HJ.o.below ak,Bl bR⟩
 case round=>
  obtain⟨k,j,hk,rfl,g,E⟩:=hrel;have M:=E.o.cell ah.o aj.symm ϥ ϥ M;have N:=E.o.cell ah.o aj.symm ϥ ϥ N;by_cases an:k<2
  ·have i1:=nn0 k;have i2:(k:Int)<2:=Ϥ;have ac:Δ wr w k (vI ((k:Int)+1)):=by
    match k,an with
    |0,_=>exact M
    |1,_=>exact N
   clear M N;obtain⟨d1,O,d3,d4⟩:=AaQ (p:=p) (s:=s) an;obtain⟨l,ad⟩:=nM (Eg (EV (Di p s ((k:Int)+1))) (Av s ((k:Int)+1)));rw[ad]at d4;have P:=HG.o.of ((k:Int)+1);have o:bufAt wr (Av s ((k:Int)+1)) (Cf j ((k:Int)+1)):=by
    rw[<-O];unfold Av Cf;split
    ·exact g.o.r.at
    ·exact g.o.l.at
   have D:=Jv g.o.box.join ((k:Int)+1);rw[O]at D;have J:Ϣ (∀c,ϣ wr c->CT 344 #[ω b,vI ((k:Int)+1)] c (ψ c (vI (Di p s ((k:Int)+1))))):=λc C=>by
    have:=Kz b p x (J2 p s k) j t ((k:Int)+1) c ai.o.1 (pl.Ae ai.o.2 (g.o.bl.trans (C.mono g.o.bl.size))) (g.o.below C).box d1;rw[d3]at this;exact this
   have KB:Ϣ (∀c,CT 252 #[.pointer (some ⟨b,13,none⟩),vI ((k:Int)+1)] c λe A=>e= .returned (.pointer (some ⟨b,13+A8 ((k:Int)+1),none⟩))/\A=c):=λc=>GL b 13 _ c;have z:Ϣ (∀c,ϣ wr c->CT 343 #[B5 (Av s ((k:Int)+1)) (Cf j ((k:Int)+1)),vI (Di p s ((k:Int)+1))] c λe A=>(∃X,e= .returned (.tuple #[B5 l X,Ϗ])/\OB A c X l)/\ϣ c A):=λc C=>by
    have:=AdP (Av s ((k:Int)+1)) (Cf j ((k:Int)+1)) (Di p s ((k:Int)+1)) c (Ar o C) P.2 (by have:=P.1.all;omega) (FW P.1);rw[ad]at this;exact this
   have B:Ϣ (∀c,ϣ wr c->∀i,i<23->Ξ c b i):=λc C i hi=>by
    have:=((g.o.below C).box.room i hi).2;simpa using this
   have ao:A8 ((k:Int)+1)=0\/A8 ((k:Int)+1)=3:=by unfold A8;split<;>simp
   obtain⟨q,hq⟩:=nM (13+A8 ((k:Int)+1));have aa:=hV0 hq;have au:13<=q/\q<=16:=Ϥ;obtain⟨G,hG⟩:=nM (Di p s ((k:Int)+1));obtain⟨bo,al⟩:=nM (Av s ((k:Int)+1));obtain⟨bx,am⟩:=nM (Cf j ((k:Int)+1));obtain⟨I,Q⟩:=nM ((k:Int)+1);have ag:Ϣ (AU (J2 p s k) I l=J2 p s (k+1)):=by show _=_;rw[<-Q];exact d4
   have aq:=hV0 Q;rw[hG]at J z;rw[al,am]at z D;rw[hq]at KB D;rw[Q]at J KB aa ac;obtain⟨ax,ay,⟨⟨m1,m2,m3⟩,ml⟩,rs⟩:=bx;obtain⟨av,aw,az⟩:=bo;unfold B5 hdV at z;dsimp only at z D;obtain⟨n,hn⟩:=nM rs.length;rw[hn]at z D;obtain⟨R,U,W⟩:=D;have lb:b<wr.heap.size:=g.o.box.lt;clear d1 O d3 d4 ad P o ao hq hG al am hn Q;go_wp2_with (go_at_call 252;refine(KB.o _).mono ?_;rintro e wr ⟨rfl,rfl⟩);refine gr.Dm 13 rfl ϧ (S:=λ_=>True) trivial (λd=>?_)
   iterate 3 refine CE 13 d ?_
   refine tkz 4 21 d ?_;refine tkz 5 22 d ?_;refine wpAnyH_ready (rs:=[3,6]) ϧ Ϧ ?_;refine AllReadyH.cons rfl (λK a=>?_) (AllReadyH.cons rfl (λK a=>?_) AllReadyH.nil)
   ·go_simp;refine a.out _ _ trivial (λd=>?_);clear a K
    try simp only[Act.put,sI,sZ,sSz]
    refine rD 6 λK a=>?_;go_simp;go_at_call 344;refine(J.o _ bR.drew).mono ?_;rintro e wg ⟨rfl,ae⟩;have r:ϣ wr wg:=bR.drew.trans ae;go_wp2_with fail;refine a.out _ _ trivial (λd=>?_);clear a K
    try simp only[Act.put,sI,sZ,sSz]
    refine rD 7 λK a=>?_;go_simp;go_at_call 343;refine(z.o _ r).mono ?_;rintro e m ⟨⟨X,rfl,o⟩,af⟩;have f:ϣ wr m:=bT r af;go_wp2_with fail;refine a.out _ _ trivial (λd=>?_);clear a K
    try simp only[Act.put,sI,sZ,sSz]
    refine tkz 8 16 d ?_;refine tkz 9 25 d ?_;refine tkz 10 26 d ?_;refine tkz 11 27 d ?_;have Z:Ϣ (OB m wr X l):=CX o r.size;have f0:=B.o _ f q Ϥ;have f1:=B.o _ f (q+1) Ϥ;have f2:=B.o _ f (q+1+1) Ϥ;obtain⟨e0,e1,e2⟩:=lk3 f R U W;clear o;refine rD 12 λK a=>?_;go_simp;refine a.out _ _ trivial (λd=>?_);clear a K;refine wpAnyH_done ϧ ?_ _;have Y:Ϣ (Cy T wr (ό (ό (ό m b q (vI l.lim)) b (q+1) (vS X.m.1.1 X.m.1.2.1 X.m.1.2.2)) b (q+1+1) (vS X.ra X.rs.length X.rc))):=(Bl f).trans (I6 (g.o.below f).ty q _ _ _);have u:=UY g.o hT f I Z.o nR q aa.o;unfold hdV at u;generalize (((m.setCell ⟨b,q,none⟩ (vI l.lim)).setCell ⟨b,q+1,none⟩ (vS X.m.1.1 X.m.1.2.1 X.m.1.2.2)).setCell ⟨b,q+1+1,none⟩ (vS X.ra X.rs.length X.rc))=W4 at *;have ab:Ϣ (JSt w0 W4 b T p x (J2 p s (k+1)) (Mt j I X) t L):=by
     show JSt _ _ _ _ _ _ _ _ _ _;rw[<-ag.o];exact u
    clear u;go_wp2;go_roundw
    (case rel=>exact⟨k+1,_,Ϥ,by go_num,ab,E.o.trans Y.o⟩)
    (case measure=>simp[intOf];omega)
   ·go_simp;go_at_call 344;refine(J.o _ bR.drew).mono ?_;rintro e wg ⟨rfl,ae⟩;have r:ϣ wr wg:=bR.drew.trans ae;go_wp2_with fail;refine a.out _ _ trivial (λd=>?_);clear a K
    try simp only[Act.put,sI,sZ,sSz]
    obtain⟨d0,d1,O⟩:=lk3 r R U W;refine rD 3 λK a=>?_;go_simp;refine a.out _ _ trivial (λd=>?_);clear a K
    try simp only[Act.put,sI,sZ,sSz]
    refine rD 7 λK a=>?_;go_simp;go_at_call 343;refine(z.o _ r).mono ?_;rintro e m ⟨⟨X,rfl,o⟩,af⟩;have f:ϣ wr m:=bT r af;go_wp2_with fail;refine a.out _ _ trivial (λd=>?_);clear a K
    try simp only[Act.put,sI,sZ,sSz]
    refine tkz 8 16 d ?_;refine tkz 9 25 d ?_;refine tkz 10 26 d ?_;refine tkz 11 27 d ?_;have Z:Ϣ (OB m wr X l):=CX o r.size;have f0:=B.o _ f q Ϥ;have f1:=B.o _ f (q+1) Ϥ;have f2:=B.o _ f (q+1+1) Ϥ;obtain⟨e0,e1,e2⟩:=lk3 f R U W;clear o;refine rD 12 λK a=>?_;go_simp;refine a.out _ _ trivial (λd=>?_);clear a K;refine wpAnyH_done ϧ ?_ _;have Y:Ϣ (Cy T wr (ό (ό (ό m b q (vI l.lim)) b (q+1) (vS X.m.1.1 X.m.1.2.1 X.m.1.2.2)) b (q+1+1) (vS X.ra X.rs.length X.rc))):=(Bl f).trans (I6 (g.o.below f).ty q _ _ _);have u:=UY g.o hT f I Z.o nR q aa.o;unfold hdV at u;generalize (((m.setCell ⟨b,q,none⟩ (vI l.lim)).setCell ⟨b,q+1,none⟩ (vS X.m.1.1 X.m.1.2.1 X.m.1.2.2)).setCell ⟨b,q+1+1,none⟩ (vS X.ra X.rs.length X.rc))=W4 at *;have ab:Ϣ (JSt w0 W4 b T p x (J2 p s (k+1)) (Mt j I X) t L):=by
     show JSt _ _ _ _ _ _ _ _ _ _;rw[<-ag.o];exact u
    clear u;go_wp2;go_roundw
    (case rel=>exact⟨k+1,_,Ϥ,by go_num,ab,E.o.trans Y.o⟩)
    (case measure=>simp[intOf];omega)
  ·have ap:k=2:=Ϥ;subst ap;have ar:¬(((2:Nat):Int)<2):=Ϥ;go_wp2;exact bodyPost_end (v:=.tuple #[]) (by simp[results,results338,go_sem]) rfl ⟨rfl,⟨j,g.o⟩,(Bl ak).trans E.o⟩
theorem AaR{b:Buf}{y:Ent}{l:List Ent}(h:okB b)(j:bf.hasB (Ab b) (AK y)=false)(n:l.Perm (b.mem++[y]))(g:Pw l):Is b l=Ds b y:=by
 unfold Ds;have m:((b.mem++[y]).map AK).Nodup:=by
  have f:(b.mem.map AK).Nodup:=by
   have:=h.once;rw[DO,map_append]at this;exact(nodup_append.1 this).1
  rw[map_append];refine nodup_append.2 ⟨f,Ϧ,λa ha c d e=>?_⟩;have d:c=AK y:=by simpa using d
  subst d e;have:=QO j;refine this ?_;rw[DO,map_append];exact mem_append.2 (.inl ha)
 rw[Lz n g m]
theorem C2(b:Nat)(T:TypeId)(p:pl.Pln)(x:pl.PA)(s:Jn)(y:JX)(t:Value)(L:List CO)(v:Ev)(l:ϡ)(o:Nat)(met:Bool)(w0 w:Ϡ)(h:JSt w0 w b T p x s y t L)(hT:calmC T)(hw:pl.wfPlan p)(hp:pl.planAt w0 p x)(Z:goodJ p s)(hc:comeJ p s v)(hv:evAt w0 v l):
 χ 340 #[ω b,El p v l o,.bool met] w λe c=>e= .returned (.tuple #[])/\∃y',JSt w0 c b T p x (Fc p s v met) y' t L/\Cy T w c:=by
 have U:=hV0 h;have F:Ϣ (∀a,Below (w.heap.size+1) (ϊ w #[vI v.side,vI v.time,vS l v.row.length o,.string (pl.A6 p v.side v.row),.bool (pl.hasB p v.side v.row)] 208) a->CT 344 #[ω b,vI v.side] a (ψ a (vI (Di p s v.side)))):=λa u=>by
  have ax:ϣ w a:=ϯ.trans (u.mono (Nat.le_succ _));exact Kz b p x s y t v.side a hw (pl.Ae hp (h.bl.trans (ax.mono h.bl.size))) (h.below ax).box hc.side
 have KB:Ϣ (∀a,CT 252 #[.pointer (some ⟨b,13,none⟩),vI v.side] a λe c=>e= .returned (.pointer (some ⟨b,13+A8 v.side,none⟩))/\c=a):=λa=>GL b 13 v.side a;have O:A8 v.side=0\/A8 v.side=3:=by unfold A8;split<;>simp
 have ab:Ϣ (∀a,ϣ w a->Δ a b (13+A8 v.side) (vI (Av s v.side).lim)/\Δ a b (13+A8 v.side+1) (vS (Cf y v.side).m.1.1 (Cf y v.side).m.1.2.1 (Cf y v.side).m.1.2.2)/\Δ a b (13+A8 v.side+2) (vS (Cf y v.side).ra (Cf y v.side).rs.length (Cf y v.side).rc)):=λa u=>Jv (h.below u).box.join v.side;have R:Ϣ (∀a,ϣ w a->∀i,i<23->Ξ a b i):=λa u i hi=>by
  have:=((h.below u).box.room i hi).2;simpa using this
 have ah:Ϣ (∀a,ϣ w a->Δ a b 21 (vI s.seq)):=λa u=>(h.below u).box.join.2.2.2.2.2.2.2.2;have af:bufAt w (Av s v.side) (Cf y v.side):=by
  unfold Av Cf;split
  ·exact h.r.at
  ·exact h.l.at
 have B:Ϣ (pl.hasB p v.side v.row=true->Di p s v.side<v.time->∀a,ϣ w a->CT 345 #[B5 (Av s v.side) (Cf y v.side),(⟨pl.A6 p v.side v.row,v.time,s.seq,(l,v.row.length,o),met⟩:EM).val] a λr c=>(∃X,r= .returned (.tuple #[B5 (Ds (Av s v.side) ⟨pl.A6 p v.side v.row,v.time,s.seq,v.row,met⟩) X,Ϗ])/\OB c a X (Ds (Av s v.side) ⟨pl.A6 p v.side v.row,v.time,s.seq,v.row,met⟩))/\ϣ a c):=λhh aa a u=>by
  obtain⟨hf,bn⟩:=Uw (met:=met) hh hv.wf hc.time Z.ok.sq;have a0:bf.hasB (Ab (Av s v.side)) (pl.A6 p v.side v.row,v.time,s.seq)=false:=Qz (λz f=>Z.ok.below z (by
   unfold Av at f;split at f
   ·exact mem_append.2 (.inr f)
   ·exact mem_append.2 (.inl f)))
  have ok:=(Z.of v.side).1;have bk:vl.rowAt a l v.row:=vl.Ac hv.row (h.bl.trans (u.mono h.bl.size));refine(Afg (Av s v.side) (Cf y v.side) ⟨pl.A6 p v.side v.row,v.time,s.seq,(l,v.row.length,o),met⟩ ⟨pl.A6 p v.side v.row,v.time,s.seq,v.row,met⟩ a (Ar af u) (Z.of v.side).2 (by have:=ok.all;omega) (FW ok) ⟨rfl,rfl,rfl,rfl,rfl,bk⟩ ⟨Nat.le_trans bn ϥ,hv.wf,hv.len⟩ (Gb hf) a0 hc.few).mono ?_;rintro r c ⟨⟨x',l',rfl,bj,bh,ho⟩,be⟩;have e:=AaR (y:=⟨pl.A6 p v.side v.row,v.time,s.seq,v.row,met⟩) ok a0 bj bh;rw[e]at ho⊢;exact⟨⟨x',rfl,ho⟩,be⟩
 have A:Ϣ (Fc p s v met=if pl.hasB p v.side v.row=true/\Di p s v.side<v.time then⟨(AU s v.side (Ds (Av s v.side) ⟨pl.A6 p v.side v.row,v.time,s.seq,v.row,met⟩)).L,(AU s v.side (Ds (Av s v.side) ⟨pl.A6 p v.side v.row,v.time,s.seq,v.row,met⟩)).R,s.lm,s.rm,s.seq+1⟩else⟨s.L,s.R,s.lm,s.rm,s.seq+1⟩):=by
  show _=_;unfold Fc;split
  ·unfold AU;split<;>rfl
  ·rfl
 have bm:=Z.ok.sq;have bp:IntKind.i64.wrap (s.seq+1)=s.seq+1:=by rw[ch.Cq];omega
 have lb:=h.box.lt;obtain⟨KJ,av⟩:=nM (Fc p s v met);rw[av]at A⊢;obtain⟨C,aw⟩:=nM (Ds (Av s v.side) ⟨pl.A6 p v.side v.row,v.time,s.seq,v.row,met⟩);rw[aw]at A B;unfold El;obtain⟨D,h1⟩:=nM (pl.A6 p v.side v.row);obtain⟨kh,h2⟩:=nM (pl.hasB p v.side v.row);obtain⟨E,a1⟩:=nM v.row.length;obtain⟨G,hG⟩:=nM (Di p s v.side);obtain⟨Q,a3⟩:=nM s.seq;rw[hG]at F A B;rw[h1,h2,a1]at F B⊢;rw[h2]at A;rw[a3]at ah bp B A bm;obtain⟨k,hk⟩:=nM (13+A8 v.side);have am:=hV0 hk;rw[hk]at KB ab;obtain⟨bo,ay⟩:=nM (Av s v.side);obtain⟨bx,az⟩:=nM (Cf y v.side);rw[ay,az]at ab B;obtain⟨j,a2⟩:=nM v.side;obtain⟨q,a5⟩:=nM v.time;rw[a2]at F KB A am⊢;rw[a5]at F B A⊢;have bv:13<=k/\k<=16:=Ϥ;obtain⟨br,bs,⟨⟨m1,m2,m3⟩,ml⟩,rs⟩:=bx;obtain⟨bq,bw,bz⟩:=bo;unfold B5 hdV EM.val at B;dsimp only at B ab;obtain⟨n,hn⟩:=nM rs.length;rw[hn]at B ab;clear h hw hp Z hc hv af av aw h1 h2 a1 hG a3 hk ay az a2 a5 hn O;go_enter func340,ntmps340;go_wp2;generalize I:(World.alloc w _)=V at F⊢;have N:ϣ w V:=by rw[<-I];exact ϯ
 have a6:V.heap.size=w.heap.size+1:=by rw[<-I];simp
 rw[<-a6]at F;obtain⟨m,J⟩:=nM w.heap.size;rw[J]at a6;have s0:Δ V m 0 (vI j):=by subst I;rw[<-J];go_simp
 have s1:Δ V m 1 (vI q):=by subst I;rw[<-J];go_simp
 have s2:Δ V m 2 (vS l E o):=by subst I;rw[<-J];go_simp
 have s3:Δ V m 3 (.string D):=by subst I;rw[<-J];go_simp
 have s4:Δ V m 4 (.bool kh):=by subst I;rw[<-J];go_simp
 clear I;have W:Ϣ (∀c,ϣ V c->ϖ c m (vI j) (vI q) (vS l E o) (.string D) (.bool kh)):=λc f=>⟨cLz f s0,cLz f s1,cLz f s2,cLz f s3,cLz f s4⟩;rw[J]
 cases kh with
 |false=>
  refine gr.Dm 11 rfl ϧ (S:=λc=>ϖ c m (vI j) (vI q) (vS l E o) (.string D) (.bool false)) (W.o _ bR.drew) (λd=>?_)
  iterate 11 first|refine CE 11 d ?_|refine GI 11 d ?_
  refine wpAnyH_done ϧ ?_ _;have ac:Ϣ (KJ=⟨s.L,s.R,s.lm,s.rm,Q+1⟩):=by show _=_;rw[A.o,if_neg Ϧ]
  have ar:=ah.o _ N;have au:=R.o _ N 21 Ϥ;go_wp2;refine bodyPost_end (v:=.tuple #[]) (by simp[results,results340,go_sem]) rfl ⟨rfl,y,?_,?_⟩
  ·rw[ac.o];exact UX ((U.o.below N).below bR.drew) hT _
  ·exact(Bl N.drew).trans (Fu ((U.o.below N).below bR.drew).ty _ _)
 |true=>
  by_cases aa:G<q
  ·have bi:=pl.Ex (x:=q) (y:=G) true (by simpa using aa);refine gr.Dm 11 rfl ϧ (S:=λc=>ϖ c m (vI j) (vI q) (vS l E o) (.string D) (.bool true)) (W.o _ bR.drew) (λd=>?_)
   iterate 8 refine CE 11 d ?_
   refine rD 8 λK g=>?_;go_simp;go_at_call 344;refine(F.o _ bR.drew).mono ?_;rintro e wg ⟨rfl,al⟩;have P:ϣ V wg:=bR.drew.trans al;go_wp2_with fail;refine g.out _ _ (W.o _ P) (λd=>?_);clear g K
   try simp only[Act.put,sI,sZ,sSz]
   refine tkz 9 16 d ?_;refine tkz 10 17 d ?_;refine wpAnyH_done ϧ ?_ _;have ac:Ϣ (KJ=⟨(AU s j C).L,(AU s j C).R,s.lm,s.rm,Q+1⟩):=by show _=_;rw[A.o,if_pos ⟨trivial,aa⟩]
   have ap:=B.o trivial aa;have bc:Ϣ (∀c,ϣ wg c->ϖ c m (vI j) (vI q) (vS l E o) (.string D) (.bool true)):=λc f=>W.o _ (bT P f);go_wp2;refine gr.Dm 7 rfl ϧ (S:=λc=>ϖ c m (vI j) (vI q) (vS l E o) (.string D) (.bool true)) (bc.o _ bR.drew) (λd=>?_)
   iterate 5 refine CE 7 d ?_
   refine rD 5 λK g=>?_;go_simp;go_at_call 252;refine(KB.o _).mono ?_;rintro e wq ⟨rfl,rfl⟩;go_wp2_with fail;refine g.out _ _ d (λd=>?_);clear g K
   try simp only[Act.put,sI,sZ,sSz]
   refine tkz 6 6 d ?_;refine wpAnyH_done ϧ ?_ _;go_wp2;generalize ak:wg.drew=W3;have O:ϣ w W3:=by rw[<-ak];exact(bT N P).drew
   have ag:ϣ V W3:=by rw[<-ak];exact P.drew
   clear ak;have bd:Ϣ (∀a,ϣ W3 a->CT 345 #[.agg (τ bq m1 m2 m3 br n bs),.agg (φ D q Q l E o met)] a λr c=>(∃X,r= .returned (.tuple #[.agg (Ω C X),Ϗ])/\OB c a X C)/\ϣ a c):=λa u=>ap a (bT O u);obtain⟨a7,a8,a9⟩:=ab.o _ O;have bu:=ah.o _ O;have aq:Ϣ (∀c,ϣ W3 c->ϛ c m (vI j) (vI q) (vS l E o) (.string D) (.bool true) (Δ c b 21 (vI Q))):=λc f=>⟨cLz f (cLz ag s0),cLz f (cLz ag s1),cLz f (cLz ag s2),cLz f (cLz ag s3),cLz f (cLz ag s4),cLz f bu⟩;clear ap;refine gr.Dm 23 rfl ϧ (S:=λc=>ϛ c m (vI j) (vI q) (vS l E o) (.string D) (.bool true) (Δ c b 21 (vI Q))) (aq.o _ bR.drew) (λd=>?_)
   iterate 3 refine CE 23 d ?_
   iterate 13 refine CE 24 d ?_
   refine rD 3 λK g=>?_;go_simp;refine g.out _ _ d (λd=>?_);clear g K
   try simp only[Act.put,sI,sZ,sSz]
   refine rD 17 λK g=>?_;go_simp;go_at_call 345;refine(bd.o _ bR.drew).mono ?_;rintro e wp ⟨⟨X,rfl,af⟩,bg⟩;have ai:ϣ W3 wp:=bR.drew.trans bg;go_wp2_with fail;refine g.out _ _ (aq.o _ ai) (λd=>?_);clear g K
   try simp only[Act.put,sI,sZ,sSz]
   iterate 4 refine CE 23 d ?_
   have bb:=hV0 af;obtain⟨d0,d1,d2⟩:=lk3 ai a7 a8 a9;have Y:ϣ w wp:=bT O ai;have f0:=R.o _ Y k Ϥ;have f1:=R.o _ Y (k+1) Ϥ;have f2:=R.o _ Y (k+1+1) Ϥ;have ae:b≠m:=Ϥ;have M:=d;clear af d;refine rD 22 λK g=>?_;go_simp;refine g.out _ _ ⟨F9 M.1 ae _ _ _,F9 M.2.1 ae _ _ _,F9 M.2.2.1 ae _ _ _,F9 M.2.2.2.1 ae _ _ _,F9 M.2.2.2.2.1 ae _ _ _,Ck M.2.2.2.2.2 Ϥ Ϥ Ϥ _ _ _⟩ (λd=>?_);clear g K;refine wpAnyH_done ϧ ?_ _;have ar:=d.2.2.2.2.2;have au:Ξ (ό (ό (ό wp b k (vI C.lim)) b (k+1) (vS X.m.1.1 X.m.1.2.1 X.m.1.2.2)) b (k+1+1) (vS X.ra X.rs.length X.rc)) b 21:=UW (R.o _ Y 21 Ϥ) _ _ _;have an:=(Bl Y).trans (I6 (U.o.below Y).ty k (vI C.lim) (vS X.m.1.1 X.m.1.2.1 X.m.1.2.2) (vS X.ra X.rs.length X.rc));have aj:=UY (U.o.below O) hT ai j bb.o nR k am.o;unfold hdV at aj;generalize (((wp.setCell ⟨b,k,none⟩ (vI C.lim)).setCell ⟨b,k+1,none⟩ (vS X.m.1.1 X.m.1.2.1 X.m.1.2.2)).setCell ⟨b,k+1+1,none⟩ (vS X.ra X.rs.length X.rc))=W4 at *;have ba:Ϣ (Cy T w W4):=an;clear an;have ao:Ϣ (JSt w0 W4 b T p x (AU s j C) (Mt y j X) t L):=aj;clear aj d M;go_wp2;refine bodyPost_end (v:=.tuple #[]) (by simp[results,results340,go_sem]) rfl ⟨rfl,Mt y j X,?_,ba.o.trans (Fu ao.o.ty _ _)⟩;have a4:=UX ao.o hT (Q+1);rw[(PU s j C).1,(PU s j C).2.1]at a4;rw[ac.o];exact a4
  ·have bi:=pl.Ex (x:=q) (y:=G) false (by simpa using aa);refine gr.Dm 11 rfl ϧ (S:=λc=>ϖ c m (vI j) (vI q) (vS l E o) (.string D) (.bool true)) (W.o _ bR.drew) (λd=>?_)
   iterate 8 refine CE 11 d ?_
   refine rD 8 λK g=>?_;go_simp;go_at_call 344;refine(F.o _ bR.drew).mono ?_;rintro e wg ⟨rfl,al⟩;have P:ϣ V wg:=bR.drew.trans al;go_wp2_with fail;refine g.out _ _ (W.o _ P) (λd=>?_);clear g K
   try simp only[Act.put,sI,sZ,sSz]
   refine tkz 9 16 d ?_;refine tkz 10 17 d ?_;refine wpAnyH_done ϧ ?_ _;have ac:Ϣ (KJ=⟨s.L,s.R,s.lm,s.rm,Q+1⟩):=by show _=_;rw[A.o,if_neg (by simp[aa])]
   have ad:ϣ w wg:=bT N P;have ar:=ah.o _ ad;have au:=R.o _ ad 21 Ϥ;go_wp2;refine bodyPost_end (v:=.tuple #[]) (by simp[results,results340,go_sem]) rfl ⟨rfl,y,?_,?_⟩
   ·rw[ac.o];exact UX (U.o.below ad) hT _
   ·exact(Bl ad).trans (Fu (U.o.below ad).ty _ _)
end jn
namespace gr
open vl pl bt
theorem Afe:Tryz.prog.cellsOf 121=4:=ϧ
theorem Ad3:Tryz.prog.cellsOf 102=3:=ϧ
theorem Ad4:Tryz.prog.cellsOf 117=1:=ϧ
theorem Ad5:Tryz.prog.cellsOf 100=1:=ϧ
theorem AaS:Tryz.prog.cellsOf 80=1:=ϧ
def wfT(t:Tal):Prop:=t.1.s.size<=maxLen/\i64 t.1.n/\i64 t.2
section
variable {H : Type} {enc : TypeId × Value -> H} {w : Ϡ} {base : Nat} {spare : Nat -> Bool} {held : Bool}
theorem I3{v:Value}{y:DataW H×List MemPlace}{fuel:Nat}(h:DataW.trod enc Tryz.prog w base spare held fuel 80 [v]=some y):
 ∃a f g r,v= .slice a f g/\List.length (α:=Cel) r=f/\vl.rowAt w a r/\Bq r/\f<=9223372036854775807:=by
 rcases open_slice underlying80 h with⟨e,_⟩|⟨x,l,c,m,n,D,z,e,_⟩
 ·simp at e;subst e;obtain⟨r,j,o,q,u⟩:=open_row (a:=none) (len:=0) (cap:=0) (d:=y.1) (p:=y.2) ⟨fuel,h⟩;exact⟨_,_,_,r,rfl,j,o,q,u⟩
 ·simp at e;subst e;obtain⟨r,j,o,q,u⟩:=open_row (a:=some x) (len:=l) (cap:=c) (d:=y.1) (p:=y.2) ⟨fuel,h⟩;exact⟨_,_,_,r,rfl,j,o,q,u⟩
theorem SX{x:Addr}{e:List Value}{y:DataW H×List MemPlace}{fuel:Nat}(z:w.cells? base x 4=some e)(ht:DataW.trod enc Tryz.prog w base spare held fuel 121 e=some y):
 ∃(b a:Nat) (t:Tal),x=⟨b,a,none⟩/\Δ w b a (.int .i64 t.1.k)/\Δ w b (a+1) (.int .i64 t.1.n)/\Δ w b (a+2) (.string t.1.s)/\Δ w b (a+3) (.int .i64 t.2)/\wfT t:=by
 obtain⟨_,A,d⟩:=World.cells?_some z;obtain⟨J,K,n,_,_,o,u⟩:=trod_struct2 underlying121 ht
 match e,A with
 |[a0,a1,a2,a3],_=>
  simp[ZR]at o;obtain⟨M,N,O,G,_,_,c,f,g⟩:=trod_struct3 underlying119 o;obtain⟨k,e0,_,I⟩:=DataW.trod_int underlying3 c;obtain⟨m,h,_,E⟩:=DataW.trod_int underlying3 f;obtain⟨s,j,_,B⟩:=DataW.trod_string underlying9 g;obtain⟨q,l,_,F⟩:=DataW.trod_int underlying3 u;simp[CR]at e0;simp[CR]at h;simp[Se]at j;simp[CR]at l;subst e0 h j l;obtain⟨b,a,D⟩:=x;have c:=d 0 Ϥ;have f:=d 1 Ϥ;have g:=d 2 Ϥ;have r:=d 3 Ϥ;have C:D=none:=by simpa[Addr.add]using World.cell?_spot c
  subst C;refine⟨b,a,(⟨k,m,s⟩,q),rfl,?_,?_,?_,?_,B,bounds_i64 E,bounds_i64 F⟩
  ·simpa[Addr.add]using c
  ·simpa[Addr.add]using f
  ·simpa[Addr.add]using g
  ·simpa[Addr.add]using r
theorem MG(b a j:Nat):(⟨b,a,none⟩:Addr).add j=⟨b,a+j,none⟩:=by unfold Addr.add;split<;>simp_all
theorem AaT{v:Value}{y:DataW H×List MemPlace}{fuel:Nat}(M:DataW.trod enc Tryz.prog w base spare held fuel 117 [v]=some y):
 ∃(h:Option Addr×Nat×Nat) (l:List Tal),v= .slice h.1 h.2.1 h.2.2/\h.2.1=l.length/\FL w h.1 l/\l.length<=ύ/\∀t∈l,wfT t:=by
 rcases open_slice underlying117 M with⟨j,_⟩|⟨x,g,c,m,n,D,R,j,_,W,N,O,_,z⟩
 ·simp at j;subst j;exact⟨(none,0,0),[],rfl,rfl,λi d=>absurd d (Nat.not_lt_zero i),Ϧ,λt A=>by cases A⟩
 ·simp at j;subst j;have X:g<=m:=by rw[O];split<;>omega
  rw[Afe]at z;obtain⟨f,C⟩:=choose_lt (α:=Tal) (n:=g) (p:=λi t=> ∃b a,x=⟨b,a,none⟩/\Δ w b (a+i * 4) (.int .i64 t.1.k)/\Δ w b (a+i * 4+1) (.int .i64 t.1.n)/\Δ w b (a+i * 4+2) (.string t.1.s)/\Δ w b (a+i * 4+3) (.int .i64 t.2)/\wfT t) (λi d=>by
   obtain⟨U,J,K⟩:=z i Ϥ;obtain⟨b,a,t,e,o,q,r,u,B⟩:=SX J K;obtain⟨V,P,Q⟩:=z 0 Ϥ;obtain⟨G,F,S,e0,_⟩:=SX P Q;have I:x=⟨G,F,none⟩:=by simpa[Addr.add]using e0
   subst I;rw[MG]at e
   cases e
   exact⟨t,b,F,rfl,o,q,r,u,B⟩)
  refine⟨(some x,g,c),(List.range g).map f,rfl,Ϧ,λi d=>?_,by unfold maxLen at N;simp;omega,λt A=>?_⟩
  ·have E:i<g:=by simpa using d
   obtain⟨b,a,rfl,o,q,r,u,_⟩:=C i E;have e:((List.range g).map f).getD i default=f i:=by simp[gDe,E]
   rw[e];exact⟨b,a,rfl,o,q,r,u⟩
  ·obtain⟨i,d,rfl⟩:=mem_map.1 A;obtain⟨_,_,_,_,_,_,_,B⟩:=C i (mem_range.1 d);exact B
theorem Yu{v:Value}{y:DataW H×List MemPlace}{fuel:Nat}(c:DataW.trod enc Tryz.prog w base spare held fuel 117 [v]=some y):
 ∃(h:Option Addr×Nat×Nat) (l:List Tal),v= .slice h.1 h.2.1 h.2.2/\h.2.1=l.length/\FL w h.1 l/\(l.length<=ύ/\l.length<=Rows.uptoBulk y.1)/\∀t∈l,wfT t:=by
 obtain⟨h,l,rfl,a,d,e,f⟩:=AaT c;exact⟨h,l,rfl,a,d,⟨e,by rw[<-a];exact bf.Nz underlying117 c⟩,f⟩
theorem Yv{v:Value}{y:DataW H×List MemPlace}{fuel:Nat}(Z:DataW.trod enc Tryz.prog w base spare held fuel 100 [v]=some y):
 ∃(K:ϡ) (O:Nat) (B:List (Option Addr×Nat×Nat)) (g:List (List Tal)),v= .slice K g.length O/\JB w K B/\B.length=g.length/\g.length<=ύ/\
  (∀i,i<g.length->(B.getD i (none,0,0)).2.1=(g.getD i []).length/\FL w (B.getD i (none,0,0)).1 (g.getD i []))/\∀l∈g,(l.length<=ύ/\l.length<=Rows.uptoBulk y.1)/\∀t∈l,wfT t:=by
 rcases open_slice underlying100 Z with⟨z,_⟩|⟨x,d,c,m,n,D,Pl,z,_,A,hm,ac,hy,E⟩
 ·simp at z;subst z;exact⟨none,0,[],[],rfl,λi a=>absurd a (Nat.not_lt_zero i),rfl,Ϧ,λi a=>absurd a (Nat.not_lt_zero i),λl A=>by cases A⟩
 ·simp at z;subst z;have af:d<=m:=by rw[ac];split<;>omega
  rw[Ad4]at E;obtain⟨f,F⟩:=choose_lt (α:=(Option Addr×Nat×Nat)×List Tal) (n:=d) (p:=λi q=> ∃b j,x=⟨b,j,none⟩/\Δ w b (j+i) (.slice q.1.1 q.1.2.1 q.1.2.2)/\q.1.2.1=q.2.length/\FL w q.1.1 q.2/\(q.2.length<=ύ/\q.2.length<=Rows.uptoBulk (D i))/\∀t∈q.2,wfT t) (λi a=>by
   obtain⟨P,U,V⟩:=E i Ϥ;obtain⟨_,ab,W⟩:=World.cells?_some U
   match P,ab with
   |[u],_=>
    obtain⟨h,l,hv,G,I,C,J⟩:=Yu V;have o:=W 0 Ϥ;obtain⟨b,j,N⟩:=x;obtain⟨M,z1,_⟩:=E 0 Ϥ;obtain⟨_,aa,X⟩:=World.cells?_some z1;obtain⟨u0,ae⟩:∃u0,M=[u0]:=by
     match M,aa with
     |[u0],_=>exact⟨u0,rfl⟩
    subst ae;have S:w.cell? ((Addr.mk b j N).add (0 * 1)|>.add 0)=some u0:=X 0 Ϥ;have ad:N=none:=by simpa[Addr.add]using World.cell?_spot S
    subst ad;rw[Nat.mul_one,MG]at o;rw[MG]at o;simp at o;subst hv;exact⟨(h,l),b,j,rfl,o,G,I,C,J⟩)
  have Y:∀i,i<d->Rows.uptoBulk (D i)<=Rows.uptoBulk y.1:=λi a=>by
   rw[hy];have:=bf.Ny (l:=(List.range d).map D) (mem_map.2 ⟨i,mem_range.2 a,rfl⟩);simp only[Rows.uptoBulk];omega
  refine⟨some x,c,(List.range d).map λi=>(f i).1,(List.range d).map λi=>(f i).2,Ϧ,λi a=>?_,Ϧ,by unfold maxLen at hm;simp;omega,λi a=>?_,λl A=>?_⟩
  ·have r:i<d:=by simpa using a
   obtain⟨b,j,rfl,o,_⟩:=F i r;refine⟨b,j,rfl,?_⟩;have e:((List.range d).map λi=>(f i).1).getD i (none,0,0)=(f i).1:=by simp[gDe,r]
   rw[e];exact o
  ·have r:i<d:=by simpa using a
   obtain⟨_,_,_,_,G,I,_⟩:=F i r;have Q:((List.range d).map λi=>(f i).1).getD i (none,0,0)=(f i).1:=by simp[gDe,r]
   have R:((List.range d).map λi=>(f i).2).getD i []=(f i).2:=by simp[gDe,r]
   rw[Q,R];exact⟨G,I⟩
  ·obtain⟨i,a,rfl⟩:=mem_map.1 A;obtain⟨_,_,_,_,_,_,C,J⟩:=F i (mem_range.1 a);exact⟨⟨C.1,Nat.le_trans C.2 (Y i (mem_range.1 a))⟩,J⟩
theorem SY{x:Addr}{e:List Value}{y:DataW H×List MemPlace}{fuel:Nat}(K:w.cells? base x 3=some e)(ht:DataW.trod enc Tryz.prog w base spare held fuel 102 e=some y):
 ∃(b c:Nat) (q:GX×Grp),x=⟨b,c,none⟩/\Δ w b c (.slice q.1.r q.2.row.length q.1.rc)/\Δ w b (c+1) (.int .i64 q.2.n)/\Δ w b (c+2) (.slice q.1.b q.2.bags.length q.1.bc)/\gAt w q.1 q.2/\(wfG q.2/\∀l∈q.2.bags,l.length<=Rows.uptoBulk y.1):=by
 obtain⟨_,M,f⟩:=World.cells?_some K;obtain⟨Y,Z,y2,n,hy,_,o,J,u⟩:=trod_struct3 underlying102 ht
 match e,M with
 |[a0,a1,a2],_=>
  simp[AaS]at o;simp[Ad5]at u;obtain⟨S,X,U,r,e0,a,O,R,N⟩:=I3 o;obtain⟨q,j,_,W⟩:=DataW.trod_int underlying3 J;obtain⟨C,E,P,D,F,z,A,B,h,d⟩:=Yv u;simp[CR]at j;subst e0 j F a;obtain⟨b,c,V⟩:=x;have m:=f 0 Ϥ;have G:=f 1 Ϥ;have I:=f 2 Ϥ;have Q:V=none:=by simpa[Addr.add]using World.cell?_spot m
  subst Q;refine⟨b,c,(⟨S,U,C,E,P⟩,⟨r,q,D⟩),rfl,?_,?_,?_,⟨O,z,A,λi g=>(h i g).1,λi g=>(h i g).2⟩,⟨⟨R,N,bounds_i64 W,B,λl a=>⟨(d l a).1.1,λt ht=>(d l a).2 t ht⟩⟩,λl a=>by have:=(d l a).1.2;rw[hy];simp only[Rows.uptoBulk,Rows.uptoBulkAll];omega⟩⟩
  ·simpa[Addr.add]using m
  ·simpa[Addr.add]using G
  ·simpa[Addr.add]using I
theorem SZ{a:ϡ}{len cap:Nat}{d:DataW H}{p:List MemPlace}(h:DataW.Trod enc Tryz.prog w base spare held 39 (.slice a len cap) d p):
 ∃(Y:List GX) (I:List Grp),I.length=len/\gsAt w a Y I/\(∀g∈I,wfG g/\∀l∈g.bags,l.length<=Rows.uptoBulk d)/\len<=9223372036854775807:=by
 obtain⟨fuel,V⟩:=h;rcases open_slice underlying39 V with⟨u,_⟩|⟨x,l,c,m,n,D,Pl,u,_,N,W,X,hy,J⟩
 ·simp[Value.cells]at u;obtain⟨rfl,rfl,rfl⟩:=u;exact⟨[],[],rfl,⟨rfl,λi j=>absurd j (Nat.not_lt_zero i),λi j=>absurd j (Nat.not_lt_zero i)⟩,(λg M=>by cases M),Ϥ⟩
 ·simp[Value.cells]at u;obtain⟨rfl,rfl,rfl⟩:=u;have ac:len<=m:=by rw[X];split<;>omega
  rw[Ad3]at J;obtain⟨f,K⟩:=choose_lt (α:=GX×Grp) (n:=len) (p:=λi q=> ∃b r,x=⟨b,r,none⟩/\Δ w b (r+i * 3) (.slice q.1.r q.2.row.length q.1.rc)/\Δ w b (r+i * 3+1) (.int .i64 q.2.n)/\Δ w b (r+i * 3+2) (.slice q.1.b q.2.bags.length q.1.bc)/\gAt w q.1 q.2/\(wfG q.2/\∀l∈q.2.bags,l.length<=Rows.uptoBulk (D i))) (λi j=>by
   obtain⟨aa,R,S⟩:=J i Ϥ;obtain⟨b,r,q,e,C,E,F,G,z⟩:=SY R S;obtain⟨ab,Z,z2⟩:=J 0 Ϥ;obtain⟨P,O,c0,e0,_⟩:=SY Z z2;have Q:x=⟨P,O,none⟩:=by simpa[Addr.add]using e0
   subst Q;rw[MG]at e
   cases e
   exact⟨q,b,O,rfl,C,E,F,G,z⟩)
  have U:∀i,i<len->Rows.uptoBulk (D i)<=Rows.uptoBulk d:=λi j=>by
   have:=bf.Ny (l:=(List.range len).map D) (mem_map.2 ⟨i,mem_range.2 j,rfl⟩);have e:d=_:=congrArg Prod.fst hy;rw[e];simp only[Rows.uptoBulk];omega
  refine⟨(List.range len).map λi=>(f i).1,(List.range len).map λi=>(f i).2,Ϧ,⟨Ϧ,λi j=>?_,λi j=>?_⟩,λg M=>?_,by unfold maxLen at W;omega⟩
  ·have o:i<len:=by simpa using j
   obtain⟨b,r,rfl,C,E,F,_⟩:=K i o;have A:((List.range len).map λi=>(f i).1).getD i default=(f i).1:=by simp[gDe,o]
   have B:((List.range len).map λi=>(f i).2).getD i default=(f i).2:=by simp[gDe,o]
   rw[A,B];exact⟨b,r,rfl,C,E,F⟩
  ·have o:i<len:=by simpa using j
   obtain⟨_,_,_,_,_,_,G,_⟩:=K i o;have A:((List.range len).map λi=>(f i).1).getD i default=(f i).1:=by simp[gDe,o]
   have B:((List.range len).map λi=>(f i).2).getD i default=(f i).2:=by simp[gDe,o]
   rw[A,B];exact G
  ·obtain⟨i,j,rfl⟩:=mem_map.1 M;obtain⟨_,_,_,_,_,_,_,z⟩:=K i (mem_range.1 j);exact⟨z.1,λl N=>Nat.le_trans (z.2 l N) (U i (mem_range.1 j))⟩
end
end gr
end Go.Proofs.YtfkihidbnfkbaaaGreatDoor
