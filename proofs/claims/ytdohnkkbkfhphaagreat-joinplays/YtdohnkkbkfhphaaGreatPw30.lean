import Derived.Test.YtdohnkkbkfhphaaGreatPw27
set_option linter.all false
set_option maxHeartbeats 8000000
set_option maxRecDepth 100000
open Go.ChangeShapes Go.WideShapes Go.ChangeAt Go.RowKit Go.Maps List
namespace Go.Proofs.YtdohnkkbkfhphaaGreat
open Go.Proofs.Tryz
namespace jn
open vl bf
attribute [local go_sem] Oper.semAt_some
variable {w w0 : ϛ} {b base i k : Nat} {p : pl.Pln} {x : pl.PA} {s : Jn} {y : JX} {t v : Value} {T : TypeId} {L : List CO}
theorem JW(h:boxP w b p x)(A:13<=k)(u:Value):boxP (φ w b k u) b p x:=by
 obtain⟨a,c,g,j,m,n,o,q,r,z,d,e,f⟩:=h;exact⟨cell_far a ϟ,cell_far c ϟ,cell_far g ϟ,cell_far j ϟ,cell_far m ϟ,cell_far n ϟ,cell_far o ϟ,cell_far q ϟ,cell_far r ϟ,cell_far z ϟ,cell_far d ϟ,cell_far e ϟ,cell_far f ϟ⟩
theorem Dx{n:Nat}(h:w.there b 0 n)(q:Nat)(u:Value):(w.setCell ⟨q,k,none⟩ u).there b 0 n:=λj a=>⟨by
 obtain⟨v,c⟩:=Option.isSome_iff_exists.1 (h j a).1;obtain⟨e,d⟩:=cell?_setCell_some (p:=⟨q,k,none⟩) (x:=u) c;rw[d];rfl,by rw[World.frozen?_setCell];exact(h j a).2⟩
theorem Zn(h:boxC w b p x s y t)(n:Int):boxC (φ w b 21 (vI n)) b p x ⟨s.L,s.R,s.lm,s.rm,n⟩ y t:=by
 refine⟨JW h.plan ϟ _,?_,cell_far h.told ϟ,Dx h.room _ _⟩;obtain⟨u0,u1,u2,u3,u4,u5,u6,u7,u8⟩:=h.join;exact⟨cell_far u0 ϟ,cell_far u1 ϟ,cell_far u2 ϟ,cell_far u3 ϟ,cell_far u4 ϟ,cell_far u5 ϟ,cell_far u6 ϟ,cell_far u7 ϟ,World.cell?_setCell_same _ _ _ u8⟩
def GB(y:JX)(side:Int)(z:BX):JX:=if side=2 then⟨y.l,z⟩else⟨z,y.r⟩
theorem AY(h:Δ w b i v)(h0:k≠i)(h1:k+1≠i)(a:k+1+1≠i)(u0 u1 u2:Value):Δ (φ (φ (φ w b k u0) b (k+1) u1) b (k+1+1) u2) b i v:=cell_far (cell_far (cell_far h h0) h1) a
theorem Mo(h:Δ w b k v)(u0 u1 u2:Value):Δ (φ (φ (φ w b k u0) b (k+1) u1) b (k+1+1) u2) b k u0:=cell_far (cell_far (World.cell?_setCell_same _ _ _ h) ϟ) ϟ
theorem Mp(h:Δ w b (k+1) v)(u0 u1 u2:Value):Δ (φ (φ (φ w b k u0) b (k+1) u1) b (k+1+1) u2) b (k+1) u1:=cell_far (World.cell?_setCell_same _ _ _ (cell_far h ϟ)) ϟ
theorem Mq(h:Δ w b (k+1+1) v)(u0 u1 u2:Value):Δ (φ (φ (φ w b k u0) b (k+1) u1) b (k+1+1) u2) b (k+1+1) u2:=World.cell?_setCell_same _ _ _ (cell_far (cell_far h ϟ) ϟ)
theorem Zo(h:boxC w b p x s y t)(side:Int)(B:Buf)(X:BX)(k:Nat)(a:13+A1 side=k):boxC (φ (φ (φ w b k (vI B.lim)) b (k+1) (hdV X.m.1)) b (k+1+1) (vS X.ra X.rs.length X.rc)) b p x (Av s side B) (GB y side X) t:=by
 have c:A1 side=0\/A1 side=3:=by unfold A1;split<;>simp
 refine⟨JW (JW (JW h.plan ϟ _) ϟ _) ϟ _,?_,AY h.told ϟ ϟ ϟ _ _ _,Dx (Dx (Dx h.room _ _) _ _) _ _⟩;obtain⟨u0,u1,u2,u3,u4,u5,u6,u7,u8⟩:=h.join;unfold A1 at a;unfold Av GB;by_cases e:side=2
 ·rw[if_pos e]at a;subst a;rw[if_pos e,if_pos e];refine⟨AY u0 ϟ ϟ ϟ _ _ _,AY u1 ϟ ϟ ϟ _ _ _,AY u2 ϟ ϟ ϟ _ _ _,Mo u3 _ _ _,Mp u4 _ _ _,Mq u5 _ _ _,AY u6 ϟ ϟ ϟ _ _ _,AY u7 ϟ ϟ ϟ _ _ _,AY u8 ϟ ϟ ϟ _ _ _⟩
 ·rw[if_neg e]at a;subst a;rw[if_neg e,if_neg e];refine⟨Mo u0 _ _ _,Mp u1 _ _ _,Mq u2 _ _ _,AY u3 ϟ ϟ ϟ _ _ _,AY u4 ϟ ϟ ϟ _ _ _,AY u5 ϟ ϟ ϟ _ _ _,AY u6 ϟ ϟ ϟ _ _ _,AY u7 ϟ ϟ ϟ _ _ _,AY u8 ϟ ϟ ϟ _ _ _⟩
theorem EX{q:Nat}(h:Δ w q i v)(a:b≠q)(u0 u1 u2:Value):Δ (φ (φ (φ w b k u0) b (k+1) u1) b (k+1+1) u2) q i v:=
 have ne:∀j,(⟨b,j,none⟩:Addr)≠⟨q,i,none⟩:=λj e=>a (by injection e)
 ((World.cell?_setCell_other _ _ _ _ (ne _)).trans ((World.cell?_setCell_other _ _ _ _ (ne _)).trans (World.cell?_setCell_other _ _ _ _ (ne _)))).trans h
theorem TS{q:Addr}(h:w.frozen? q=false)(u0 u1 u2:Value):(((w.setCell ⟨b,k,none⟩ u0).setCell ⟨b,k+1,none⟩ u1).setCell ⟨b,k+1+1,none⟩ u2).frozen? q=false:=by
 rw[World.frozen?_setCell,World.frozen?_setCell,World.frozen?_setCell];exact h
theorem OY(s:Jn)(side:Int)(B:Buf):(Av s side B).lm=s.lm/\(Av s side B).rm=s.rm/\(Av s side B).seq=s.seq:=by unfold Av;split<;>exact⟨rfl,rfl,rfl⟩
theorem EF(h:An w b T)(k:Nat)(u:Value):BQ T w (φ w b k u):=⟨(Below.refl 0 w).setCell (Nat.zero_le _) u,λg e d c _ _=>heap_setCell_other _ _ _ _ (λa=>tyAt_apart d h c a)⟩
theorem Gc(h:An w b T)(k:Nat)(u0 u1 u2:Value):BQ T w (φ (φ (φ w b k u0) b (k+1) u1) b (k+1+1) u2):=
 ((EF h _ _).trans (EF (Ao h _ _) _ _)).trans (EF (Ao (Ao h _ _) _ _) _ _)
theorem JY(h:CG w base v L)(c:An w b T)(a:calmC T)(k:Nat)(u:Value):CG (φ w b k u) base v L:=QG h c a.c a.t.v k u
theorem TT(h:JSt w0 w b T p x s y t L)(a:calmC T)(n:Int):JSt w0 (φ w b 21 (vI n)) b T p x ⟨s.L,s.R,s.lm,s.rm,n⟩ y t L:=
 ⟨Zn h.box n,Ao h.ty _ _,h.up,DR h.l h.ty a.t _ _,DR h.r h.ty a.t _ _,h.ap,JY h.cg h.ty a _ _,h.bl.setCell h.up _⟩
theorem Abc(h:JSt w0 w b T p x s y t L)(a:calmC T)(side time:Int):JSt w0 (φ w b (13+BC side) (vI time)) b T p x (BS s side time) y t L:=by
 have e:(BS s side time).L=s.L/\(BS s side time).R=s.R:=by unfold BS;split<;>exact⟨rfl,rfl⟩
 exact⟨XD h.box side time,Ao h.ty _ _,h.up,by rw[e.1];exact DR h.l h.ty a.t _ _,by rw[e.2];exact DR h.r h.ty a.t _ _,h.ap,JY h.cg h.ty a _ _,h.bl.setCell h.up _⟩
theorem Qn{d:ϛ}(h:JSt w0 w b T p x s y t L)(c:calmC T)(E:Ϟ w d)(side:Int){B:Buf}{X:BX}(m:OB d base X B)(j:w.heap.size<=base)(k:Nat)(F:13+A1 side=k):
 JSt w0 (φ (φ (φ d b k (vI B.lim)) b (k+1) (hdV X.m.1)) b (k+1+1) (vS X.ra X.rs.length X.rc)) b T p x (Av s side B) (GB y side X) t L:=by
 have a:=h.below E;have o:=a.ty;have r:=Ao o ⟨b,k,none⟩ (vI B.lim);have g:=Ao r ⟨b,k+1,none⟩ (hdV X.m.1);have n:∀{u:Nat} {Z:BX} {C:Buf},OB d u Z C->OB (φ (φ (φ d b k (vI B.lim)) b (k+1) (hdV X.m.1)) b (k+1+1) (vS X.ra X.rs.length X.rc)) u Z C:=λJ=>DR (DR (DR J o c.t _ _) r c.t _ _) g c.t _ _;have G:w0.heap.size<=base:=Nat.le_trans h.bl.size j;have D:=n (A5 m G);have A:=JY (JY (JY a.cg o c k (vI B.lim)) r c (k+1) (hdV X.m.1)) g c (k+1+1) (vS X.ra X.rs.length X.rc);have z:=((a.bl.setCell (p:=⟨b,k,none⟩) h.up (vI B.lim)).setCell (p:=⟨b,k+1,none⟩) h.up (hdV X.m.1)).setCell (p:=⟨b,k+1+1,none⟩) h.up (vS X.ra X.rs.length X.rc);have f:=Zo a.box side B X k F;unfold Av GB at *;by_cases e:side=2
 ·rw[if_pos e,if_pos e]at f;rw[if_pos e,if_pos e];exact⟨f,Ao g _ _,h.up,n a.l,D,Ns h.l m j,A,z⟩
 ·rw[if_neg e,if_neg e]at f;rw[if_neg e,if_neg e];exact⟨f,Ao g _ _,h.up,D,n a.r,λp H q I=>M0 (Ns h.r m j q I p H),A,z⟩
def Jl(p:pl.Pln)(s:Jn):Nat->Jn
 |0=>s
 |1=>⟨Bt (Cm (BI p s 1)) s.L,s.R,s.lm,s.rm,s.seq⟩
 |_=>dropJ p s
theorem Zp(h:k<2):pl.Bz ((k:Int)+1)=true/\bufOf (Jl p s k) ((k:Int)+1)=bufOf s ((k:Int)+1)/\BI p (Jl p s k) ((k:Int)+1)=BI p s ((k:Int)+1)/\Av (Jl p s k) ((k:Int)+1) (Bt (Cm (BI p s ((k:Int)+1))) (bufOf s ((k:Int)+1)))=Jl p s (k+1):=by
 match k,h with
 |0,_=>exact⟨Ϡ,rfl,rfl,rfl⟩
 |1,_=>exact⟨Ϡ,rfl,rfl,rfl⟩
theorem Jt(b:Nat)(T:TypeId)(p:pl.Pln)(x:pl.PA)(s:Jn)(y:JX)(t:Value)(L:List CO)(w0 w:ϛ)(h:JSt w0 w b T p x s y t L)(hT:calmC T)(aj:T≠3)(hw:pl.wfPlan p)(hp:pl.planAt w0 p x)(hg:goodJ p s):
 η 254 #[μ b] w λe B=>e= .returned (.tuple #[])/\∃j,JSt w0 B b T p x (dropJ p s) j t L/\BQ T w B:=by
 have HJ:=hV0 h;have HG:=hV0 hg;have ai:ϝ (pl.wfPlan p/\pl.planAt w0 p x):=⟨hw,hp⟩;clear h hg hw hp;go_enter func254,ntmps254;go_wp2;generalize H:(World.alloc w _)=V;have ak:Ϟ w V:=by rw[<-H];exact Ϫ
 have M:Δ V w 0 (vI 1):=by subst H;go_simp
 have N:Δ V w 1 (vI 2):=by subst H;go_simp
 have ah:ϝ (An V w 3):=by subst H;exact⟨_,_,World.alloc_heap_new w _⟩
 clear H
 go_loopw [7] (λi wr=> ∃(k:Nat) (j:JX),k<=2/\i=vI k/\ϝ (JSt w0 wr b T p x (Jl p s k) j t L)/\ϝ (BQ T V wr)) (λi _=>2 - (intOf i).toNat)
 case atStart=>exact⟨0,y,ϟ,rfl,HJ.o.below ak,A7 bR⟩
 case round=>
  obtain⟨k,j,hk,rfl,g,F⟩:=hrel;have M:=F.o.cell ah.o aj.symm Ϡ Ϡ M;have N:=F.o.cell ah.o aj.symm Ϡ Ϡ N;by_cases an:k<2
  ·have i1:(0:Int)<=(k:Int):=ϟ;have i2:(k:Int)<2:=ϟ;have ac:Δ wr w k (vI ((k:Int)+1)):=by
    match k,an with
    |0,_=>exact M
    |1,_=>exact N
   clear M N;obtain⟨d1,O,d3,d4⟩:=Zp (p:=p) (s:=s) an;obtain⟨o,ad⟩:=nM (Bt (Cm (BI p s ((k:Int)+1))) (bufOf s ((k:Int)+1)));rw[ad]at d4;have P:=HG.o.of ((k:Int)+1);have u:bufAt wr (bufOf s ((k:Int)+1)) (Bl j ((k:Int)+1)):=by
    rw[<-O];unfold bufOf Bl;split
    ·exact g.o.r.at
    ·exact g.o.l.at
   have E:=F2 g.o.box.join ((k:Int)+1);rw[O]at E;have J:ϝ (∀d,Ϟ wr d->CT 260 #[μ b,vI ((k:Int)+1)] d (θ d (vI (BI p s ((k:Int)+1))))):=λd D=>by
    have:=JH b p x (Jl p s k) j t ((k:Int)+1) d ai.o.1 (pl.Aj ai.o.2 (g.o.bl.trans (D.mono g.o.bl.size))) (g.o.below D).box d1;rw[d3]at this;exact this
   have KB:ϝ (∀d,CT 144 #[.pointer (some ⟨b,13,none⟩),vI ((k:Int)+1)] d λe B=>e= .returned (.pointer (some ⟨b,13+A1 ((k:Int)+1),none⟩))/\B=d):=λd=>Gj b 13 _ d;have A:ϝ (∀d,Ϟ wr d->CT 259 #[AF (bufOf s ((k:Int)+1)) (Bl j ((k:Int)+1)),vI (BI p s ((k:Int)+1))] d λe B=>(∃X,e= .returned (.tuple #[AF o X,ω])/\OB B d X o)/\Ϟ d B):=λd D=>by
    have:=Abg (bufOf s ((k:Int)+1)) (Bl j ((k:Int)+1)) (BI p s ((k:Int)+1)) d (Ag u D) P.2 (by have:=P.1.all;omega) (En P.1);rw[ad]at this;exact this
   have C:ϝ (∀d,Ϟ wr d->∀i,i<23->Ξ d b i):=λd D i hi=>by
    have:=((g.o.below D).box.room i hi).2;simpa using this
   have ao:A1 ((k:Int)+1)=0\/A1 ((k:Int)+1)=3:=by unfold A1;split<;>simp
   obtain⟨q,hq⟩:=nM (13+A1 ((k:Int)+1));have aa:=hV0 hq;have au:13<=q/\q<=16:=ϟ;obtain⟨G,hG⟩:=nM (BI p s ((k:Int)+1));obtain⟨bo,al⟩:=nM (bufOf s ((k:Int)+1));obtain⟨bx,am⟩:=nM (Bl j ((k:Int)+1));obtain⟨I,Q⟩:=nM ((k:Int)+1);have ag:ϝ (Av (Jl p s k) I o=Jl p s (k+1)):=by show _=_;rw[<-Q];exact d4
   have aq:=hV0 Q;rw[hG]at J A;rw[al,am]at A E;rw[hq]at KB E;rw[Q]at J KB aa ac;obtain⟨ax,ay,⟨⟨m1,m2,m3⟩,ml⟩,rs⟩:=bx;obtain⟨av,aw,az⟩:=bo;unfold AF hdV at A;dsimp only at A E;obtain⟨n,hn⟩:=nM rs.length;rw[hn]at A E;obtain⟨R,U,W⟩:=E;have lb:b<wr.heap.size:=g.o.box.lt;clear d1 O d3 d4 ad P u ao hq hG al am hn Q;go_wp2_with (go_at_call 144;refine(KB.o _).mono ?_;rintro e wr ⟨rfl,rfl⟩);refine gr.AQ 13 rfl Ϣ (S:=λ_=>True) trivial (λc=>?_);refine tkz 0 17 c ?_;refine tkz 1 18 c ?_;refine tkz 2 19 c ?_;refine tkz 4 21 c ?_;refine tkz 5 22 c ?_;refine wpAnyH_ready (rs:=[3,6]) Ϣ ϡ ?_;refine AllReadyH.cons rfl (λK a=>?_) (AllReadyH.cons rfl (λK a=>?_) AllReadyH.nil)
   ·go_simp;refine a.out _ _ trivial (λc=>?_);clear a K
    try simp only[Act.put,sI,sZ,sSz]
    refine rD 6 λK a=>?_;go_simp;go_at_call 260;refine(J.o _ bR.drew).mono ?_;rintro e wg ⟨rfl,ae⟩;have m:Ϟ wr wg:=bR.drew.trans ae;go_wp2_with fail;refine a.out _ _ trivial (λc=>?_);clear a K
    try simp only[Act.put,sI,sZ,sSz]
    refine rD 7 λK a=>?_;go_simp;go_at_call 259;refine(A.o _ m).mono ?_;rintro e r ⟨⟨X,rfl,u⟩,af⟩;have f:Ϟ wr r:=bT m af;go_wp2_with fail;refine a.out _ _ trivial (λc=>?_);clear a K
    try simp only[Act.put,sI,sZ,sSz]
    refine tkz 8 16 c ?_;refine tkz 9 25 c ?_;refine tkz 10 26 c ?_;refine tkz 11 27 c ?_;have Z:ϝ (OB r wr X o):=A5 u m.size;have f0:=C.o _ f q ϟ;have f1:=C.o _ f (q+1) ϟ;have f2:=C.o _ f (q+1+1) ϟ;have e0:=cLz f R;have e1:=cLz f U;have e2:=cLz f W;clear u;refine rD 12 λK a=>?_;go_simp;refine a.out _ _ trivial (λc=>?_);clear a K;refine wpAnyH_done Ϣ ?_ _;have Y:ϝ (BQ T wr (φ (φ (φ r b q (vI o.lim)) b (q+1) (vS X.m.1.1 X.m.1.2.1 X.m.1.2.2)) b (q+1+1) (vS X.ra X.rs.length X.rc))):=(A7 f).trans (Gc (g.o.below f).ty q _ _ _);have z:=Qn g.o hT f I Z.o nR q aa.o;unfold hdV at z;generalize (((r.setCell ⟨b,q,none⟩ (vI o.lim)).setCell ⟨b,q+1,none⟩ (vS X.m.1.1 X.m.1.2.1 X.m.1.2.2)).setCell ⟨b,q+1+1,none⟩ (vS X.ra X.rs.length X.rc))=W4 at *;have ab:ϝ (JSt w0 W4 b T p x (Jl p s (k+1)) (GB j I X) t L):=by
     show JSt _ _ _ _ _ _ _ _ _ _;rw[<-ag.o];exact z
    clear z;go_wp2;go_roundw
    (case rel=>exact⟨k+1,_,ϟ,by go_num,ab,F.o.trans Y.o⟩)
    (case measure=>simp[intOf];omega)
   ·go_simp;go_at_call 260;refine(J.o _ bR.drew).mono ?_;rintro e wg ⟨rfl,ae⟩;have m:Ϟ wr wg:=bR.drew.trans ae;go_wp2_with fail;refine a.out _ _ trivial (λc=>?_);clear a K
    try simp only[Act.put,sI,sZ,sSz]
    have d0:=cLz m R;have d1:=cLz m U;have O:=cLz m W;refine rD 3 λK a=>?_;go_simp;refine a.out _ _ trivial (λc=>?_);clear a K
    try simp only[Act.put,sI,sZ,sSz]
    refine rD 7 λK a=>?_;go_simp;go_at_call 259;refine(A.o _ m).mono ?_;rintro e r ⟨⟨X,rfl,u⟩,af⟩;have f:Ϟ wr r:=bT m af;go_wp2_with fail;refine a.out _ _ trivial (λc=>?_);clear a K
    try simp only[Act.put,sI,sZ,sSz]
    refine tkz 8 16 c ?_;refine tkz 9 25 c ?_;refine tkz 10 26 c ?_;refine tkz 11 27 c ?_;have Z:ϝ (OB r wr X o):=A5 u m.size;have f0:=C.o _ f q ϟ;have f1:=C.o _ f (q+1) ϟ;have f2:=C.o _ f (q+1+1) ϟ;have e0:=cLz f R;have e1:=cLz f U;have e2:=cLz f W;clear u;refine rD 12 λK a=>?_;go_simp;refine a.out _ _ trivial (λc=>?_);clear a K;refine wpAnyH_done Ϣ ?_ _;have Y:ϝ (BQ T wr (φ (φ (φ r b q (vI o.lim)) b (q+1) (vS X.m.1.1 X.m.1.2.1 X.m.1.2.2)) b (q+1+1) (vS X.ra X.rs.length X.rc))):=(A7 f).trans (Gc (g.o.below f).ty q _ _ _);have z:=Qn g.o hT f I Z.o nR q aa.o;unfold hdV at z;generalize (((r.setCell ⟨b,q,none⟩ (vI o.lim)).setCell ⟨b,q+1,none⟩ (vS X.m.1.1 X.m.1.2.1 X.m.1.2.2)).setCell ⟨b,q+1+1,none⟩ (vS X.ra X.rs.length X.rc))=W4 at *;have ab:ϝ (JSt w0 W4 b T p x (Jl p s (k+1)) (GB j I X) t L):=by
     show JSt _ _ _ _ _ _ _ _ _ _;rw[<-ag.o];exact z
    clear z;go_wp2;go_roundw
    (case rel=>exact⟨k+1,_,ϟ,by go_num,ab,F.o.trans Y.o⟩)
    (case measure=>simp[intOf];omega)
  ·have ap:k=2:=ϟ;subst ap;have ar:¬(((2:Nat):Int)<2):=ϟ;go_wp2;exact bodyPost_end (v:=.tuple #[]) (by simp[results,results254,go_sem]) rfl ⟨rfl,⟨j,g.o⟩,(A7 ak).trans F.o⟩
end jn
namespace jn
open vl bf
attribute [local go_sem] Oper.semAt_some
variable {l : List Ent} {low : Int} {y : Ent}
def DY(l:List Ent)(low:Int)(key:ByteArray):Int:=match (l.filter λy=>decide (y.key=key)&&decide (y.time<=low)).getLast? with
 |some y=>y.seq
 |none=>0
theorem Xi(s:Jn)(a:ByteArray)(low:Int):lastOf s a low=DY (AP (Aa s.R)) low a:=rfl
theorem Xj(h:¬y.time<=low):DY (l++[y]) low=DY l low:=by
 funext k
 unfold DY;rw[filter_append];have:([y].filter λz=>decide (z.key=k)&&decide (z.time<=low))=[]:=by simp[h]
 rw[this,append_nil]
theorem TU(h:y.time<=low):DY (l++[y]) low=λk=>if k=y.key then y.seq else DY l low k:=by
 funext k
 unfold DY;rw[filter_append];by_cases e:k=y.key
 ·have:([y].filter λz=>decide (z.key=k)&&decide (z.time<=low))=[y]:=by simp[h,e]
  rw[this,if_pos e,getLast?_append];rfl
 ·have:([y].filter λz=>decide (z.key=k)&&decide (z.time<=low))=[]:=by simp;intro a;exact absurd a.symm e
  rw[this,append_nil,if_neg e]
theorem TV{k:Nat}(h:k<l.length):l.take (k+1)=l.take k++[l.getD k default]:=by
 rw[take_succ_eq_append_getElem h,gDe,gEe h];rfl
theorem Xk(e:EM)(z:Ent)(low:Int)(f:ByteArray->Int)(A C M N:Nat)(w:ϛ)(j:ER w e z)(E:z.key.size<=maxLen)(H:Δ w A 0 (vI low))(I:Δ w C 0 (.map (some M)))(u:Kj w M N f):
 η 281 #[e.val,μ A,μ C] w (θ w (.bool (decide (low<z.time)||decide (f z.key=z.seq)))):=by
 have S:=bLt _ _ H;have U:=bLt _ _ I;have h:=j.key;have m:=j.time;have n:=j.seq;obtain⟨q,a,g,⟨O,P,Q⟩,G⟩:=e;dsimp only at h m n;rw[<-h]at E;rw[<-h,<-m,<-n];have D:=FF u ((Below.refl w.heap.size w).alloc nR (.cells (ζ q a g O P Q G) 63));have K:=XS D E;obtain⟨F,r⟩:=nM (f q);rw[r]at K⊢;clear j h m n u D r;unfold EM.val hdV;dsimp only;by_cases c:low<a
 ·have d:decide (low<a)=true:=by simpa using c
  have J:∀t,binOp .gtr t (vI a) (vI low)=pure (.bool true):=pl.Fl true (by simpa using c);rw[d,Bool.true_or];clear d c;go_enter func281,ntmps281;go_wp2;go_ret;exact⟨rfl,Ϫ⟩
 ·have d:decide (low<a)=false:=by simpa using c
  have J:∀t,binOp .gtr t (vI a) (vI low)=pure (.bool false):=pl.Fl false (by simpa using c);rw[d,Bool.false_or];clear d c;obtain⟨B,o⟩:=nM (decide (F=g));have R:∀t,binOp .eql t (vI F) (vI g)=pure (.bool B):=pl.Adt B (by rw[<-o];by_cases e:F=g<;>simp[e]);rw[o];clear o;go_enter func281,ntmps281;go_wp2;go_ret;exact⟨rfl,Ϫ⟩
def OZ(s:Jn)(z:Ent):Bool:=decide (Mf s<z.time)||decide (lastOf s z.key (Mf s)=z.seq)
theorem AcJ(s:Jn):NO s=Av s 2 (Bt (OZ s) s.R):=rfl
theorem RD(b:Nat)(p:pl.Pln)(x:pl.PA)(s:Jn)(y:JX)(t:Value)(L:List CO)(w0 w:ϛ)(h:JSt w0 w b 143 p x s y t L)(hw:pl.wfPlan p)(hp:pl.planAt w0 p x)(hg:goodJ p s):
 η 279 #[μ b] w λe c=>e= .returned (.tuple #[])/\∃y',JSt w0 c b 143 p x (NO (dropJ p s)) y' t L/\BQ 143 w c:=by
 have hT:calmC 143:=⟨⟨Ϡ,Ϡ,Ϡ⟩,Ϡ⟩;have KF:ϝ (CT 254 #[μ b] w λe c=>e= .returned (.tuple #[])/\∃y',JSt w0 c b 143 p x (dropJ p s) y' t L/\BQ 143 w c):=Jt b _ p x s y t L w0 w h hT Ϡ hw hp hg;have ay:goodJ p (dropJ p s):=IQ hg;obtain⟨j,bc⟩:=nM (dropJ p s);rw[bc]at KF ay⊢;have HG:=hV0 ay;clear h hw hp hg bc ay;rw[AcJ];obtain⟨Y,aw⟩:=nM (Bt (OZ j) j.R);have bo:=hV0 aw;rw[aw];clear aw;go_enter func279,ntmps279;go_wp2_with (go_at_call 254;refine KF.o.mono ?_;rintro e B ⟨rfl,G,a6,a7⟩;have aj:ϝ (JSt w0 B b 143 p x j G t L):=a6;have bi:ϝ (BQ 143 w B):=a7;clear a6 a7);have l1:=aj.o.box.join.2.2.2.2.2.2.1;have l2:=aj.o.box.join.2.2.2.2.2.2.2.1;obtain⟨low,af⟩:=nM (Mf j);have bm:=hV0 af;unfold Mf at af;obtain⟨lm,a9⟩:=nM j.lm;obtain⟨rm,bb⟩:=nM j.rm;rw[a9]at l1 af;rw[bb]at l2 af;clear a9 bb;have lb:b<B.heap.size:=aj.o.box.lt;have al:ϝ (∀c,Ϟ B c->Δ c b 19 (vI lm)/\Δ c b 20 (vI rm)):=λc D=>⟨cLz D l1,cLz D l2⟩
 go_cut [2] (λpt wc=> ∃A:Nat,pt= .pointer (τ A)/\B.heap.size<=A/\Δ wc A 0 (vI low)/\Ϟ B wc)
 case first=>
  refine gr.AQ 15 rfl Ϣ (S:=λc=>Δ c b 19 (vI lm)/\Δ c b 20 (vI rm)) (al.o _ bR.drew) (λr=>?_);refine tkz 0 12 r ?_;refine tkz 1 13 r ?_;refine tkz 2 14 r ?_;refine tkz 3 15 r ?_;refine tkz 4 16 r ?_;refine tkz 5 17 r ?_;refine tkz 6 18 r ?_;refine tkz 7 19 r ?_;refine tkz 8 20 r ?_;refine tkz 9 21 r ?_;refine tkz 10 22 r ?_;refine tkz 11 23 r ?_;refine gr.Pp (v:=vI low) 12 (some 24) r ?_ (hy:=by intro c b6;go_simp);refine rD 13 λK hK=>?_;go_simp;refine hK.out _ _ (al.o _ ((Below.refl B.heap.size B).drew.alloc nR _)) (λr=>?_);clear hK K
  try simp only[Act.put,sI,sZ,sSz]
  refine rD 14 λK hK=>?_;go_simp;refine hK.out _ _ (al.o _ ((Below.refl B.heap.size B).alloc nR _).drew) (λr=>?_);clear hK K;refine wpAnyH_done Ϣ ?_ _;go_wp2;go_meet;exact⟨B.heap.size,rfl,Nat.le_refl _,ϣ,((Below.refl B.heap.size B).alloc nR _).drew⟩
 case rest=>
  obtain⟨A,rfl,hA,ca,a4⟩:=hcut;rename World=>W;have I:ϝ (JSt w0 W b 143 p x j G t L):=aj.o.below a4;have ok:=HG.o.ok.R;have ag:∀z∈Aa j.R,wfE z/\wfP (Az z):=λz D=>HG.o.wf z (mem_append.2 (.inr D));have J:ϝ (∀m,Ϟ W m->CT 26 #[AF j.R G.r] m λe c=>(∃(E:Hdr) (av:List EM),e= .returned (.tuple #[hdV E,ω])/\OE c m (hdV E) av (AP (Aa j.R)))/\Ϟ m c):=λm hb=>(Lk j.R G.r m (Ag I.o.r.at hb) ag (by have:=ok.all;omega) (En ok)).mono (by
   rintro e c ⟨⟨E,av,l',rfl,hp,bw,ho⟩,bv⟩;rw[Ec hp bw ok.once]at ho;exact⟨⟨E,av,rfl,ho⟩,bv⟩)
  obtain⟨o,am⟩:=nM (AP (Aa j.R));have bn:=hV0 am;have a1:ϝ (o.length<=4096/\∀k,k<o.length->(o.getD k default).key.size<=maxLen/\pl.i64 (o.getD k default).seq):=by
   rw[<-am];refine⟨by rw[(A9 _).length_eq];exact ok.all,λk hk=>?_⟩;have hm:=(A9 (Aa j.R)).mem_iff.1 (AD (d:=default) hk);exact⟨(ag _ hm).1.key,(ag _ hm).2.seq⟩
  rw[am]at J;have V:ϝ (∀(f:ByteArray->Int) (A C M F:Nat) (m:ϛ),f=DY o low->Ϟ W m->Δ m A 0 (vI low)->Δ m C 0 (.map (some M))->Kj m M F f->CT 145 #[AF j.R G.r,.func (.func 281) #[] #[μ A,μ C]] m λe c=>(∃X,e= .returned (AF Y X)/\OB c m X Y)/\Ϟ m c):=λf A C M F m hf hb h1 h2 h3=>by
   have a0:=ok.small;have hk:=Ia 281 (enters_of func281 Ϣ rfl) #[μ A,μ C] (OZ j) j.R G.r m (Ag I.o.r.at hb) a0.1 a0.2.1 a0.2.2 (λe z w2 P D ax=>by
    have:=Xk e z low f A C M F w2 P (ag z D).1.key (cLz ax h1) (cLz ax h2) (FF h3 ax);have e1:OZ j z=(decide (low<z.time)||decide (f z.key=z.seq)):=by unfold OZ;rw[bm.o,Xi,bn.o,hf]
    rw[e1];exact this)
   rw[bo.o]at hk;exact hk
  obtain⟨ai,ae,R⟩:=F2 I.o.box.join 2;have aq:ϝ (∀m,Ϟ W m->∀i,i<23->Ξ m b i):=λm hb i hi=>by
   have:=((I.o.below hb).box.room i hi).2;simpa using this
  have eb:A1 2=3:=rfl;have e2:bufOf j 2=j.R:=rfl;have e3:Bl G 2=G.r:=rfl;rw[eb,e2]at ai;rw[eb,e3]at ae R;obtain⟨yr,be⟩:=nM G.r;rw[be]at J V ae R;obtain⟨b4,b5,⟨⟨m1,m2,m3⟩,ml⟩,rs⟩:=yr;obtain⟨b3,a8⟩:=nM j.R.lim;unfold AF hdV at J V;dsimp only at J V ae R;rw[a8]at J V ai;obtain⟨n,hn⟩:=nM rs.length;rw[hn]at J V R;obtain⟨ln,az⟩:=nM o.length;have ar:=hV0 az;have b9:ln<=4096:=by rw[<-az];exact a1.o.1
  have lW:b<W.heap.size:=I.o.box.lt;have lA:A<W.heap.size:=bLt _ _ ca;clear ok ag am eb e2 e3 be a8 hn az l1 l2 al af lb;have b8:=@run_makeMap Tryz.prog;go_wp2_with (go_at_call 26;refine(J.o _ bR).mono ?_;rintro e X ⟨⟨E,es,rfl,ho⟩,a5⟩;have U:ϝ (OE X W (vS E.1 E.2.1 E.2.2) es o):=ho;clear ho;have bk:ϝ (E.2.1=ln):=(by show _=_;rw[<-ar.o,<-U.o.len];exact(Dq (p:=(E,es)) U.o).1.1);obtain⟨g1,N,g3⟩:=E;have H:N=ln:=bk.o;subst H;dsimp only at U⊢;have lX:b<X.heap.size:=Nat.lt_of_lt_of_le lW a5.size);have bs:ϝ (∀c,Ϟ X c->Ϟ W c):=λc D=>bT a5 D
  go_loopw [38] (λi wr=> ∃(k F:Nat),k<=N/\i=vI k/\F<=k/\ϝ (Kj wr X.heap.size F (DY (o.take k) low))/\Δ wr (X+1) 0 (.map (some X.heap.size))/\Ϟ X wr) (λi _=>N - (intOf i).toNat)
  case atStart=>exact⟨0,0,Nat.zero_le _,rfl,Nat.le_refl _,FF (ZY X) Ϫ,ϣ,Ϫ.alloc ϡ _⟩
  case round=>
   obtain⟨k,F,hk,rfl,cb,au,ap,u⟩:=hrel;have lw:X.heap.size+1<wr.heap.size:=bLt _ _ ap;have O:Ϟ W wr:=bs.o _ u;have a2:=cLz O ca;by_cases b1:k<N
   ·have ao:k<o.length:=by rw[ar.o];exact b1
    obtain⟨gb,cd,ea,x1,x2,x3,x4,x5⟩:=(Dq (p:=((g1,N,g3),es)) U.o).2 k (by rw[U.o.len];exact ao);dsimp only at ea;subst ea;have q1:=cLz u x1;have q2:=cLz u x2;have q3:=cLz u x3;have q4:=cLz u x4;have q5:=cLz u x5;clear x1 x2 x3 x4 x5;have P:=U.o.ers.2 k ao;have ah:=a1.o.2 k ao;have ak:=TV ao;have aa:=P.key;have ac:=P.time;have ab:=P.seq;obtain⟨⟨ek,et,a3,⟨r1,r2,r3⟩,em⟩,D⟩:∃z,es.getD k default=z:=⟨_,rfl⟩;rw[D]at q1 q2 q3 q4 q5 aa ac ab;unfold hdV at q4;dsimp only at q1 q2 q3 q4 q5 aa ac ab;rw[<-aa,<-ab]at ah;have i1:(0:Int)<=(k:Int):=ϟ;have i2:(k:Int)<(N:Int):=ϟ;have la:A<wr.heap.size:=bLt _ _ a2;by_cases H:et<=low
    ·have b0:∀t,binOp .leq t (vI et) (vI low)=pure (.bool true):=pl.QU true (by simpa using H);have HF:ϝ (DY (o.take (k+1)) low=λq=>if q=ek then a3 else DY (o.take k) low q):=by
      show _=_;rw[ak,TU (by rw[<-ac];exact H),<-aa,<-ab]
     have bd:=FF au.o ((Below.refl wr.heap.size wr).alloc nR (.cells (ζ ek et a3 r1 r2 r3 em) 63));obtain⟨X1,cc,q0,Q⟩:=ZZ bd ah.1 ah.2 ϩ;have bq:ϝ (Kj X1 X.heap.size (F+1) (DY (o.take (k+1)) low)):=by
      show Kj _ _ _ _;rw[HF.o];exact q0
     have b2:Δ X1 (X+1) 0 (.map (some X.heap.size)):=(cOb (w:=wr) (a:=⟨X+1,0,none⟩) ((Q.block (X.heap.size+1) (by rw[World.size_alloc];omega) (λe=>by injection e with e;omega)).trans (Below.heap_alloc _ _ _ lw))).trans ap;have bg:ϝ (Ϟ X X1):=⟨Q.os.trans u.os,Q.tape.trans u.tape,Q.output.trans u.output,Nat.le_trans u.size (Nat.le_trans (Nat.le_of_lt (by rw[World.size_alloc];exact Nat.lt_succ_self _)) Q.size),λg bx=>((Q.block g (by rw[World.size_alloc];have:=u.size;omega) (λe=>by injection e with e;omega)).trans (Below.heap_alloc _ _ _ (by have:=u.size;omega))).trans (u.block g bx)⟩;clear D bd q0 Q P aa ac ab ak H ah;go_wp2;go_roundw
     case rel=>exact⟨k+1,F+1,ϟ,by go_num,ϟ,bq,b2,bg.o⟩
     case measure=>simp[intOf];omega
    ·have b0:∀t,binOp .leq t (vI et) (vI low)=pure (.bool false):=pl.QU false (by simpa using H);have HF:ϝ (DY (o.take (k+1)) low=DY (o.take k) low):=by
      show _=_;rw[ak,Xj (by rw[<-ac];exact H)]
     clear D P aa ac ab ak H ah;go_wp2;go_roundw
     case rel=>exact⟨k+1,F,ϟ,by go_num,ϟ,by rw[HF.o];exact FF au.o Ϫ,cLz Ϫ ap,u.alloc u.size _⟩
     case measure=>simp[intOf];omega
   ·have bz:k=N:=ϟ;subst bz;have b7:¬((k:Int)<(k:Int)):=ϟ;have bh:ϝ (DY (o.take k) low=DY o low):=by show _=_;rw[<-ar.o,take_length]
    have bu:ϝ (CT 145 #[.agg (ν b3 m1 m2 m3 b4 n b5),.func (.func 281) #[] #[μ A,μ (X+1)]] wr λe c=>(∃Z,e= .returned (.agg (Ω Y Z))/\OB c wr Z Y)/\Ϟ wr c):=V.o _ A (X.heap.size+1) X.heap.size F wr bh.o O a2 ap au.o;have c0:=cLz O ai;have c1:=cLz O ae;have c2:=cLz O R;clear ai ae R;go_wp2_with (go_at_call 145;refine bu.o.mono ?_;rintro e wp ⟨⟨Z,rfl,ba⟩,an⟩;have bp:ϝ (OB wp wr Z Y):=ba;have ad:Ϟ W wp:=bT O an;have d0:=cLz an c0;have d1:=cLz an c1;have d2:=cLz an c2;have f0:=aq.o _ ad 16 ϟ;have f1:=aq.o _ ad (16+1) ϟ;have f2:=aq.o _ ad (16+1+1) ϟ;clear ba c0 c1 c2);have br:=Qn I.o hT ad 2 bp.o O.size 16 rfl;have bj:=(bi.o.trans (A7 (bT a4 ad))).trans (Gc (I.o.below ad).ty 16 (vI Y.lim) (hdV Z.m.1) (vS Z.ra Z.rs.length Z.rc));exact bodyPost_end (v:=.tuple #[]) (by simp[results,results279,go_sem]) rfl ⟨rfl,_,br,bj⟩
end jn
namespace jn
open vl bf
attribute [local go_sem] Oper.semAt_some
theorem RF{b:Buf}{y:Ent}{l:List Ent}(h:okB b)(hh:bf.hasB (Aa b) (Az y)=false)(m:l.Perm (b.mem++[y]))(g:Md l):FA b l=DN b y:=by
 unfold DN;have j:((b.mem++[y]).map Az).Nodup:=by
  have f:(b.mem.map Az).Nodup:=by
   have:=h.once;rw[C3,map_append]at this;exact(nodup_append.1 this).1
  rw[map_append];refine nodup_append.2 ⟨f,ϡ,λa ha c d e=>?_⟩;have d:c=Az y:=by simpa using d
  subst d e;have:=PQ hh;refine this ?_;rw[C3,map_append];exact mem_append.2 (.inl ha)
 rw[Ec m g j]
theorem CI(b:Nat)(T:TypeId)(p:pl.Pln)(x:pl.PA)(s:Jn)(y:JX)(t:Value)(L:List CO)(v:Ev)(m:Ϝ)(q:Nat)(met:Bool)(w0 w:ϛ)(h:JSt w0 w b T p x s y t L)(hT:calmC T)(hw:pl.wfPlan p)(hp:pl.planAt w0 p x)(Z:goodJ p s)(hc:comeJ p s v)(hv:evAt w0 v m):
 η 256 #[μ b,Cg p v m q,.bool met] w λe d=>e= .returned (.tuple #[])/\∃y',JSt w0 d b T p x (Er p s v met) y' t L/\BQ T w d:=by
 have U:=hV0 h;have H:ϝ (∀c,Below (w.heap.size+1) (ξ w #[vI v.side,vI v.time,vS m v.row.length q,.string (pl.Ap p v.side v.row),.bool (pl.hasB p v.side v.row)] 92) c->CT 260 #[μ b,vI v.side] c (θ c (vI (BI p s v.side)))):=λc A=>by
  have ax:Ϟ w c:=Ϫ.trans (A.mono (Nat.le_succ _));exact JH b p x s y t v.side c hw (pl.Aj hp (h.bl.trans (ax.mono h.bl.size))) (h.below ax).box hc.side
 have KB:ϝ (∀c,CT 144 #[.pointer (some ⟨b,13,none⟩),vI v.side] c λe d=>e= .returned (.pointer (some ⟨b,13+A1 v.side,none⟩))/\d=c):=λc=>Gj b 13 v.side c;have O:A1 v.side=0\/A1 v.side=3:=by unfold A1;split<;>simp
 have ac:ϝ (∀c,Ϟ w c->Δ c b (13+A1 v.side) (vI (bufOf s v.side).lim)/\Δ c b (13+A1 v.side+1) (vS (Bl y v.side).m.1.1 (Bl y v.side).m.1.2.1 (Bl y v.side).m.1.2.2)/\Δ c b (13+A1 v.side+2) (vS (Bl y v.side).ra (Bl y v.side).rs.length (Bl y v.side).rc)):=λc A=>F2 (h.below A).box.join v.side;have R:ϝ (∀c,Ϟ w c->∀i,i<23->Ξ c b i):=λc A i hi=>by
  have:=((h.below A).box.room i hi).2;simpa using this
 have ai:ϝ (∀c,Ϟ w c->Δ c b 21 (vI s.seq)):=λc A=>(h.below A).box.join.2.2.2.2.2.2.2.2;have ag:bufAt w (bufOf s v.side) (Bl y v.side):=by
  unfold bufOf Bl;split
  ·exact h.r.at
  ·exact h.l.at
 have C:ϝ (pl.hasB p v.side v.row=true->BI p s v.side<v.time->∀c,Ϟ w c->CT 261 #[AF (bufOf s v.side) (Bl y v.side),(⟨pl.Ap p v.side v.row,v.time,s.seq,(m,v.row.length,q),met⟩:EM).val] c λr d=>(∃X,r= .returned (.tuple #[AF (DN (bufOf s v.side) ⟨pl.Ap p v.side v.row,v.time,s.seq,v.row,met⟩) X,ω])/\OB d c X (DN (bufOf s v.side) ⟨pl.Ap p v.side v.row,v.time,s.seq,v.row,met⟩))/\Ϟ c d):=λhh aa c A=>by
  obtain⟨hf,bn⟩:=NQ (met:=met) hh hv.wf hc.time Z.ok.sq;have a0:bf.hasB (Aa (bufOf s v.side)) (pl.Ap p v.side v.row,v.time,s.seq)=false:=L3 (λz f=>Z.ok.below z (by
   unfold bufOf at f;split at f
   ·exact mem_append.2 (.inr f)
   ·exact mem_append.2 (.inl f)))
  have ok:=(Z.of v.side).1;have bk:vl.rowAt c m v.row:=vl.Ac hv.row (h.bl.trans (A.mono h.bl.size));refine(AcT (bufOf s v.side) (Bl y v.side) ⟨pl.Ap p v.side v.row,v.time,s.seq,(m,v.row.length,q),met⟩ ⟨pl.Ap p v.side v.row,v.time,s.seq,v.row,met⟩ c (Ag ag A) (Z.of v.side).2 (by have:=ok.all;omega) (En ok) ⟨rfl,rfl,rfl,rfl,rfl,bk⟩ ⟨Nat.le_trans bn Ϡ,hv.wf,hv.len⟩ (F0 hf) a0 hc.few).mono ?_;rintro r d ⟨⟨x',l',rfl,bj,bh,ho⟩,be⟩;have e:=RF (y:=⟨pl.Ap p v.side v.row,v.time,s.seq,v.row,met⟩) ok a0 bj bh;rw[e]at ho⊢;exact⟨⟨x',rfl,ho⟩,be⟩
 have B:ϝ (Er p s v met=if pl.hasB p v.side v.row=true/\BI p s v.side<v.time then⟨(Av s v.side (DN (bufOf s v.side) ⟨pl.Ap p v.side v.row,v.time,s.seq,v.row,met⟩)).L,(Av s v.side (DN (bufOf s v.side) ⟨pl.Ap p v.side v.row,v.time,s.seq,v.row,met⟩)).R,s.lm,s.rm,s.seq+1⟩else⟨s.L,s.R,s.lm,s.rm,s.seq+1⟩):=by
  show _=_;unfold Er;split
  ·unfold Av;split<;>rfl
  ·rfl
 have bm:=Z.ok.sq;have bp:IntKind.i64.wrap (s.seq+1)=s.seq+1:=by rw[ch.BA];omega
 have lb:=h.box.lt;obtain⟨KJ,av⟩:=nM (Er p s v met);rw[av]at B⊢;obtain⟨D,aw⟩:=nM (DN (bufOf s v.side) ⟨pl.Ap p v.side v.row,v.time,s.seq,v.row,met⟩);rw[aw]at B C;unfold Cg;obtain⟨E,h1⟩:=nM (pl.Ap p v.side v.row);obtain⟨kh,h2⟩:=nM (pl.hasB p v.side v.row);obtain⟨F,a1⟩:=nM v.row.length;obtain⟨G,hG⟩:=nM (BI p s v.side);obtain⟨Q,a3⟩:=nM s.seq;rw[hG]at H B C;rw[h1,h2,a1]at H C⊢;rw[h2]at B;rw[a3]at ai bp C B bm;obtain⟨k,hk⟩:=nM (13+A1 v.side);have am:=hV0 hk;rw[hk]at KB ac;obtain⟨bo,ay⟩:=nM (bufOf s v.side);obtain⟨bx,az⟩:=nM (Bl y v.side);rw[ay,az]at ac C;obtain⟨j,a2⟩:=nM v.side;obtain⟨u,a5⟩:=nM v.time;rw[a2]at H KB B am⊢;rw[a5]at H C B⊢;have bv:13<=k/\k<=16:=ϟ;obtain⟨br,bs,⟨⟨m1,m2,m3⟩,ml⟩,rs⟩:=bx;obtain⟨bq,bw,bz⟩:=bo;unfold AF hdV EM.val at C;dsimp only at C ac;obtain⟨n,hn⟩:=nM rs.length;rw[hn]at C ac;clear h hw hp Z hc hv ag av aw h1 h2 a1 hG a3 hk ay az a2 a5 hn O;go_enter func256,ntmps256;go_wp2;generalize I:(World.alloc w _)=V at H⊢;have N:Ϟ w V:=by rw[<-I];exact Ϫ
 have a6:V.heap.size=w.heap.size+1:=by rw[<-I];simp
 rw[<-a6]at H;obtain⟨o,J⟩:=nM w.heap.size;rw[J]at a6;have s0:Δ V o 0 (vI j):=by subst I;rw[<-J];go_simp
 have s1:Δ V o 1 (vI u):=by subst I;rw[<-J];go_simp
 have s2:Δ V o 2 (vS m F q):=by subst I;rw[<-J];go_simp
 have s3:Δ V o 3 (.string E):=by subst I;rw[<-J];go_simp
 have s4:Δ V o 4 (.bool kh):=by subst I;rw[<-J];go_simp
 clear I;have W:ϝ (∀d,Ϟ V d->Ϗ d o (vI j) (vI u) (vS m F q) (.string E) (.bool kh)):=λd f=>⟨cLz f s0,cLz f s1,cLz f s2,cLz f s3,cLz f s4⟩;rw[J]
 cases kh with
 |false=>
  refine gr.AQ 11 rfl Ϣ (S:=λd=>Ϗ d o (vI j) (vI u) (vS m F q) (.string E) (.bool false)) (W.o _ bR.drew) (λa=>?_);refine tkz 0 7 a ?_;refine tkz 1 8 a ?_;refine tkz 2 9 a ?_;refine sk 3 10 a ?_;refine sk 4 11 a ?_;refine sk 5 12 a ?_;refine sk 6 13 a ?_;refine sk 7 14 a ?_;refine sk 8 15 a ?_;refine sk 9 16 a ?_;refine tkz 10 17 a ?_;refine wpAnyH_done Ϣ ?_ _;have ad:ϝ (KJ=⟨s.L,s.R,s.lm,s.rm,Q+1⟩):=by show _=_;rw[B.o,if_neg ϡ]
  have ar:=ai.o _ N;have au:=R.o _ N 21 ϟ;go_wp2;refine bodyPost_end (v:=.tuple #[]) (by simp[results,results256,go_sem]) rfl ⟨rfl,y,?_,?_⟩
  ·rw[ad.o];exact TT ((U.o.below N).below bR.drew) hT _
  ·exact(A7 N.drew).trans (EF ((U.o.below N).below bR.drew).ty _ _)
 |true=>
  by_cases aa:G<u
  ·have bi:=pl.Fl (x:=u) (y:=G) true (by simpa using aa);refine gr.AQ 11 rfl Ϣ (S:=λd=>Ϗ d o (vI j) (vI u) (vS m F q) (.string E) (.bool true)) (W.o _ bR.drew) (λa=>?_);refine tkz 0 7 a ?_;refine tkz 1 8 a ?_;refine tkz 2 9 a ?_;refine tkz 3 10 a ?_;refine tkz 4 11 a ?_;refine tkz 5 12 a ?_;refine tkz 6 13 a ?_;refine tkz 7 14 a ?_;refine rD 8 λK g=>?_;go_simp;go_at_call 260;refine(H.o _ bR.drew).mono ?_;rintro e wg ⟨rfl,al⟩;have P:Ϟ V wg:=bR.drew.trans al;go_wp2_with fail;refine g.out _ _ (W.o _ P) (λa=>?_);clear g K
   try simp only[Act.put,sI,sZ,sSz]
   refine tkz 9 16 a ?_;refine tkz 10 17 a ?_;refine wpAnyH_done Ϣ ?_ _;have ad:ϝ (KJ=⟨(Av s j D).L,(Av s j D).R,s.lm,s.rm,Q+1⟩):=by show _=_;rw[B.o,if_pos ⟨trivial,aa⟩]
   have ap:=C.o trivial aa;have bc:ϝ (∀d,Ϟ wg d->Ϗ d o (vI j) (vI u) (vS m F q) (.string E) (.bool true)):=λd f=>W.o _ (bT P f);go_wp2;refine gr.AQ 7 rfl Ϣ (S:=λd=>Ϗ d o (vI j) (vI u) (vS m F q) (.string E) (.bool true)) (bc.o _ bR.drew) (λa=>?_);refine tkz 0 18 a ?_;refine tkz 1 19 a ?_;refine tkz 2 20 a ?_;refine tkz 3 21 a ?_;refine tkz 4 22 a ?_;refine rD 5 λK g=>?_;go_simp;go_at_call 144;refine(KB.o _).mono ?_;rintro e wq ⟨rfl,rfl⟩;go_wp2_with fail;refine g.out _ _ a (λa=>?_);clear g K
   try simp only[Act.put,sI,sZ,sSz]
   refine tkz 6 6 a ?_;refine wpAnyH_done Ϣ ?_ _;go_wp2;generalize ak:wg.drew=W3;have O:Ϟ w W3:=by rw[<-ak];exact(bT N P).drew
   have ah:Ϟ V W3:=by rw[<-ak];exact P.drew
   clear ak;have bd:ϝ (∀c,Ϟ W3 c->CT 261 #[.agg (ν bq m1 m2 m3 br n bs),.agg (ζ E u Q m F q met)] c λr d=>(∃X,r= .returned (.tuple #[.agg (Ω D X),ω])/\OB d c X D)/\Ϟ c d):=λc A=>ap c (bT O A);obtain⟨a7,a8,a9⟩:=ac.o _ O;have bu:=ai.o _ O;have aq:ϝ (∀d,Ϟ W3 d->ϗ d o (vI j) (vI u) (vS m F q) (.string E) (.bool true) (Δ d b 21 (vI Q))):=λd f=>⟨cLz f (cLz ah s0),cLz f (cLz ah s1),cLz f (cLz ah s2),cLz f (cLz ah s3),cLz f (cLz ah s4),cLz f bu⟩;clear ap;refine gr.AQ 23 rfl Ϣ (S:=λd=>ϗ d o (vI j) (vI u) (vS m F q) (.string E) (.bool true) (Δ d b 21 (vI Q))) (aq.o _ bR.drew) (λa=>?_);refine tkz 0 25 a ?_;refine tkz 1 26 a ?_;refine tkz 2 27 a ?_;refine tkz 4 29 a ?_;refine tkz 5 30 a ?_;refine tkz 6 31 a ?_;refine tkz 7 32 a ?_;refine tkz 8 33 a ?_;refine tkz 9 34 a ?_;refine tkz 10 35 a ?_;refine tkz 11 36 a ?_;refine tkz 12 37 a ?_;refine tkz 13 38 a ?_;refine tkz 14 39 a ?_;refine tkz 15 40 a ?_;refine tkz 16 41 a ?_;refine rD 3 λK g=>?_;go_simp;refine g.out _ _ a (λa=>?_);clear g K
   try simp only[Act.put,sI,sZ,sSz]
   refine rD 17 λK g=>?_;go_simp;go_at_call 261;refine(bd.o _ bR.drew).mono ?_;rintro e wp ⟨⟨X,rfl,ag⟩,bg⟩;have ab:Ϟ W3 wp:=bR.drew.trans bg;go_wp2_with fail;refine g.out _ _ (aq.o _ ab) (λa=>?_);clear g K
   try simp only[Act.put,sI,sZ,sSz]
   refine tkz 18 24 a ?_;refine tkz 19 43 a ?_;refine tkz 20 44 a ?_;refine tkz 21 45 a ?_;have bb:=hV0 ag;have d0:=cLz ab a7;have d1:=cLz ab a8;have d2:=cLz ab a9;have Y:Ϟ w wp:=bT O ab;have f0:=R.o _ Y k ϟ;have f1:=R.o _ Y (k+1) ϟ;have f2:=R.o _ Y (k+1+1) ϟ;have af:b≠o:=ϟ;have M:=a;clear ag a;refine rD 22 λK g=>?_;go_simp;refine g.out _ _ ⟨EX M.1 af _ _ _,EX M.2.1 af _ _ _,EX M.2.2.1 af _ _ _,EX M.2.2.2.1 af _ _ _,EX M.2.2.2.2.1 af _ _ _,AY M.2.2.2.2.2 ϟ ϟ ϟ _ _ _⟩ (λa=>?_);clear g K;refine wpAnyH_done Ϣ ?_ _;have ar:=a.2.2.2.2.2;have au:Ξ (φ (φ (φ wp b k (vI D.lim)) b (k+1) (vS X.m.1.1 X.m.1.2.1 X.m.1.2.2)) b (k+1+1) (vS X.ra X.rs.length X.rc)) b 21:=TS (R.o _ Y 21 ϟ) _ _ _;have an:=(A7 Y).trans (Gc (U.o.below Y).ty k (vI D.lim) (vS X.m.1.1 X.m.1.2.1 X.m.1.2.2) (vS X.ra X.rs.length X.rc));have aj:=Qn (U.o.below O) hT ab j bb.o nR k am.o;unfold hdV at aj;generalize (((wp.setCell ⟨b,k,none⟩ (vI D.lim)).setCell ⟨b,k+1,none⟩ (vS X.m.1.1 X.m.1.2.1 X.m.1.2.2)).setCell ⟨b,k+1+1,none⟩ (vS X.ra X.rs.length X.rc))=W4 at *;have ba:ϝ (BQ T w W4):=an;clear an;have ao:ϝ (JSt w0 W4 b T p x (Av s j D) (GB y j X) t L):=aj;clear aj a M;go_wp2;refine bodyPost_end (v:=.tuple #[]) (by simp[results,results256,go_sem]) rfl ⟨rfl,GB y j X,?_,ba.o.trans (EF ao.o.ty _ _)⟩;have a4:=TT ao.o hT (Q+1);rw[(OY s j D).1,(OY s j D).2.1]at a4;rw[ad.o];exact a4
  ·have bi:=pl.Fl (x:=u) (y:=G) false (by simpa using aa);refine gr.AQ 11 rfl Ϣ (S:=λd=>Ϗ d o (vI j) (vI u) (vS m F q) (.string E) (.bool true)) (W.o _ bR.drew) (λa=>?_);refine tkz 0 7 a ?_;refine tkz 1 8 a ?_;refine tkz 2 9 a ?_;refine tkz 3 10 a ?_;refine tkz 4 11 a ?_;refine tkz 5 12 a ?_;refine tkz 6 13 a ?_;refine tkz 7 14 a ?_;refine rD 8 λK g=>?_;go_simp;go_at_call 260;refine(H.o _ bR.drew).mono ?_;rintro e wg ⟨rfl,al⟩;have P:Ϟ V wg:=bR.drew.trans al;go_wp2_with fail;refine g.out _ _ (W.o _ P) (λa=>?_);clear g K
   try simp only[Act.put,sI,sZ,sSz]
   refine tkz 9 16 a ?_;refine tkz 10 17 a ?_;refine wpAnyH_done Ϣ ?_ _;have ad:ϝ (KJ=⟨s.L,s.R,s.lm,s.rm,Q+1⟩):=by show _=_;rw[B.o,if_neg (by simp[aa])]
   have ae:Ϟ w wg:=bT N P;have ar:=ai.o _ ae;have au:=R.o _ ae 21 ϟ;go_wp2;refine bodyPost_end (v:=.tuple #[]) (by simp[results,results256,go_sem]) rfl ⟨rfl,y,?_,?_⟩
   ·rw[ad.o];exact TT (U.o.below ae) hT _
   ·exact(A7 ae).trans (EF (U.o.below ae).ty _ _)
end jn
end Go.Proofs.YtdohnkkbkfhphaaGreat
