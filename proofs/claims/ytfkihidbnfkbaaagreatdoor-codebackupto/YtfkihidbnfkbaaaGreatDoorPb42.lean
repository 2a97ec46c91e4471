import Derived.Test.YtfkihidbnfkbaaaGreatDoorPb41
import Derived.Test.YtfkihidbnfkbaaaGreatDoorPb38
set_option linter.all false
set_option maxHeartbeats 4000000
set_option maxRecDepth 100000
open Go.ChangeShapes Go.WideShapes Go.ChangeAt Go.RowKit Go.Joins Go.Deep List
namespace Go.Proofs.YtfkihidbnfkbaaaGreatDoor
open Go.Proofs.Tryz
namespace cd
open vl bf bt
def Yn(p:gr.GX×gr.Grp):List Value:=[vS p.1.r p.2.row.length p.1.rc,vI p.2.n,vS p.1.b p.2.bags.length p.1.bc]
def PGr(p:gr.GX×gr.Grp)(g:gr.Grp)(w:World)(b:Nat):Prop:=p.2=g/\OG1 p.1 g w b
theorem LY(p:gr.GX×gr.Grp)(g:gr.Grp):Dx ([]++Ad3) (PGr p g):=(Fc _).and (J9 _ _)
def VGs(base:Nat)(l:List gr.Grp)(v:Value)(w:World):Prop:=∃ad cap st,v=vS ad l.length cap/\OL 102 3 Yn PGr st l v w base
theorem Aed:(Tryz.prog.info? 102).map (λi=>(i.zero,i.size,i.bytes))=some (some (.agg #[ψ,ω,ψ]),3,56):=Ϡ
theorem Yo(R C:Nat)(s:List UInt8)(w:ϙ)(h:RQ w R s)(l:RP w C R)(A:s.length<=2000000):
 η 77 #[μ C] w (Rd AM F4 (VG w.heap.size) R s w):=by
 have u:=hIz (λ(a:ϙ) (g:Ϝ w a)=>Tf R s a (h.below g) ϝ);have E:=l.cell;have F:=l.lt;have z:=h.rr.lt;have d:ϛ (RR w R s):=h.rr;clear h A;go_enter func77,ntmps77;go_wp2_with fail;have c:=hy ((ES.base d.o).new ϟ [ψ,ω,ψ] 102);have f:Ϝ w (World.alloc w (.cells ([ψ,ω,ψ]:List Value).toArray 102)):=Ϩ;generalize (World.alloc w _)=V at c f⊢;refine(u.o V f).mono ?_;rintro o a ⟨i,⟨x,t,v,m,rfl,rfl,⟨y,rfl,B⟩,j⟩|⟨g,v,rfl⟩⟩
 rotate_left
 ·exact⟨rfl,c.o.keep.trans i,.inr ⟨g,_,rfl⟩⟩
 have r:ϛ (F4 x):=m;replace c:=hy (c.o.call z i j);have k:ϛ (a.there w.heap.size 0 3):=(c.o.blk 0 _ rfl).1.there;have e:ϛ (RR (World.setCells a w.heap.size 0 [vS y.r x.row.length y.rc,vI x.n,vS y.b x.bags.length y.bc]) R t/\Al R w (World.setCells a w.heap.size 0 [vS y.r x.row.length y.rc,vI x.n,vS y.b x.bags.length y.bc])/\OG1 y x (World.setCells a w.heap.size 0 [vS y.r x.row.length y.rc,vI x.n,vS y.b x.bags.length y.bc]) w.heap.size):=
  ⟨j.sets ϝ _ _,C1 c.o.keep nR _ _,(J9 y x).sets (T:=102) Ϟ _ 0 a ((J9 y x).mono B f.size) (c.o.blk 0 _ rfl).2⟩
 unfold gr.Hz;clear j i m f;have d:ϛ ((World.setCells a w.heap.size 0 [vS y.r x.row.length y.rc,vI x.n,vS y.b x.bags.length y.bc]).rangeAt w.heap.size 0 [vS y.r x.row.length y.rc,vI x.n,vS y.b x.bags.length y.bc]):=World.rangeAt_setCells_same _ _ _ _ k.o;go_wp2_with ((with_reducible refine wpList_store_mid ?_ 102 (.tmp 1) (.tmp 3) ?_ w.heap.size 0 #[vS y.r x.row.length y.rc,vI x.n,vS y.b x.bags.length y.bc] ?_ ?_ ?_ ?_ ?_ ?_);exact rfl;exact rfl;exact rfl;exact rfl;exact k.o;exact Zg;exact Ϧ);generalize (World.setCells a w.heap.size 0 [vS y.r x.row.length y.rc,vI x.n,vS y.b x.bags.length y.bc])=D at d e⊢;have n:=d.o 0 _ rfl;have p:=d.o 1 _ rfl;have q:=d.o 2 _ rfl;simp only[Nat.zero_add]at n p q;exact bodyPost_ret (v:=.agg #[vS y.r x.row.length y.rc,vI x.n,vS y.b x.bags.length y.bc]) (by simp[results,results77,go_sem,n,p,q]) rfl ⟨e.o.2.1,.inl ⟨x,t,_,r.o,rfl,rfl,⟨y,rfl,e.o.2.2⟩,e.o.1⟩⟩
theorem Yp(R C:Nat)(s:List UInt8)(w:ϙ)(h:RQ w R s)(Y:RP w C R)(V:s.length<=2000000):
 η 76 #[μ R,.func (.func 77) #[] #[μ C]] w (Rd (lst AM) (okL F4) (VGs w.heap.size) R s w):=by
 have T:=hy (CH R s w h ϝ);have S:=hIz (λso (c:ϙ) t (j:Al R w c) (L:RR c R t)=>Dz R so c (h.go j L).err);have KO:=hIz (λt (c:ϙ) (j:Al R w c) (L:RR c R t) (ht:t.length<=2000000)=>Yo R C t c (h.go j L) (Y.keep j) ϝ);have O:=hqz V;clear h Y V;go_enter func76,ntmps76;go_wp2_with fail;refine T.o.mono ?_;rintro e c ⟨p,⟨n,t,v,X,rfl,rfl,rfl,M⟩|⟨J,v,rfl⟩⟩
 rotate_left
 ·exact⟨rfl,p,.inr ⟨J.len,_,rfl⟩⟩
 have G:ϛ (okN n):=X;clear X T;by_cases h0:0<=n
 rotate_left
 ·go_wp2_with (go_at_call 139;refine(S.o _ _ _ p M).mono ?_;rintro e w2 ⟨rfl,_,I⟩;obtain⟨v,rfl⟩:=I Ϥ);exact⟨rfl,p,.inr ⟨Bad.neg G.o ϝ,_,rfl⟩⟩
 obtain⟨m,rfl⟩:∃m:Nat,n=m:=⟨n.toNat,ϝ⟩;have P:ϛ (m<=9223372036854775807):=by have:=G.o.2;show _<=_;omega
 have D:ϛ (RR c R t/\Al R w c):=⟨M,p⟩;clear M p G;go_wp2_with (go_at_call 139;refine(S.o _ _ _ D.o.2 D.o.1).mono ?_;rintro e w2 ⟨rfl,I,_⟩;obtain rfl:=I ϟ)
 go_loopw [6,14] (λv i wr=> ∃(k:Nat) (l:List gr.Grp) (f:List (gr.GX×gr.Grp)) (u:List UInt8),l.length=k/\k<=m/\i=vI k/\OL 102 3 Yn PGr f l v wr w.heap.size/\(∀x∈l,F4 x)/\t=l.flatMap AM++u/\RR wr R u/\Al R w wr) (λ_ i _=>m - (intOf i).toNat)
 case atStart=>exact⟨0,[],[],t,rfl,Nat.zero_le _,rfl,OL.nil ..,ϟ,rfl,D.o⟩
 case round=>
  obtain⟨k,l,f,u,r,al,rfl,z,F,rfl,A,d⟩:=hrel;have am:8 * k+u.length<=2000000:=by
   have:=O.o;have:=E6 Ad2 l;rw[lAp,lAp,Am]at *;omega
  by_cases ae:k<m
  ·have a:ϛ (OL 102 3 Yn PGr f l u6 wr w.heap.size/\Ai wr R 124/\(∀x∈l,F4 x)/\Al R w wr/\l.length=k):=⟨z,A.tb,F,d,r⟩;have i1:(0:Int)<=(k:Int):=ϝ;have i2:(k:Int)<(m:Int):=ϝ;have aj:u.length<=2000000:=ϝ;clear z F r O D;go_wp2_with fail;refine(KO.o u wr d A aj).mono ?_;rintro e o ⟨q,⟨x,u2,v,hx,rfl,rfl,⟨y,rfl,ag⟩,Z⟩|⟨J,v,rfl⟩⟩
   rotate_left
   ·exact⟨rfl,d.trans q,.inr ⟨Bad.elem P5 a.o.2.2.1 P.o (by rw[a.o.2.2.2.2];exact ae) J,_,rfl⟩⟩
   have B:ϛ (OL 102 3 Yn PGr f l u6 o w.heap.size):=(CR LY f l u6).keptR Ϟ a.o.1 q a.o.2.1;have U:=d.1.size;have HP:ϛ (PGr (y,x) x o w.heap.size):=⟨rfl,(J9 y x).mono ag U⟩;unfold gr.Hz;have E:ϛ (RR o R u2/\Al R w o/\F4 x):=⟨Z,d.trans q,hx⟩;have ab:w.heap.size<=o.heap.size:=Nat.le_trans d.1.size q.1.size;have Q:=hy B.o.own;rw[a.o.2.2.2.2]at Q;clear Z q A d hx U;go_wp2_with (at_builtin;refine EG rfl (.tmp 16) (.tmp 19) 102 39 rfl (.agg #[ψ,ω,ψ]) 3 56 underlying39 Aed rfl Ϟ Ϟ w.heap.size u6 _ [vS y.r x.row.length y.rc,vI x.n,vS y.b x.bags.length y.bc] o k Q.o rfl Ϧ ϝ ab rfl rfl ?_;intro g ak w4 ah K);have hs:=OL.snoc LY Ϟ (y:=(y,x)) (x:=x) B.o HP.o K (by rw[a.o.2.2.2.2];exact ah);have af:u6.ownBlock≠some R:=λe=>tyAt_apart E.o.1.tb (Av B.o.own e) Ϟ rfl;have ai:=E.o.1.grown K af;have ac:=DJ E.o.2.1 K (λg e=>(AE B.o.own e).1);go_wp2;go_roundw
   case rel=>exact⟨k+1,l++[x],f++[(y,x)],u2,by simp[a.o.2.2.2.2],ϝ,by go_num,hs,EF a.o.2.2.1 E.o.2.2,Da _ _ _ _,ai,ac⟩
   case measure=>simp[intOf];omega
  ·have j:k=m:=ϝ;subst j;have i2:¬((k:Int)<(k:Int)):=ϝ;obtain⟨ad,aa,hv⟩:=z.form;rw[r]at hv;have a:ϛ (OL 102 3 Yn PGr f l u6 wr w.heap.size/\(∀x∈l,F4 x)/\RR wr R u/\Al R w wr/\l.length=k):=⟨z,F,A,d,r⟩;clear z A d F r;subst hv;go_wp2;go_ret;exact⟨a.o.2.2.2.1,.inl ⟨l,u,_,⟨by rw[a.o.2.2.2.2];exact P.o,a.o.2.1⟩,by unfold lst;rw[a.o.2.2.2.2,append_assoc],rfl,⟨ad,aa,f,by rw[a.o.2.2.2.2];rfl,a.o.1⟩,a.o.2.2.1⟩⟩
def NO(c:ch.Cnt):Prop:=rowOk c.r/\okN c.n
def ptC(c:ch.Cnt):List Cel×Int:=(c.r,c.n)
theorem VI:Pre Ci NO:=Pre.via (E8.cat Bu) ptC (λx y _ _ e=>by
 obtain⟨a,b⟩:=x;obtain⟨c,d⟩:=y;simp only[ptC,Prod.mk.injEq]at e;rw[e.1,e.2]) (λ_=>rfl) (λ_ h=>h)
theorem Bad.cnt{s:List UInt8}(h:Bad (cat C7 AU) (okP rowOk okN) s):Bad Ci NO s:=h.via ptC (λ_=>rfl) (λ_ h=>h)
theorem Aee(c:ch.Cnt):8<=(Ci c).length:=by
 unfold Ci;rw[lAp,Am];omega
def OC1(y:Option Addr×Nat)(c:ch.Cnt)(w:World)(b:Nat):Prop:=AA w b (vS y.1 c.r.length y.2) c.r
theorem VJ(y:Option Addr×Nat)(c:ch.Cnt):Dx [119] (OC1 y c):=CE 119 3 (vS y.1 c.r.length y.2) _ _
def VC(base:Nat)(c:ch.Cnt)(v:Value)(w:World):Prop:=∃y:Option Addr×Nat,v= .agg #[vS y.1 c.r.length y.2,vI c.n]/\OC1 y c w base
def S9(p:(Option Addr×Nat)×ch.Cnt):List Value:=[vS p.1.1 p.2.r.length p.1.2,vI p.2.n]
def PCt(p:(Option Addr×Nat)×ch.Cnt)(c:ch.Cnt)(w:World)(b:Nat):Prop:=p.2=c/\OC1 p.1 c w b
theorem LZ(p:(Option Addr×Nat)×ch.Cnt)(c:ch.Cnt):Dx ([]++[119]) (PCt p c):=(Fc _).and (VJ _ _)
def VCs(base:Nat)(l:List ch.Cnt)(v:Value)(w:World):Prop:=∃ad cap st,v=vS ad l.length cap/\OL 83 2 S9 PCt st l v w base
theorem AaI(R C:Nat)(s:List UInt8)(w:ϙ)(h:RQ w R s)(q:RP w C R)(G:s.length<=2000000):
 η 80 #[μ C] w (Rd Ci NO (VC w.heap.size) R s w):=by
 have E:=hIz (λ(g:ϙ) (e:Al R w g) (i:RR g R s)=>JW R s g (h.go e i) ϝ);have O:=hIz (λt (g:ϙ) (e:Al R w g) (i:RR g R t) (ht:t.length<=2000000)=>CH R t g (h.go e i) ϝ);have A:=q.cell;have hC:=q.lt;have K:=hy q;have F:=h.rr.lt;have y:=hqz G;have M:ϛ (RR w R s):=h.rr;clear h G q;go_enter func80,ntmps80;go_wp2_with fail;have a:=hy ((ES.base M.o).new ϟ [ψ,ω] 83);generalize (World.alloc w _)=V at a⊢;refine(E.o V a.o.keep a.o.rr).mono ?_;rintro o g ⟨e,⟨r,t,v,m,rfl,rfl,⟨c,d,rfl,I⟩,i⟩|⟨z,v,rfl⟩⟩
 rotate_left
 ·exact⟨rfl,a.o.keep.trans e,.inr ⟨z.fst.cnt,_,rfl⟩⟩
 have D:=hqz m;replace y:ϛ (t.length<=2000000):=by have:=y.o;rw[lAp]at this;show _<=_;omega
 have l:ϛ (AA g w (vS c r.length d) r):=World.ownsRow.mono I a.o.keep.1.size;obtain⟨f,B⟩:=nM r.length;have x:=hqz B;unfold AA at l;rw[B]at l⊢;replace a:=hy (a.o.call F e i);clear m I B E A;have A:=(K.o.keep a.o.keep).cell;clear e i;go_wp2_with fail;refine(O.o t g a.o.keep a.o.rr y.o).mono ?_;rintro o p ⟨e,⟨n,J,v,m,rfl,rfl,rfl,i⟩|⟨z,v,rfl⟩⟩
 rotate_left
 ·exact⟨rfl,a.o.keep.trans e,.inr ⟨(z.snd E8 D.o).cnt,_,rfl⟩⟩
 have L:ϛ (okN n):=m;replace l:=hy ((CE 119 3 (vS c f d) _ _).keptR Ϟ l.o e a.o.rr.tb);replace a:=hy (a.o.call F e i);clear m e i A;have P:=(a.o.blk 0 _ rfl).1.cell 0 _ rfl;have Q:=(a.o.blk 0 _ rfl).1.cell 1 _ rfl;have S:=(a.o.blk 0 _ rfl).1.frz 0;have U:=(a.o.blk 0 _ rfl).1.frz 1;have k:ϛ (RR (φ (φ p w 0 (vS c f d)) w 1 (vI n)) R J/\Al R w (φ (φ p w 0 (vS c f d)) w 1 (vI n))/\AA (φ (φ p w 0 (vS c f d)) w 1 (vI n)) w.heap.size (vS c f d) r/\SB (φ (φ p w 0 (vS c f d)) w 1 (vI n)) w.heap.size [vS c f d,vI n]):=
  ⟨(a.o.rr.set ϝ).set ϝ,Ov (Ov a.o.keep nR) nR,by have:=(CE 119 3 (vS c f d) _ _).put (T:=83) (j:=1) (u:=vI n) Ϟ ((CE 119 3 (vS c f d) _ _).put (T:=83) (j:=0) (u:=vS c f d) Ϟ l.o rfl (a.o.blk 0 _ rfl).2) rfl (A6 (a.o.blk 0 _ rfl).2 _ _);unfold AA;rw[x.o];exact this,((a.o.blk 0 _ rfl).1.set 0 _ ϟ).set 1 _ ϟ⟩
 rw[Nat.add_zero]at P Q S U;go_wp2;generalize (World.setCell (World.setCell p _ _) _ _)=Z at k⊢;have X:=k.o.2.2.2.cell 0 _ rfl;have Y:=k.o.2.2.2.cell 1 _ rfl;exact bodyPost_ret (v:=.agg #[vS c f d,vI n]) (by simp[results,results80,go_sem,X,Y]) rfl ⟨k.o.2.1,.inl ⟨⟨r,n⟩,J,_,⟨D.o,L.o⟩,by unfold Ci;rw[append_assoc],rfl,⟨(c,d),by dsimp only;rw[x.o],by unfold OC1;dsimp only;rw[x.o];exact k.o.2.2.1⟩,k.o.1⟩⟩
theorem Yq(R C:Nat)(s:List UInt8)(w:ϙ)(h:RQ w R s)(Y:RP w C R)(V:s.length<=2000000):
 η 79 #[μ R,.func (.func 80) #[] #[μ C]] w (Rd (lst Ci) (okL NO) (VCs w.heap.size) R s w):=by
 have T:=hy (CH R s w h ϝ);have S:=hIz (λso (c:ϙ) t (j:Al R w c) (L:RR c R t)=>Dz R so c (h.go j L).err);have KO:=hIz (λt (c:ϙ) (j:Al R w c) (L:RR c R t) (ht:t.length<=2000000)=>AaI R C t c (h.go j L) (Y.keep j) ϝ);have O:=hqz V;clear h Y V;go_enter func79,ntmps79;go_wp2_with fail;refine T.o.mono ?_;rintro e c ⟨p,⟨n,t,v,X,rfl,rfl,rfl,M⟩|⟨J,v,rfl⟩⟩
 rotate_left
 ·exact⟨rfl,p,.inr ⟨J.len,_,rfl⟩⟩
 have G:ϛ (okN n):=X;clear X T;by_cases h0:0<=n
 rotate_left
 ·go_wp2_with (go_at_call 139;refine(S.o _ _ _ p M).mono ?_;rintro e w2 ⟨rfl,_,I⟩;obtain⟨v,rfl⟩:=I Ϥ);exact⟨rfl,p,.inr ⟨Bad.neg G.o ϝ,_,rfl⟩⟩
 obtain⟨m,rfl⟩:∃m:Nat,n=m:=⟨n.toNat,ϝ⟩;have P:ϛ (m<=9223372036854775807):=by have:=G.o.2;show _<=_;omega
 have D:ϛ (RR c R t/\Al R w c):=⟨M,p⟩;clear M p G;go_wp2_with (go_at_call 139;refine(S.o _ _ _ D.o.2 D.o.1).mono ?_;rintro e w2 ⟨rfl,I,_⟩;obtain rfl:=I ϟ)
 go_loopw [6,14] (λv i wr=> ∃(k:Nat) (l:List ch.Cnt) (f:List ((Option Addr×Nat)×ch.Cnt)) (u:List UInt8),l.length=k/\k<=m/\i=vI k/\OL 83 2 S9 PCt f l v wr w.heap.size/\(∀x∈l,NO x)/\t=l.flatMap Ci++u/\RR wr R u/\Al R w wr) (λ_ i _=>m - (intOf i).toNat)
 case atStart=>exact⟨0,[],[],t,rfl,Nat.zero_le _,rfl,OL.nil ..,ϟ,rfl,D.o⟩
 case round=>
  obtain⟨k,l,f,u,r,al,rfl,z,F,rfl,A,d⟩:=hrel;have am:8 * k+u.length<=2000000:=by
   have:=O.o;have:=E6 Aee l;rw[lAp,lAp,Am]at *;omega
  by_cases ae:k<m
  ·have a:ϛ (OL 83 2 S9 PCt f l u6 wr w.heap.size/\Ai wr R 124/\(∀x∈l,NO x)/\Al R w wr/\l.length=k):=⟨z,A.tb,F,d,r⟩;have i1:(0:Int)<=(k:Int):=ϝ;have i2:(k:Int)<(m:Int):=ϝ;have aj:u.length<=2000000:=ϝ;clear z F r O D;go_wp2_with fail;refine(KO.o u wr d A aj).mono ?_;rintro e o ⟨q,⟨x,u2,v,hx,rfl,rfl,⟨y,rfl,ag⟩,Z⟩|⟨J,v,rfl⟩⟩
   rotate_left
   ·exact⟨rfl,d.trans q,.inr ⟨Bad.elem VI a.o.2.2.1 P.o (by rw[a.o.2.2.2.2];exact ae) J,_,rfl⟩⟩
   have B:ϛ (OL 83 2 S9 PCt f l u6 o w.heap.size):=(CR LZ f l u6).keptR Ϟ a.o.1 q a.o.2.1;have U:=d.1.size;have HP:ϛ (PCt (y,x) x o w.heap.size):=⟨rfl,(VJ y x).mono ag U⟩;have E:ϛ (RR o R u2/\Al R w o/\NO x):=⟨Z,d.trans q,hx⟩;have ab:w.heap.size<=o.heap.size:=Nat.le_trans d.1.size q.1.size;have Q:=hy B.o.own;rw[a.o.2.2.2.2]at Q;clear Z q A d hx U;go_wp2_with (at_builtin;refine EG rfl (.tmp 16) (.tmp 19) 83 40 rfl (.agg #[ψ,ω]) 2 32 underlying40 ch.Lv rfl Ϟ Ϟ w.heap.size u6 _ [vS y.1 x.r.length y.2,vI x.n] o k Q.o rfl Ϧ ϝ ab rfl rfl ?_;intro g ak w4 ah K);have hs:=OL.snoc LZ Ϟ (y:=(y,x)) (x:=x) B.o HP.o K (by rw[a.o.2.2.2.2];exact ah);have af:u6.ownBlock≠some R:=λe=>tyAt_apart E.o.1.tb (Av B.o.own e) Ϟ rfl;have ai:=E.o.1.grown K af;have ac:=DJ E.o.2.1 K (λg e=>(AE B.o.own e).1);go_wp2;go_roundw
   case rel=>exact⟨k+1,l++[x],f++[(y,x)],u2,by simp[a.o.2.2.2.2],ϝ,by go_num,hs,EF a.o.2.2.1 E.o.2.2,Da _ _ _ _,ai,ac⟩
   case measure=>simp[intOf];omega
  ·have j:k=m:=ϝ;subst j;have i2:¬((k:Int)<(k:Int)):=ϝ;obtain⟨ad,aa,hv⟩:=z.form;rw[r]at hv;have a:ϛ (OL 83 2 S9 PCt f l u6 wr w.heap.size/\(∀x∈l,NO x)/\RR wr R u/\Al R w wr/\l.length=k):=⟨z,F,A,d,r⟩;clear z A d F r;subst hv;go_wp2;go_ret;exact⟨a.o.2.2.2.1,.inl ⟨l,u,_,⟨by rw[a.o.2.2.2.2];exact P.o,a.o.2.1⟩,by unfold lst;rw[a.o.2.2.2.2,append_assoc],rfl,⟨ad,aa,f,by rw[a.o.2.2.2.2];rfl,a.o.1⟩,a.o.2.2.1⟩⟩
theorem Ae5{a:List ((Option Addr×Nat)×ch.Cnt)}{l:List ch.Cnt}{v:Value}{w:ϙ}{b:Nat}(h:OL 83 2 S9 PCt a l v w b):ch.VO w b v l:=by
 refine⟨a.map λp=>(vS p.1.1 p.2.r.length p.1.2,p.2.n),by simp[h.len],?_,λi c=>?_⟩
 ·have e:ch.flat (a.map λp=>((vS p.1.1 p.2.r.length p.1.2:Value),p.2.n))=a.flatMap S9:=by
   unfold ch.flat;rw[List.flatMap_map];rfl
  rw[e,lMp,h.len];exact h.own
 ·have d:i<a.length:=by rw[h.len];exact c
  have k:=h.each i c;rw[gDe,gEe d]at k;rw[gDe,getElem?_map,gEe d];obtain⟨e,o⟩:=k;dsimp only[Option.getD_some,Option.map_some]at e o⊢;exact⟨by rw[e],_,_,by rw[e],o⟩
end cd
namespace cd
open vl bf bt
attribute [local go_sem] run_store_func
variable {W w : ϙ} {R : Nat} {s : List UInt8} {lim : Int}
structure EP(tys:List TypeId)(P:World->Nat->Prop)(w:World)(R:Nat)(s:List UInt8)(W:World)(bs:List (TypeId×List Value)):Prop where
 es:ES w R s W bs
 st:Dx tys P
 p:P W w.heap.size
theorem EP.of{a:List (TypeId×List Value)}(h:ES w R s W a):EP [] (λ_ _=>True) w R s W a:=⟨h,Fc _,trivial⟩
theorem EP.call{c:List TypeId}{P:World->Nat->Prop}{a:ϙ}{t:List UInt8}{d:List (TypeId×List Value)}(h:EP c P w R s W d)(i:124 ∉ c)(f:R<w.heap.size)(e:Al R W a)(g:RR a R t):EP c P w R t a d:=
 ⟨h.es.call f e g,h.st,h.st.keptR i h.p e h.es.rr.tb⟩
theorem EP.put{c:List TypeId}{P:World->Nat->Prop}{S:ϙ}{N j:Nat}{a:List (TypeId×List Value)}{v:Value}(h:EP c P w R s W a)(T:TypeId)(m:T ∉ c)(f:W.setCell ⟨N,j,none⟩ v=S)(i:R<w.heap.size)(k:Nat){d:List Value}(e:w.heap.size+k=N)(g:a[k]? =some (T,d))(l:j<d.length):EP c P w R s S (a.set k (T,d.set j v)):=
 ⟨h.es.put f i k e g l,h.st,h.st.put m h.p f (by rw[<-e];exact(h.es.blk k _ g).2)⟩
theorem EP.add{d e:List TypeId}{P Q:World->Nat->Prop}{b:Nat}{a:List (TypeId×List Value)}(h:EP d P w R s W a)(c:Dx e Q)(q:Q W b)(f:w.heap.size<=b):EP (d++e) (λw b=>P w b/\Q w b) w R s W a:=
 ⟨h.es,h.st.and c,h.p,c.mono q f⟩
theorem EP.size{c:List TypeId}{P:World->Nat->Prop}{a:List (TypeId×List Value)}(h:EP c P w R s W a):w.heap.size<=W.heap.size:=h.es.keep.1.size
def Lr(lim:Int)(b:Buf):Prop:=b.lim=lim/\okL Eg b.mem/\okL (okL Eg) b.runs
def ptB(b:Buf):List Ent×List (List Ent):=(b.mem,b.runs)
def Ac7:List Ent×List (List Ent)->List UInt8:=cat (lst AN) (lst (lst AN))
def Ae6:List Ent×List (List Ent)->Prop:=okP (okL Eg) (okL (okL Eg))
theorem Kt(b:Buf):Cp b=Ac7 (ptB b):=rfl
theorem VK(b:Buf)(h:Lr lim b):Ae6 (ptB b):=h.2
theorem Fa(lim:Int):Pre Cp (Lr lim):=Pre.via (J8.lst.cat J8.lst.lst) ptB (λx y g hy e=>by
 obtain⟨a,b,c⟩:=x;obtain⟨h,i,j⟩:=y;simp only[ptB,Prod.mk.injEq]at e;obtain⟨rfl,rfl⟩:=e;have d:=g.1;have f:=hy.1;dsimp only at d f;rw[d,f]) Kt VK
theorem Bad.buf(h:Bad Ac7 Ae6 s):Bad Cp (Lr lim) s:=h.via ptB Kt VK
def OB1(x:BX)(b:Buf)(w:World)(base:Nat):Prop:=OE w base (hdV x.m.1) x.m.2 b.mem/\OL 33 1 Tg PRn x.rs b.runs (vS x.ra x.rs.length x.rc) w base
def AaJ:List TypeId:=[166,119]++(33::([]++[166,119]))
theorem Ih(x:BX)(b:Buf):Dx AaJ (OB1 x b):=(P6 _ _ _).and (CR JA _ _ _)
theorem OB1.bo{x:BX}{b:Buf}{base:Nat}(h:OB1 x b w base):BO w base x b:=⟨h.1,Aeq h.2⟩
def AZ(x:BX)(b:Buf):Value:=.agg (Ω b x)
def VBf(base:Nat)(b:Buf)(v:Value)(w:World):Prop:=∃x:BX,v=AZ x b/\OB1 x b w base
theorem AaK(R:Nat)(lim:Int)(s:List UInt8)(w:ϙ)(h:RQ w R s)(J:s.length<=2000000):
 η 138 #[μ R,vI lim] w (Rd Cp (Lr lim) (VBf w.heap.size) R s w):=by
 have Q:=hIz (λ(c:ϙ) C (d:Al R w c) (g:RR c R s) (K:RP c C R)=>Oz R C s c (h.go d g) K J);have S:=hIz (λt (c:ϙ) C D (d:Al R w c) (g:RR c R t) (K:RP c C R) (hd:GP c D C R) (ht:t.length<=2000000)=>W7 R C D t c (h.go d g) K hd ht);have A:=h.rr.lt;have B:=hqz J;have M:ϛ (RR w R s):=h.rr;clear h J;go_enter func138,ntmps138;go_wp2_with fail;have a:=hy (EP.of (((((ES.base M.o).new ϟ [μ R] 71).new ϟ [ω,ψ,ψ] 36).new ϟ [G1 w.heap.size] 257).new ϟ [vI lim,ψ,ψ] 36));unfold G1 at a;generalize World.alloc (World.alloc (World.alloc (World.alloc w _) _) _) _=V at a⊢;have p:ϛ (RP V w.heap.size R):=⟨(a.o.es.blk 0 _ rfl).1.cell 0 _ rfl,ϝ,(a.o.es.blk 0 _ rfl).1.lt⟩;refine(Q.o V w.heap.size a.o.es.keep a.o.es.rr p.o).mono ?_;rintro o c ⟨d,⟨l,t,v,x,rfl,rfl,⟨e,f,es,rfl,u⟩,g⟩|⟨I,v,rfl⟩⟩
 rotate_left
 ·exact⟨rfl,a.o.es.keep.trans d,.inr ⟨I.fst.buf,_,rfl⟩⟩
 have P:=hqz x;replace B:ϛ (t.length<=2000000):=by have:=B.o;rw[lAp]at this;show _<=_;omega
 replace a:=hy ((a.o.call Ϟ A d g).add (P6 _ _ _) u a.o.size);obtain⟨n,m⟩:=nM l.length;have HN:=hqz m;rw[m]at a⊢;have F:=(a.o.es.blk 3 _ rfl).1.cell 1 _ rfl;have G:=(a.o.es.blk 3 _ rfl).1.frz 1;clear x u d g m Q p M;go_upto_region 4 with fail;generalize r:World.setCell c _ _=E;replace a:=hy (a.o.put 36 Ϟ r A 3 rfl rfl ϟ);clear F G r;have p:ϛ (RP E w.heap.size R/\GP E (w.heap.size+2) w.heap.size R):=⟨⟨(a.o.es.blk 0 _ rfl).1.cell 0 _ rfl,ϝ,(a.o.es.blk 0 _ rfl).1.lt⟩,⟨(a.o.es.blk 2 _ rfl).1.cell 0 _ rfl,ϝ,(a.o.es.blk 2 _ rfl).1.lt⟩⟩;have cb:=p.o.1.cell;go_wp2_with fail;refine(S.o t E w.heap.size (w.heap.size+2) a.o.es.keep a.o.es.rr p.o.1 p.o.2 B.o).mono ?_;rintro o w2 ⟨d,⟨L,Y,v,x,rfl,rfl,⟨i,j,X,rfl,u⟩,g⟩|⟨I,v,rfl⟩⟩
 rotate_left
 ·exact⟨rfl,a.o.es.keep.trans d,.inr ⟨(I.snd J8.lst P.o).buf,_,rfl⟩⟩
 have HY:=hqz x;replace a:=hy ((a.o.call Ϟ A d g).add (CR JA _ _ _) u a.o.size);obtain⟨k,m⟩:=nM L.length;have aa:=hqz m;rw[m]at a⊢;have U:X.length=k:=a.o.p.2.len.trans m;have F:=(a.o.es.blk 3 _ rfl).1.cell 2 _ rfl;have G:=(a.o.es.blk 3 _ rfl).1.frz 2;clear x u d g m S p cb;go_upto_region 5 with fail;generalize r:World.setCell w2 _ _=q;replace a:=hy (a.o.put 36 Ϟ r A 3 rfl rfl ϟ);clear F G r;have d0:=(a.o.es.blk 3 _ rfl).1.cell 0 _ rfl;have d1:=(a.o.es.blk 3 _ rfl).1.cell 1 _ rfl;have d2:=(a.o.es.blk 3 _ rfl).1.cell 2 _ rfl;have O:ϛ (q.there (w.heap.size+1) 0 3):=(a.o.es.blk 1 _ rfl).1.there;have y:ϛ (RR (World.setCells q (w.heap.size+1) 0 [vI lim,vS e n f,vS i k j]) R Y/\Al R w (World.setCells q (w.heap.size+1) 0 [vI lim,vS e n f,vS i k j])/\OB1 ⟨i,j,((e,n,f),es),X⟩ ⟨lim,l,L⟩ (World.setCells q (w.heap.size+1) 0 [vI lim,vS e n f,vS i k j]) w.heap.size):=
  ⟨a.o.es.rr.sets ϝ _ _,C1 a.o.es.keep (Nat.le_succ _) _ _,(Ih _ _).sets (T:=36) Ϟ _ 0 q ⟨a.o.p.1.2,by dsimp only;rw[U];exact a.o.p.2⟩ (a.o.es.blk 1 _ rfl).2⟩
 have z:ϛ ((World.setCells q (w.heap.size+1) 0 [vI lim,vS e n f,vS i k j]).rangeAt (w.heap.size+1) 0 [vI lim,vS e n f,vS i k j]):=World.rangeAt_setCells_same _ _ _ _ O.o;go_wp2_with ((with_reducible refine wpList_store_mid ?_ 36 (.tmp 4) (.tmp 18) ?_ (w.heap.size+1) 0 (ν lim e n f i k j) ?_ ?_ ?_ ?_ ?_ ?_);exact rfl;exact rfl;exact rfl;exact rfl;exact O.o;exact Adp;exact Ϧ);generalize (World.setCells q (w.heap.size+1) 0 [vI lim,vS e n f,vS i k j])=W' at z y⊢;have Z:=z.o 0 _ rfl;have z1:=z.o 1 _ rfl;have z2:=z.o 2 _ rfl;simp only[Nat.zero_add]at Z z1 z2;exact bodyPost_ret (v:=.agg (ν lim e n f i k j)) (by simp[results,results138,go_sem,Z,z1,z2]) rfl ⟨y.o.2.1,.inl ⟨⟨lim,l,L⟩,Y,_,⟨rfl,P.o,HY.o⟩,by rw[Kt];simp only[Ac7,ptB,cat,append_assoc],rfl,⟨_,by unfold AZ;dsimp only;rw[U],y.o.2.2⟩,y.o.1⟩⟩
end cd
namespace cd
open vl bf bt jn
variable {lim : Int} {s : List UInt8} {W w : ϙ} {N R b : Nat}
def U0(lim:Int)(s:Jn):Prop:=Lr lim s.L/\Lr lim s.R/\okN s.lm/\okN s.rm/\okN s.seq
def ptJ(s:Jn):Buf×Buf×Int×Int×Int:=(s.L,s.R,s.lm,s.rm,s.seq)
def Ac8:Buf×Buf×Int×Int×Int->List UInt8:=cat Cp (cat Cp (cat AU (cat AU AU)))
def Ae7(lim:Int):Buf×Buf×Int×Int×Int->Prop:=okP (Lr lim) (okP (Lr lim) (okP okN (okP okN okN)))
theorem Qv(s:Jn):FY s=Ac8 (ptJ s):=by
 unfold FY Ac8 ptJ;simp only[cat,append_assoc]
theorem VL(s:Jn)(h:U0 lim s):Ae7 lim (ptJ s):=h
theorem U1(lim:Int):Pre FY (U0 lim):=Pre.via ((Fa lim).cat ((Fa lim).cat (Bu.cat (Bu.cat Bu)))) ptJ (λx y _ _ e=>by
 obtain⟨a,b,c,d,f⟩:=x;obtain⟨g,h,i,j,k⟩:=y;simp only[ptJ,Prod.mk.injEq]at e;obtain⟨rfl,rfl,rfl,rfl,rfl⟩:=e;rfl) Qv VL
theorem Bad.jn(h:Bad Ac8 (Ae7 lim) s):Bad FY (U0 lim) s:=h.via ptJ Qv VL
def OJ1(y:JX)(s:Jn)(w:World)(b:Nat):Prop:=OB1 y.l s.L w b/\OB1 y.r s.R w b
theorem Qw(y:JX)(s:Jn):Dx (AaJ++AaJ) (OJ1 y s):=(Ih _ _).and (Ih _ _)
def VJn(base:Nat)(s:Jn)(v:Value)(w:World):Prop:=∃y:JX,v=joinV s y/\OJ1 y s w base
theorem AaL:(Tryz.prog.info? 38).map (·.size)=some 9:=Ϡ
theorem Yr(R:Nat)(lim:Int)(s:List UInt8)(w:ϙ)(h:RQ w R s)(U:s.length<=2000000):
 η 75 #[μ R,vI lim] w (Rd FY (U0 lim) (VJn w.heap.size) R s w):=by
 have S:=hIz (λt (q:ϙ) (c:Al R w q) (d:RR q R t) (X:t.length<=2000000)=>AaK R lim t q (h.go c d) X);have F:=hIz (λt (q:ϙ) (c:Al R w q) (d:RR q R t) (X:t.length<=2000000)=>CH R t q (h.go c d) ϝ);have e:=h.rr.lt;have i:=hqz U;have P:ϛ (RR w R s):=h.rr;clear h U;go_enter func75,ntmps75;go_wp2_with fail;have a:=hy (EP.of (((ES.base P.o).new ϟ [ω,ψ,ψ,ω,ψ,ψ,ω,ω,ω] 38).new ϟ [ω,ψ,ψ,ω,ψ,ψ,ω,ω,ω] 38));generalize World.alloc (World.alloc w _) _=V at a⊢;clear P;refine(S.o s V a.o.es.keep a.o.es.rr i.o).mono ?_;rintro o q ⟨c,⟨bl,t,v,g,rfl,rfl,⟨x,rfl,B⟩,d⟩|⟨p,v,rfl⟩⟩
 rotate_left
 ·exact⟨rfl,a.o.es.keep.trans c,.inr ⟨p.fst.jn,_,rfl⟩⟩
 have u:=hqz g;replace i:ϛ (t.length<=2000000):=by have:=i.o;rw[lAp]at this;show _<=_;omega
 replace a:=hy ((a.o.call Ϟ e c d).add (Ih x bl) B a.o.size);have G:=(a.o.es.blk 1 _ rfl).1.cell 0 _ rfl;have K:=(a.o.es.blk 1 _ rfl).1.frz 0;have I:=(a.o.es.blk 1 _ rfl).1.cell 1 _ rfl;have L:=(a.o.es.blk 1 _ rfl).1.frz 1;have J:=(a.o.es.blk 1 _ rfl).1.cell 2 _ rfl;have M:=(a.o.es.blk 1 _ rfl).1.frz 2;clear g B c d;unfold AZ;go_wp2_with fail;generalize f:World.setCell (World.setCell (World.setCell q _ _) _ _) _ _=S1;replace a:=hy (((a.o.put 38 Ϟ rfl e 1 rfl rfl ϟ).put 38 Ϟ rfl e 1 rfl rfl ϟ).put 38 Ϟ f e 1 rfl rfl ϟ);clear G K I L J M f;refine(S.o t S1 a.o.es.keep a.o.es.rr i.o).mono ?_;rintro o w2 ⟨c,⟨j,Y,v,g,rfl,rfl,⟨y,rfl,B⟩,d⟩|⟨p,v,rfl⟩⟩
 rotate_left
 ·exact⟨rfl,a.o.es.keep.trans c,.inr ⟨((p.fst).snd (Fa _) u.o).jn,_,rfl⟩⟩
 have D:=hqz g;replace i:ϛ (Y.length<=2000000):=by have:=i.o;rw[lAp]at this;show _<=_;omega
 replace a:=hy ((a.o.call Ϟ e c d).add (Ih y j) B a.o.size);have G:=(a.o.es.blk 1 _ rfl).1.cell 3 _ rfl;have K:=(a.o.es.blk 1 _ rfl).1.frz 3;have I:=(a.o.es.blk 1 _ rfl).1.cell 4 _ rfl;have L:=(a.o.es.blk 1 _ rfl).1.frz 4;have J:=(a.o.es.blk 1 _ rfl).1.cell 5 _ rfl;have M:=(a.o.es.blk 1 _ rfl).1.frz 5;clear g B c d;unfold AZ;go_wp2_with fail;generalize f:World.setCell (World.setCell (World.setCell w2 _ _) _ _) _ _=S2;replace a:=hy (((a.o.put 38 Ϟ rfl e 1 rfl rfl ϟ).put 38 Ϟ rfl e 1 rfl rfl ϟ).put 38 Ϟ f e 1 rfl rfl ϟ);clear G K I L J M f;refine(F.o Y S2 a.o.es.keep a.o.es.rr i.o).mono ?_;rintro o w3 ⟨c,⟨l,Z,v,g,rfl,rfl,rfl,d⟩|⟨p,v,rfl⟩⟩
 rotate_left
 ·exact⟨rfl,a.o.es.keep.trans c,.inr ⟨(((p.fst).snd (Fa _) D.o).snd (Fa _) u.o).jn,_,rfl⟩⟩
 have E:=hqz g;replace i:ϛ (Z.length<=2000000):=by have:=i.o;rw[lAp]at this;show _<=_;omega
 replace a:=hy (a.o.call Ϟ e c d);have z:=(a.o.es.blk 1 _ rfl).1.cell 6 _ rfl;have A:=(a.o.es.blk 1 _ rfl).1.frz 6;clear g c d;go_wp2_with fail;generalize f:World.setCell w3 _ _=S3;replace a:=hy (a.o.put 38 Ϟ f e 1 rfl rfl ϟ);clear z A f;refine(F.o Z S3 a.o.es.keep a.o.es.rr i.o).mono ?_;rintro o w4 ⟨c,⟨m,t4,v,g,rfl,rfl,rfl,d⟩|⟨p,v,rfl⟩⟩
 rotate_left
 ·exact⟨rfl,a.o.es.keep.trans c,.inr ⟨((((p.fst).snd Bu E.o).snd (Fa _) D.o).snd (Fa _) u.o).jn,_,rfl⟩⟩
 have O:=hqz g;replace i:ϛ (t4.length<=2000000):=by have:=i.o;rw[lAp]at this;show _<=_;omega
 replace a:=hy (a.o.call Ϟ e c d);have z:=(a.o.es.blk 1 _ rfl).1.cell 7 _ rfl;have A:=(a.o.es.blk 1 _ rfl).1.frz 7;clear g c d;go_wp2_with fail;generalize f:World.setCell w4 _ _=S4;replace a:=hy (a.o.put 38 Ϟ f e 1 rfl rfl ϟ);clear z A f;refine(F.o t4 S4 a.o.es.keep a.o.es.rr i.o).mono ?_;rintro o w5 ⟨c,⟨n,t5,v,g,rfl,rfl,rfl,d⟩|⟨p,v,rfl⟩⟩
 rotate_left
 ·exact⟨rfl,a.o.es.keep.trans c,.inr ⟨((((p.snd Bu O.o).snd Bu E.o).snd (Fa _) D.o).snd (Fa _) u.o).jn,_,rfl⟩⟩
 have HD:=hqz g;replace a:=hy (a.o.call Ϟ e c d);have z:=(a.o.es.blk 1 _ rfl).1.cell 8 _ rfl;have A:=(a.o.es.blk 1 _ rfl).1.frz 8;clear g c d;go_upto_region 7 with fail;generalize f:World.setCell w5 _ _=r;replace a:=hy (a.o.put 38 Ϟ f e 1 rfl rfl ϟ);clear z A f;have d0:=(a.o.es.blk 1 _ rfl).1.cell 0 _ rfl;have d1:=(a.o.es.blk 1 _ rfl).1.cell 1 _ rfl;have d2:=(a.o.es.blk 1 _ rfl).1.cell 2 _ rfl;have d3:=(a.o.es.blk 1 _ rfl).1.cell 3 _ rfl;have d4:=(a.o.es.blk 1 _ rfl).1.cell 4 _ rfl;have d5:=(a.o.es.blk 1 _ rfl).1.cell 5 _ rfl;have d6:=(a.o.es.blk 1 _ rfl).1.cell 6 _ rfl;have d7:=(a.o.es.blk 1 _ rfl).1.cell 7 _ rfl;have d8:=(a.o.es.blk 1 _ rfl).1.cell 8 _ rfl;have Q:ϛ (r.there w.heap.size 0 9):=(a.o.es.blk 0 _ rfl).1.there;have C:ϛ (RR (World.setCells r w.heap.size 0 [vI bl.lim,vS x.m.1.1 x.m.1.2.1 x.m.1.2.2,vS x.ra x.rs.length x.rc,vI j.lim,vS y.m.1.1 y.m.1.2.1 y.m.1.2.2,vS y.ra y.rs.length y.rc,vI l,vI m,vI n]) R t5/\Al R w (World.setCells r w.heap.size 0 [vI bl.lim,vS x.m.1.1 x.m.1.2.1 x.m.1.2.2,vS x.ra x.rs.length x.rc,vI j.lim,vS y.m.1.1 y.m.1.2.1 y.m.1.2.2,vS y.ra y.rs.length y.rc,vI l,vI m,vI n])/\OJ1 ⟨x,y⟩ ⟨bl,j,l,m,n⟩ (World.setCells r w.heap.size 0 [vI bl.lim,vS x.m.1.1 x.m.1.2.1 x.m.1.2.2,vS x.ra x.rs.length x.rc,vI j.lim,vS y.m.1.1 y.m.1.2.1 y.m.1.2.2,vS y.ra y.rs.length y.rc,vI l,vI m,vI n]) w.heap.size):=
  ⟨a.o.es.rr.sets ϝ _ _,C1 a.o.es.keep nR _ _,(Qw _ _).sets (T:=38) Ϟ _ 0 r ⟨a.o.p.1.2,a.o.p.2⟩ (a.o.es.blk 0 _ rfl).2⟩
 have k:ϛ ((World.setCells r w.heap.size 0 [vI bl.lim,vS x.m.1.1 x.m.1.2.1 x.m.1.2.2,vS x.ra x.rs.length x.rc,vI j.lim,vS y.m.1.1 y.m.1.2.1 y.m.1.2.2,vS y.ra y.rs.length y.rc,vI l,vI m,vI n]).rangeAt w.heap.size 0 [vI bl.lim,vS x.m.1.1 x.m.1.2.1 x.m.1.2.2,vS x.ra x.rs.length x.rc,vI j.lim,vS y.m.1.1 y.m.1.2.1 y.m.1.2.2,vS y.ra y.rs.length y.rc,vI l,vI m,vI n]):=World.rangeAt_setCells_same _ _ _ _ Q.o;go_wp2_with ((with_reducible refine wpList_store_mid ?_ 38 (.tmp 4) (.tmp 23) ?_ w.heap.size 0 #[vI bl.lim,vS x.m.1.1 x.m.1.2.1 x.m.1.2.2,vS x.ra x.rs.length x.rc,vI j.lim,vS y.m.1.1 y.m.1.2.1 y.m.1.2.2,vS y.ra y.rs.length y.rc,vI l,vI m,vI n] ?_ ?_ ?_ ?_ ?_ ?_);exact rfl;exact rfl;exact rfl;exact rfl;exact Q.o;exact AaL;exact Ϧ);generalize (World.setCells r w.heap.size 0 [vI bl.lim,vS x.m.1.1 x.m.1.2.1 x.m.1.2.2,vS x.ra x.rs.length x.rc,vI j.lim,vS y.m.1.1 y.m.1.2.1 y.m.1.2.2,vS y.ra y.rs.length y.rc,vI l,vI m,vI n])=W' at k C⊢;have z0:=k.o 0 _ rfl;have z1:=k.o 1 _ rfl;have z2:=k.o 2 _ rfl;have z3:=k.o 3 _ rfl;have z4:=k.o 4 _ rfl;have z5:=k.o 5 _ rfl;have z6:=k.o 6 _ rfl;have z7:=k.o 7 _ rfl;have z8:=k.o 8 _ rfl;simp only[Nat.zero_add]at z0 z1 z2 z3 z4 z5 z6 z7 z8;exact bodyPost_ret (v:=.agg #[vI bl.lim,vS x.m.1.1 x.m.1.2.1 x.m.1.2.2,vS x.ra x.rs.length x.rc,vI j.lim,vS y.m.1.1 y.m.1.2.1 y.m.1.2.2,vS y.ra y.rs.length y.rc,vI l,vI m,vI n]) (by simp[results,results75,go_sem,z0,z1,z2,z3,z4,z5,z6,z7,z8]) rfl ⟨C.o.2.1,.inl ⟨⟨bl,j,l,m,n⟩,t5,_,⟨u.o,D.o,E.o,O.o,HD.o⟩,by rw[Qv];simp only[Ac8,ptJ,cat,append_assoc],rfl,⟨⟨x,y⟩,rfl,C.o.2.2⟩,C.o.1⟩⟩
structure Egg where
 j:Jn
 gs:List gr.Grp
 v:List ch.Cnt
structure GGX where
 y:JX
 ga:Option Addr
 gc:Nat
 xs:List gr.GX
 va:Option Addr
 vc:Nat
def egC(e:Egg)(x:GGX):List Value:=[vI e.j.L.lim,vS x.y.l.m.1.1 x.y.l.m.1.2.1 x.y.l.m.1.2.2,vS x.y.l.ra x.y.l.rs.length x.y.l.rc,vI e.j.R.lim,vS x.y.r.m.1.1 x.y.r.m.1.2.1 x.y.r.m.1.2.2,vS x.y.r.ra x.y.r.rs.length x.y.r.rc,vI e.j.lm,vI e.j.rm,vI e.j.seq,vS x.ga e.gs.length x.gc,vS x.va e.v.length x.vc]
def egV(e:Egg)(x:GGX):Value:=.agg (egC e x).toArray
def Cc(e:Egg):List UInt8:=FY e.j++lst AM e.gs++lst Ci e.v
def Fb(lim:Int)(e:Egg):Prop:=U0 lim e.j/\okL F4 e.gs/\okL NO e.v
def U2(e:Egg):Jn×List gr.Grp×List ch.Cnt:=(e.j,e.gs,e.v)
def VP:Jn×List gr.Grp×List ch.Cnt->List UInt8:=cat FY (cat (lst AM) (lst Ci))
def Adb(lim:Int):Jn×List gr.Grp×List ch.Cnt->Prop:=okP (U0 lim) (okP (okL F4) (okL NO))
theorem Qx(e:Egg):Cc e=VP (U2 e):=by
 unfold Cc VP U2;simp only[cat,append_assoc]
theorem VQ(e:Egg)(h:Fb lim e):Adb lim (U2 e):=h
theorem Qy(lim:Int):Pre Cc (Fb lim):=Pre.via ((U1 lim).cat (P5.lst.cat VI.lst)) U2 (λx y _ _ e=>by
 obtain⟨a,b,c⟩:=x;obtain⟨d,f,g⟩:=y;simp only[U2,Prod.mk.injEq]at e;obtain⟨rfl,rfl,rfl⟩:=e;rfl) Qx VQ
theorem Bad.eg(h:Bad VP (Adb lim) s):Bad Cc (Fb lim) s:=h.via U2 Qx VQ
def OE1(x:GGX)(st:List (gr.GX×gr.Grp))(su:List ((Option Addr×Nat)×ch.Cnt))(e:Egg)(w:World)(b:Nat):Prop:=
 OJ1 x.y e.j w b/\OL 102 3 Yn PGr st e.gs (vS x.ga e.gs.length x.gc) w b/\OL 83 2 S9 PCt su e.v (vS x.va e.v.length x.vc) w b
def tysE:List TypeId:=(AaJ++AaJ)++((102::([]++Ad3))++(83::([]++[119])))
theorem I9(x:GGX)(a:List (gr.GX×gr.Grp))(c:List ((Option Addr×Nat)×ch.Cnt))(e:Egg):Dx tysE (OE1 x a c e):=(Qw _ _).and ((CR LY _ _ _).and (CR LZ _ _ _))
def VEg(base:Nat)(e:Egg)(v:Value)(w:World):Prop:=∃x st su,v=egV e x/\x.xs=st.map (·.1)/\OE1 x st su e w base
theorem ES.sets{a:List (TypeId×List Value)}(h:ES w R s W a)(j:R<w.heap.size)(k:Nat){b:TypeId×List Value}(g:w.heap.size+k=N)(d:a[k]? =some b)(l:List Value)(m:l.length<=b.2.length):ES w R s (W.setCells N 0 l) (a.set k (b.1,b.2.take 0++l++b.2.drop (0+l.length))):=by
 subst g;refine⟨C1 h.keep ϝ _ _,h.rr.sets ϝ _ _,λi c e=>?_⟩;by_cases f:i=k
 ·subst f;rw[List.getElem?_set_self (List.getElem?_eq_some_iff.1 d).1]at e;obtain rfl:=(Option.some.inj e);exact⟨SB.sets l 0 _ _ (h.blk i b d).1 ϝ,DN _ _ _ (h.blk i b d).2⟩
 ·rw[List.getElem?_set_ne (λe=>f e.symm)]at e;exact⟨(h.blk i c e).1.same (BS ϝ _ _ _) (by rw[size_setCells];exact Nat.le_refl _),DN _ _ _ (h.blk i c e).2⟩
theorem EP.sets{d:List TypeId}{P:World->Nat->Prop}{c:List (TypeId×List Value)}(h:EP d P w R s W c)(T:TypeId)(j:T ∉ d)(g:R<w.heap.size)(k:Nat){a:List Value}(e:w.heap.size+k=N)(f:c[k]? =some (T,a))(l:List Value)(i:l.length<=a.length):EP d P w R s (W.setCells N 0 l) (c.set k (T,a.take 0++l++a.drop (0+l.length))):=
 ⟨h.es.sets g k e f l i,h.st,h.st.sets j l 0 _ h.p (by rw[<-e];exact(h.es.blk k _ f).2)⟩
theorem GW:(Tryz.prog.info? 42).map (·.size)=some 11:=Ϡ
theorem SA(R:Nat)(lim:Int)(s:List UInt8)(w:ϙ)(h:RQ w R s)(hm:s.length<=2000000):
 η 35 #[μ R,vI lim] w (Rd Cc (Fb lim) (VEg w.heap.size) R s w):=by
 have ad:∀(fn:Fn) (first aa:Array Value) (w:ϙ),(Instr.makeFunc fn first aa).run Tryz.prog w= .ok (.func fn first aa) w:=λ_ _ _ _=>rfl;have KJ:=hIz (λt (d:ϙ) (c:Al R w d) (e:RR d R t) (F:t.length<=2000000)=>Yr R lim t d (h.go c e) F);have KG:=hIz (λt (d:ϙ) C (c:Al R w d) (e:RR d R t) (O:RP d C R) (F:t.length<=2000000)=>Yp R C t d (h.go c e) O F);have KC:=hIz (λt (d:ϙ) C (c:Al R w d) (e:RR d R t) (O:RP d C R) (F:t.length<=2000000)=>Yq R C t d (h.go c e) O F);have B:=h.rr.lt;have u:=hqz hm;have U:ϛ (RR w R s):=h.rr;clear h hm;go_enter func35,ntmps35;go_wp2_with fail;have a:=hy (EP.of ((((ES.base U.o).new ϟ [μ R] 71).new ϟ [ω,ψ,ψ,ω,ψ,ψ,ω,ω,ω,ψ,ψ] 42).new ϟ [ω,ψ,ψ,ω,ψ,ψ,ω,ω,ω,ψ,ψ] 42));generalize World.alloc (World.alloc (World.alloc w _) _) _=V at a⊢;clear U;refine(KJ.o s V a.o.es.keep a.o.es.rr u.o).mono ?_;rintro o d ⟨c,⟨j,t,v,q,rfl,rfl,⟨z,rfl,p⟩,e⟩|⟨E,v,rfl⟩⟩
 rotate_left
 ·exact⟨rfl,a.o.es.keep.trans c,.inr ⟨E.fst.eg,_,rfl⟩⟩
 have I:=hqz q;replace u:ϛ (t.length<=2000000):=by have:=u.o;rw[lAp]at this;show _<=_;omega
 replace a:=hy ((a.o.call Ϟ B c e).add (Qw z j) p a.o.size);rw[AK];have Y:ϛ (d.there (w.heap.size+1+1) 0 9):=λi hi=>(a.o.es.blk 2 _ rfl).1.there i Ϣ;clear q p c e KJ;go_upto_region 3 with((with_reducible refine wpList_store_mid ?_ 38 (.tmp 9) (.tmp 8) ?_ (w.heap.size+1+1) 0 (Ψ j z) ?_ ?_ ?_ ?_ ?_ ?_);exact rfl;exact rfl;exact rfl;exact rfl;exact Y.o;exact AaL;exact Ϧ);replace a:=hy (a.o.sets 42 Ϟ B 2 (N:=w.heap.size+1+1) rfl rfl (Γ j z) ϟ);generalize World.setCells d (w.heap.size+1+1) 0 (Γ j z)=S1 at a⊢;have x:ϛ (RP S1 w.heap.size R):=⟨(a.o.es.blk 0 _ rfl).1.cell 0 _ rfl,ϝ,(a.o.es.blk 0 _ rfl).1.lt⟩;have J:=x.o.cell;clear Y;go_wp2_with fail;refine(KG.o t S1 w.heap.size a.o.es.keep a.o.es.rr x.o u.o).mono ?_;rintro o w2 ⟨c,⟨M,t2,v,q,rfl,rfl,⟨g,k,P,rfl,p⟩,e⟩|⟨E,v,rfl⟩⟩
 rotate_left
 ·exact⟨rfl,a.o.es.keep.trans c,.inr ⟨((E.fst).snd (U1 _) I.o).eg,_,rfl⟩⟩
 have HY:=hqz q;replace u:ϛ (t2.length<=2000000):=by have:=u.o;rw[lAp]at this;show _<=_;omega
 replace a:=hy ((a.o.call Ϟ B c e).add (CR LY _ _ _) p a.o.size);obtain⟨n,A⟩:=nM M.length;have S:=hqz A;rw[A]at a⊢;have K:=(a.o.es.blk 2 _ rfl).1.cell 9 _ rfl;have L:=(a.o.es.blk 2 _ rfl).1.frz 9;clear q p c e A KG x J;go_upto_region 4 with fail;generalize D:World.setCell w2 _ _=S2;replace a:=hy (a.o.put 42 Ϟ D B 2 rfl rfl ϟ);clear K L D;have x:ϛ (RP S2 w.heap.size R):=⟨(a.o.es.blk 0 _ rfl).1.cell 0 _ rfl,ϝ,(a.o.es.blk 0 _ rfl).1.lt⟩;have J:=x.o.cell;go_wp2_with fail;refine(KC.o t2 S2 w.heap.size a.o.es.keep a.o.es.rr x.o u.o).mono ?_;rintro o w3 ⟨c,⟨Q,t3,v,q,rfl,rfl,⟨l,m,su,rfl,p⟩,e⟩|⟨E,v,rfl⟩⟩
 rotate_left
 ·exact⟨rfl,a.o.es.keep.trans c,.inr ⟨((E.snd P5.lst HY.o).snd (U1 _) I.o).eg,_,rfl⟩⟩
 have HZ:=hqz q;replace a:=hy ((a.o.call Ϟ B c e).add (CR LZ _ _ _) p a.o.size);obtain⟨r,A⟩:=nM Q.length;have Z:=hqz A;rw[A]at a⊢;have K:=(a.o.es.blk 2 _ rfl).1.cell 10 _ rfl;have L:=(a.o.es.blk 2 _ rfl).1.frz 10;clear q p c e A KC x J;go_upto_region 5 with fail;generalize D:World.setCell w3 _ _=y;replace a:=hy (a.o.put 42 Ϟ D B 2 rfl rfl ϟ);clear K L D;have d0:=(a.o.es.blk 2 _ rfl).1.cell 0 _ rfl;have d1:=(a.o.es.blk 2 _ rfl).1.cell 1 _ rfl;have d2:=(a.o.es.blk 2 _ rfl).1.cell 2 _ rfl;have d3:=(a.o.es.blk 2 _ rfl).1.cell 3 _ rfl;have d4:=(a.o.es.blk 2 _ rfl).1.cell 4 _ rfl;have d5:=(a.o.es.blk 2 _ rfl).1.cell 5 _ rfl;have d6:=(a.o.es.blk 2 _ rfl).1.cell 6 _ rfl;have d7:=(a.o.es.blk 2 _ rfl).1.cell 7 _ rfl;have d8:=(a.o.es.blk 2 _ rfl).1.cell 8 _ rfl;have d9:=(a.o.es.blk 2 _ rfl).1.cell 9 _ rfl;have ac:=(a.o.es.blk 2 _ rfl).1.cell 10 _ rfl;have X:ϛ (y.there (w.heap.size+1) 0 11):=(a.o.es.blk 1 _ rfl).1.there;have G:ϛ (RR (World.setCells y (w.heap.size+1) 0 [vI j.L.lim,vS z.l.m.1.1 z.l.m.1.2.1 z.l.m.1.2.2,vS z.l.ra z.l.rs.length z.l.rc,vI j.R.lim,vS z.r.m.1.1 z.r.m.1.2.1 z.r.m.1.2.2,vS z.r.ra z.r.rs.length z.r.rc,vI j.lm,vI j.rm,vI j.seq,vS g n k,vS l r m]) R t3/\Al R w (World.setCells y (w.heap.size+1) 0 [vI j.L.lim,vS z.l.m.1.1 z.l.m.1.2.1 z.l.m.1.2.2,vS z.l.ra z.l.rs.length z.l.rc,vI j.R.lim,vS z.r.m.1.1 z.r.m.1.2.1 z.r.m.1.2.2,vS z.r.ra z.r.rs.length z.r.rc,vI j.lm,vI j.rm,vI j.seq,vS g n k,vS l r m])/\OE1 ⟨z,g,k,P.map (·.1),l,m⟩ P su ⟨j,M,Q⟩ (World.setCells y (w.heap.size+1) 0 [vI j.L.lim,vS z.l.m.1.1 z.l.m.1.2.1 z.l.m.1.2.2,vS z.l.ra z.l.rs.length z.l.rc,vI j.R.lim,vS z.r.m.1.1 z.r.m.1.2.1 z.r.m.1.2.2,vS z.r.ra z.r.rs.length z.r.rc,vI j.lm,vI j.rm,vI j.seq,vS g n k,vS l r m]) w.heap.size):=
  ⟨a.o.es.rr.sets ϝ _ _,C1 a.o.es.keep (Nat.le_succ _) _ _,(I9 _ _ _ _).sets (T:=42) Ϟ _ 0 y ⟨a.o.p.1.1.2,by dsimp only;rw[S.o];exact a.o.p.1.2,by dsimp only;rw[Z.o];exact a.o.p.2⟩ (a.o.es.blk 1 _ rfl).2⟩
 have f:ϛ ((World.setCells y (w.heap.size+1) 0 [vI j.L.lim,vS z.l.m.1.1 z.l.m.1.2.1 z.l.m.1.2.2,vS z.l.ra z.l.rs.length z.l.rc,vI j.R.lim,vS z.r.m.1.1 z.r.m.1.2.1 z.r.m.1.2.2,vS z.r.ra z.r.rs.length z.r.rc,vI j.lm,vI j.rm,vI j.seq,vS g n k,vS l r m]).rangeAt (w.heap.size+1) 0 [vI j.L.lim,vS z.l.m.1.1 z.l.m.1.2.1 z.l.m.1.2.2,vS z.l.ra z.l.rs.length z.l.rc,vI j.R.lim,vS z.r.m.1.1 z.r.m.1.2.1 z.r.m.1.2.2,vS z.r.ra z.r.rs.length z.r.rc,vI j.lm,vI j.rm,vI j.seq,vS g n k,vS l r m]):=World.rangeAt_setCells_same _ _ _ _ X.o;go_wp2_with ((with_reducible refine wpList_store_mid ?_ 42 (.tmp 4) (.tmp 18) ?_ (w.heap.size+1) 0 #[vI j.L.lim,vS z.l.m.1.1 z.l.m.1.2.1 z.l.m.1.2.2,vS z.l.ra z.l.rs.length z.l.rc,vI j.R.lim,vS z.r.m.1.1 z.r.m.1.2.1 z.r.m.1.2.2,vS z.r.ra z.r.rs.length z.r.rc,vI j.lm,vI j.rm,vI j.seq,vS g n k,vS l r m] ?_ ?_ ?_ ?_ ?_ ?_);exact rfl;exact rfl;exact rfl;exact rfl;exact X.o;exact GW;exact Ϧ);generalize (World.setCells y (w.heap.size+1) 0 [vI j.L.lim,vS z.l.m.1.1 z.l.m.1.2.1 z.l.m.1.2.2,vS z.l.ra z.l.rs.length z.l.rc,vI j.R.lim,vS z.r.m.1.1 z.r.m.1.2.1 z.r.m.1.2.2,vS z.r.ra z.r.rs.length z.r.rc,vI j.lm,vI j.rm,vI j.seq,vS g n k,vS l r m])=W' at f G⊢;have z0:=f.o 0 _ rfl;have z1:=f.o 1 _ rfl;have z2:=f.o 2 _ rfl;have z3:=f.o 3 _ rfl;have z4:=f.o 4 _ rfl;have z5:=f.o 5 _ rfl;have z6:=f.o 6 _ rfl;have z7:=f.o 7 _ rfl;have z8:=f.o 8 _ rfl;have z9:=f.o 9 _ rfl;have ab:=f.o 10 _ rfl;simp only[Nat.zero_add]at z0 z1 z2 z3 z4 z5 z6 z7 z8 z9 ab
 exact bodyPost_ret (v:=.agg #[vI j.L.lim,vS z.l.m.1.1 z.l.m.1.2.1 z.l.m.1.2.2,vS z.l.ra z.l.rs.length z.l.rc,vI j.R.lim,vS z.r.m.1.1 z.r.m.1.2.1 z.r.m.1.2.2,vS z.r.ra z.r.rs.length z.r.rc,vI j.lm,vI j.rm,vI j.seq,vS g n k,vS l r m]) (by simp[results,results35,go_sem,z0,z1,z2,z3,z4,z5,z6,z7,z8,z9,ab]) rfl ⟨G.o.2.1,.inl ⟨⟨j,M,Q⟩,t3,_,⟨I.o,HY.o,HZ.o⟩,by rw[Qx];simp only[VP,U2,cat,append_assoc],rfl,⟨_,P,su,by unfold egV egC;dsimp only;rw[S.o,Z.o],rfl,G.o.2.2⟩,G.o.1⟩⟩
def zE:List Value:=[ω,ψ,ψ,ω,ψ,ψ,ω,ω,ω,ψ,ψ]
def RdE(R EB:Nat)(lim:Int)(s:List UInt8)(w:World)(o:Ending)(w':World):Prop:=
 (∃e x st su t,Fb lim e/\s=Cc e++t/\o= .returned (.tuple #[])/\SB w' EB (egC e x)/\x.xs=st.map (·.1)/\OE1 x st su e w' w.heap.size/\RR w' R t/\Below 0 w w'/\∀g,g<w.heap.size->g≠R->g≠EB->w'.heap[g]? =w.heap[g]?)\/(Bad Cc (Fb lim) s/\PAN o/\Al R w w')
theorem Ac9(R p a:Nat)(lim:Int)(s:List UInt8)(w:ϙ)(h:RQ w R s)(J:s.length<=2000000)(K:Δ w p 5 (vI lim))(q:SB w a zE)(r:Ai w a 42)(u:a≠R):
 η 34 #[μ R,μ p,μ a] w (RdE R a lim s w):=by
 have D:=hy (SA R lim s w h J);have j:ϛ (SB w a zE/\Ai w a 42):=⟨q,r⟩;clear h q r;go_enter func34,ntmps34;go_wp2_with fail;refine D.o.mono ?_;rintro o c ⟨d,⟨e,t,v,A,rfl,rfl,⟨x,i,m,rfl,B,y⟩,z⟩|⟨I,v,rfl⟩⟩
 rotate_left
 ·exact⟨rfl,.inr ⟨I,⟨_,rfl⟩,d⟩⟩
 have l:c.heap[a]? =w.heap[a]? :=d.2 a j.o.1.lt u;have k:ϛ (SB c a zE/\Ai c a 42):=⟨j.o.1.same l d.1.size,A0 j.o.2 l⟩;have f:ϛ (SB (World.setCells c a 0 (egC e x)) a (egC e x)/\OE1 x i m e (World.setCells c a 0 (egC e x)) w.heap.size/\RR (World.setCells c a 0 (egC e x)) R t/\Below 0 w (World.setCells c a 0 (egC e x))/\∀g,g<w.heap.size->g≠R->g≠a->(World.setCells c a 0 (egC e x)).heap[g]? =w.heap[g]?):=
  ⟨SB.sets (egC e x) 0 c zE k.o.1 (by simp[zE,egC]),(I9 x i m e).sets (T:=42) Ϟ _ 0 c y k.o.2,z.sets u _ _,below_setCells (Nat.zero_le _) _ 0 _ d.1,λg E F G=>(BS G _ _ _).trans (d.2 g E F)⟩
 have C:ϛ (c.there a 0 11):=k.o.1.there;have n:ϛ (Fb lim e/\x.xs=i.map (·.1)):=⟨A,B⟩;clear A B y z d l;unfold egV egC at *;go_wp2_with ((with_reducible refine wpList_store_mid ?_ 42 (.tmp 2) (.tmp 7) ?_ a 0 #[vI e.j.L.lim,vS x.y.l.m.1.1 x.y.l.m.1.2.1 x.y.l.m.1.2.2,vS x.y.l.ra x.y.l.rs.length x.y.l.rc,vI e.j.R.lim,vS x.y.r.m.1.1 x.y.r.m.1.2.1 x.y.r.m.1.2.2,vS x.y.r.ra x.y.r.rs.length x.y.r.rc,vI e.j.lm,vI e.j.rm,vI e.j.seq,vS x.ga e.gs.length x.gc,vS x.va e.v.length x.vc] ?_ ?_ ?_ ?_ ?_ ?_);exact rfl;exact rfl;exact rfl;exact rfl;exact C.o;exact GW;exact Ϧ)
 go_end0
 exact .inl ⟨e,x,i,m,t,n.o.1,rfl,rfl,f.o.1,n.o.2,f.o.2.1,f.o.2.2.1,f.o.2.2.2⟩
theorem AcA(q:ByteArray)(i:Nat)(r:List UInt8)(h:r≠[]):ByteArray.toList.loop q i r≠[]:=by
 fun_induction ByteArray.toList.loop q i r
 ·rename_i a;exact a ϟ
 ·simpa using h
theorem Ys(q:ByteArray)(h:0<q.size):q.toList.isEmpty=false:=by
 unfold ByteArray.toList;rw[ByteArray.toList.loop,if_pos h]
 cases e:ByteArray.toList.loop q (0+1) [q.get! 0]with
 |nil=>exact absurd e (AcA q _ _ ϟ)
 |cons a l=>rfl
theorem Yt(p:Addr)(b:Bool)(u:TypeId)(a:Value)(w:ϙ)(c:w.cell? p=some (.bool b))(f:w.frozen? p=false):
 CallsD Tryz.prog 74 #[.pointer (some p)] (.panicking [{v:=.iface u a,recovered:=false}]) w λe g h=>e= .returned (.tuple #[])/\g= .panicking [{v:=.iface u a,recovered:=true}]/\h=w.setCell p (.bool false):=by
 refine callsD_of_wpS func74 rfl λj i d=>?_;apply wpS_seq;apply wpS_region;simp[wpOpsS,go_sem,recoverD,d,ntmps74,Exit.thenS];refine wpS_cond (t:=true) (by simp[Act.eval,Array.replicate]) ?_;simp only[if_true];apply wpS_region;simp[wpOpsS,go_sem,c,f,bodyPostS,results,results74]
def TRd(EB:Nat)(lim:Int)(s:List UInt8)(w:World)(o:Ending)(w':World):Prop:=
 Al EB w w'/\((∃e x st su,Fb lim e/\s=Cc e/\o= .returned (.bool true)/\SB w' EB (egC e x)/\x.xs=st.map (·.1)/\OE1 x st su e w' w.heap.size)\/((∀e,Fb lim e->s≠Cc e)/\o= .returned (.bool false)))
theorem Yu(D d:Nat)(lim:Int)(s:List UInt8)(w:ϙ)(he:∃T a,Δ w 1 0 (.iface T a))(hm:s.length<=2000000)(Z:Δ w D 5 (vI lim))(m:SB w d zE)(hT:Ai w d 42):
 η 33 #[.string ⟨s.toArray⟩,.func (.func 34) #[] #[μ D,μ d]] w (TRd d lim s w):=by
 have ag:∀(Y:Fn) (first U:Array Value) (w:ϙ),(Instr.makeFunc Y first U).run Tryz.prog w= .ok (.func Y first U) w:=λ_ _ _ _=>rfl;have J:ϛ (∀R c,Ϝ w c->RR c R s->w.heap.size<=R->CT 34 #[μ R,μ D,μ d] c (RdE R d lim s c)):=λR c n h1 hR=>by
  obtain⟨T,a,ha⟩:=he;have:=m.lt;have h2:=bLt _ _ ha;exact Ac9 R D d lim s c ⟨h1,⟨T,a,cLz n ha⟩,λe=>by dsimp only at h2;omega⟩ hm (cLz n Z) (m.below n) (Ad hT n) ϝ
 have af:=m.lt;obtain⟨z,S⟩:=nM (⟨s.toArray⟩:ByteArray);have HS:=hqz S;rw[S];clear S Z m hT he hm
 go_enter_defers func33,ntmps33
 go_wp2_with fail;generalize K:(World.alloc (World.alloc w _) _)=V;have l:Ϝ w V:=by rw[<-K];exact Ϩ.alloc ϟ _
 have y:ϛ (SB V w.heap.size [ϋ]/\Ai V w 4/\RR V (w.heap.size+1) s):=by
  subst K;have e1:=World.size_alloc w (.cells #[ϋ] 4);have s1:=SB.new w [ϋ] 4;have t1:=World.alloc_heap_new w (.cells #[ϋ] 4);have t2:=World.alloc_heap_new (ξ w #[ϋ] 4) (.cells #[.string z] 124);rw[e1]at t2;exact⟨s1.below Ϩ,Ad ⟨_,_,t1⟩ Ϩ,⟨by rw[HS.o];go_simp,ϡ,⟨_,_,t2⟩⟩⟩
 have aa:w.heap.size<V.heap.size:=y.o.1.lt;clear K;refine(J.o (w.heap.size+1) V l y.o.2.2 (Nat.le_succ _)).mono ?_;rintro o c (⟨e,x,B,F,t,hx,rfl,rfl,ac,ad,ab,hr,M,k⟩|⟨n,⟨⟨u,pv⟩,rfl⟩,k⟩)
 ·have r:c.heap[w.heap.size]? =V.heap[w.heap.size]? :=k _ aa ϝ ϝ;have p:ϛ (SB c w.heap.size [ϋ]/\Ai c w 4):=⟨y.o.1.same r M.size,A0 y.o.2.1 r⟩;have E:=p.o.1.cell 0 _ rfl;have X:=p.o.1.frz 0;have r0:Δ c (w+1) 0 (.string ⟨t.toArray⟩):=hr.cell;have v:ϛ (∀b,(SB (φ c w 0 (.bool b)) d (egC e x)/\OE1 x B F e (φ c w 0 (.bool b)) w.heap.size)/\Al d w (φ c w 0 (.bool b))/\Δ (φ c w 0 (.bool b)) w 0 (.bool b)):=λb=>
   ⟨⟨ac.same (heap_setCell_other _ _ _ _ ϣ) ϟ,(I9 x B F e).put (T:=4) Ϟ ((I9 x B F e).mono ab l.size) rfl p.o.2⟩,⟨((l.mono (Nat.zero_le _)).trans M).setCell (Nat.zero_le _) _,λg A m=>(heap_setCell_other _ _ _ _ ϣ).trans ((k g (Nat.lt_of_lt_of_le A l.size) ϝ m).trans (l.block g A))⟩,World.cell?_setCell_same' _ _ _ (by rw[E];rfl)⟩
  have I:ϛ (Fb lim e/\x.xs=B.map (·.1)):=⟨hx,ad⟩;clear ac hr M k r J ab hx ad;by_cases Q:t=[]
  ·subst Q;go_wp2;generalize L:(World.setCell c _ _)=W';have i:=hy (v.o true);rw[L]at i;have C:=i.o.2.2;refine leaves_cons (f:=74) (args:=#[.pointer (some ⟨w,0,none⟩)]) ϟ (by simp[go_sem]) ?_;refine(QI ⟨w,0,none⟩ _).mono ?_;rintro o u' ae ⟨rfl,rfl,rfl⟩;simp[Leaves,settle,results,results33,go_sem,C];exact⟨i.o.2.1,.inl ⟨e,x,B,F,I.o.1,rfl,rfl,i.o.1.1,I.o.2,i.o.1.2⟩⟩
  ·have G:ϛ (∀j,Fb lim j->Cc e++t≠Cc j):=λj O h=>Q (Qy lim e j t [] I.o.1 O (by rw[append_nil];exact h)).2;obtain⟨q,P⟩:∃q,(⟨t.toArray⟩:ByteArray)=q:=⟨_,rfl⟩;have ah:q.toList.isEmpty=false:=Ys q (by rw[<-P,size_mk];exact length_pos_iff.2 Q);rw[P]at r0;clear P;go_wp2;generalize L:(World.setCell c _ _)=W';have i:=hy (v.o false);rw[L]at i;have C:=i.o.2.2;refine leaves_cons (f:=74) (args:=#[.pointer (some ⟨w,0,none⟩)]) ϟ (by simp[go_sem]) ?_;refine(QI ⟨w,0,none⟩ _).mono ?_;rintro o u' ae ⟨rfl,rfl,rfl⟩;simp[Leaves,settle,results,results33,go_sem,C];exact⟨i.o.2.1,.inr ⟨G.o,rfl⟩⟩
 ·have G:ϛ (∀j,Fb lim j->s≠Cc j):=λj O h=>n j [] O (by rw[append_nil];exact h);have r:c.heap[w.heap.size]? =V.heap[w.heap.size]? :=k.2 _ aa ϝ;have p:ϛ (SB c w.heap.size [ϋ]):=y.o.1.same r k.1.size;have E:=p.o.cell 0 _ rfl;have X:=p.o.frz 0;have v:ϛ (Al d w (φ c w 0 (.bool false))/\Δ (φ c w 0 (.bool false)) w 0 (.bool false)):=
   ⟨⟨((l.mono (Nat.zero_le _)).trans k.1).setCell (Nat.zero_le _) _,λg A m=>(heap_setCell_other _ _ _ _ ϣ).trans ((k.2 g (Nat.lt_of_lt_of_le A l.size) ϝ).trans (l.block g A))⟩,World.cell?_setCell_same' _ _ _ (by rw[E];rfl)⟩
  clear n k r J;have C:=v.o.2;refine leaves_cons (f:=74) (args:=#[.pointer (some ⟨w,0,none⟩)]) ϟ (by simp[go_sem]) ?_;refine(Yt ⟨w,0,none⟩ false u pv _ E X).mono ?_;rintro o u' ae ⟨rfl,rfl,rfl⟩;simp[Leaves,settle,results,results33,go_sem,C];exact⟨v.o.1,.inr ⟨G.o,rfl⟩⟩
structure eggAt(w:World)(e:Egg)(x:GGX):Prop where
 j:joinAt w e.j x.y
 g:gr.gsAt w x.ga x.xs e.gs
 v:ch.viewAt w x.va e.v
theorem eggAt.below{c:ϙ}{e:Egg}{x:GGX}(h:eggAt w e x)(a:Ϝ w c):eggAt c e x:=⟨h.j.below a,h.g.below a,ch.Bg h.v a⟩
theorem Pe{β:Type} [Inhabited β]{f:β->List Value}{n:Nat}(a:∀y,(f y).length=n):∀(l:List β) (i:Nat),i<l.length->∀j,j<n->(l.flatMap f)[i * n+j]? =(f (l.getD i default))[j]?
 |[],i,h,_,_=>absurd h (Nat.not_lt_zero i)
 |y::l,0,_,j,hj=>by
  rw[flatMap_cons,Nat.zero_mul,Nat.zero_add,getElem?_append_left (by rw[a];exact hj)];rfl
 |y::l,i+1,h,j,hj=>by
  have c:=Pe a l i (by simpa using h) j hj;rw[flatMap_cons,getElem?_append_right (by rw[a,Nat.add_mul];omega),a,show(i+1) * n+j - n=i * n+j by rw[Nat.add_mul];omega,c];rfl
theorem OL.cell{α β:Type} [Inhabited α] [Inhabited β]{T:TypeId}{a:Nat}{cells:β->List Value}{P:β->α->World->Nat->Prop}{c:List β}{l:List α}{ad:Ϛ}{n cap:Nat}{w:ϙ}{b:Nat}(h:OL T a cells P c l (vS ad n cap) w b)(e:∀y,(cells y).length=a){i:Nat}(f:i<l.length):
 ∃g,ad=some ⟨g,0,none⟩/\∀j u,j<a->(cells (c.getD i default))[j]? =some u->Δ w g (0+i * a+j) u:=by
 rcases h.own.2 with⟨_,t⟩|⟨g,q,r,p,_⟩
 ·omega
 ·injection p with d _ _
  refine⟨g,d,λj u m o=>?_⟩;have k:=World.ownsRow.cells h.own (g:=g) (by rw[d];rfl) (i * a+j) u (by rw[Pe e c i (by rw[h.len];exact f) j m];exact o);rw[C3]at k;rw[Nat.add_assoc];exact k
theorem OG1.at{x:gr.GX}{g:gr.Grp}(h:OG1 x g w b):gr.gAt w x g:=by
 refine⟨Fg h.1,λi a=>?_,h.2.len,λi a=>(h.2.each i a).1,λi a=>(bt.AbW (h.2.each i a).2).1⟩;obtain⟨c,e,d⟩:=h.2.cell (λ_=>rfl) (i:=i) (by rw[<-h.2.len];exact a);exact⟨c,0,e,by have:=d 0 _ Ϟ rfl;rwa[Nat.mul_one,Nat.add_zero]at this⟩
theorem OE1.at{x:GGX}{c:List (gr.GX×gr.Grp)}{r:List ((Option Addr×Nat)×ch.Cnt)}{e:Egg}(h:OE1 x c r e w b)(q:x.xs=c.map (·.1)):eggAt w e x:=by
 obtain⟨m,f,p⟩:=h;refine⟨⟨m.1.bo.at,m.2.bo.at⟩,?_,(Ae5 p).at⟩;rw[q];have n:∀i,i<e.gs.length->c.getD i default=((c.map (·.1)).getD i default,e.gs.getD i default)/\OG1 ((c.map (·.1)).getD i default) (e.gs.getD i default) w b:=λi a=>by
  have j:i<c.length:=by rw[f.len];exact a
  have k:=f.each i a;rw[gDe,gEe j]at k⊢;rw[gDe (l:=c.map (·.1)),getElem?_map,gEe j];dsimp only[Option.getD_some,Option.map_some]at k⊢;exact⟨by rw[<-k.1],k.2⟩
 refine⟨by rw[lMp];exact f.len,λi a=>?_,λi a=>(n i a).2.at⟩;obtain⟨g,o,d⟩:=f.cell (λ_=>rfl) a;rw[(n i a).1]at d;exact⟨g,0,o,d 0 _ Ϟ rfl,d 1 _ Ϟ rfl,d 2 _ Ϟ rfl⟩
structure wfEg(e:Egg):Prop where
 j:wfJ e.j
 g:∀g∈e.gs,gr.wfG g
 gl:e.gs.length<=χ
 v:ch.BJ e.v
 n:e.v.length<=χ
noncomputable def GH(p:pl.Pln)(gs:List gr.Grp):Int:=if p.grouped=true then gr.FC p gs else if 0<gs.length then 1 else 0
noncomputable def Bp(p:pl.Pln)(e:Egg):Int:=if AQ p e.j≠0 then AQ p e.j else if GH p e.gs≠0 then GH p e.gs else if ch.Ar e.v≠0 then ch.Ar e.v else bt.Ej (pl.Dv p) e.v
theorem AaM{p:pl.Pln}(h:pl.Ag p=0):(pl.Dv p).length<=χ:=by
 by_cases a:p.grouped=true
 ·have:=bt.Li h a;unfold pl.Dv;rw[if_pos a,lAp,lMp,lMp];omega
 ·exact RL h (by simpa using a)
end cd
namespace cd
open vl bf bt jn
theorem AcB:Tryz.prog.cellsOf 42=11:=Ϡ
theorem AcC:Tryz.prog.cellsOf 39=1:=Ϡ
theorem AcD:Tryz.prog.cellsOf 40=1:=Ϡ
theorem AcE{m:Array Value}(h:m.size=11):∃a b c d e f g h i j k,m=#[a,b,c,d,e,f,g,h,i,j,k]:=by
 obtain⟨l⟩:=m
 match l,h with
 |[a,b,c,d,e,f,g,h,i,j,k],_=>exact⟨a,b,c,d,e,f,g,h,i,j,k,rfl⟩
section
variable {H : Type} {enc : TypeId × Value -> H} {w : ϙ} {base : Nat} {spare : Nat -> Bool} {held : Bool}
theorem SD{d e f g c4 h i j k:Value}{y:DataW H×List MemPlace}{fuel:Nat}(E:DataW.trod enc Tryz.prog w base spare held fuel 38 [d,e,f,g,c4,h,i,j,k]=some y)(O:Rows.uptoBulk y.1<=1048576):
 ∃(s:Jn) (x:JX),#[d,e,f,g,c4,h,i,j,k]=#[.int .i64 s.L.lim,.slice x.l.m.1.1 x.l.m.1.2.1 x.l.m.1.2.2,.slice x.l.ra x.l.rs.length x.l.rc,.int .i64 s.R.lim,.slice x.r.m.1.1 x.r.m.1.2.1 x.r.m.1.2.2,.slice x.r.ra x.r.rs.length x.r.rc,.int .i64 s.lm,.int .i64 s.rm,.int .i64 s.seq]/\joinAt w s x/\wfJ s:=by
 obtain⟨M,n,_,hy,_,F,a⟩:=DataW.trod_struct underlying38 E
 match M,F with
 |[y0,y1,y2,y3,y4],_=>
  have p:=a 0 _ rfl;have q:=a 1 _ rfl;have r:=a 2 _ rfl;have t:=a 3 _ rfl;have u:=a 4 _ rfl;simp[Acu]at p q;simp[Cn]at r t u;have P:Rows.uptoBulk y.1=Rows.uptoBulk y0.1+(Rows.uptoBulk y1.1+(Rows.uptoBulk y2.1+(Rows.uptoBulk y3.1+Rows.uptoBulk y4.1)))+1:=by
   rw[hy];simp only[map_cons,map_nil,Rows.uptoBulk,Rows.uptoBulkAll];omega
  obtain⟨bl,K,rfl,rfl,rfl,C,Q,v⟩:=ND p;obtain⟨B,L,rfl,rfl,rfl,D,S,A⟩:=ND q;obtain⟨G,l,_,T⟩:=DataW.trod_int underlying3 r;obtain⟨I,m,_,U⟩:=DataW.trod_int underlying3 t;obtain⟨J,o,_,w4⟩:=DataW.trod_int underlying3 u;simp only[List.cons.injEq,and_true]at l m o;subst l m o;exact⟨⟨bl,B,G,I,J⟩,⟨K,L⟩,rfl,⟨C,D⟩,⟨λz c=>⟨(v z c).1,(v z c).2.1⟩,ϣ⟩,⟨λz c=>⟨(A z c).1,(A z c).2.1⟩,ϣ⟩,bounds_i64 w4⟩
theorem SF{r:Reach}{C:Nat}{v:Value}{d:DataW H}{p:List MemPlace}(Q:Value.okWide Tryz.prog w r C 42 v)(h:DataW.Trod enc Tryz.prog w base spare held 42 v d p)(aa:Rows.uptoBulk d<=1048576):
 ∃(e:Egg) (x:GGX),v=egV e x/\eggAt w e x/\wfEg e/\∀g∈e.gs,∀l∈g.bags,l.length<=1048576:=by
 obtain⟨cs,rfl,P⟩:=okWide_struct underlying42 Q;obtain⟨c0,c1,c2,c3,c4,c5,c6,c7,c8,E,D,rfl⟩:=AcE (P.trans AcB);obtain⟨fuel,J⟩:=h;obtain⟨Z,q,t,n,hy,_,y,i,j⟩:=trod_struct3 underlying42 J;simp[Value.cells,Acv]at y;simp[Value.cells,AcC]at i;simp[Value.cells,AcD]at j;simp only[Prod.mk.injEq]at hy;have ab:Rows.uptoBulk d=Rows.uptoBulk Z.1+(Rows.uptoBulk q.1+Rows.uptoBulk t.1)+1:=by
  rw[hy.1];simp only[Rows.uptoBulk,Rows.uptoBulkAll];omega
 obtain⟨s,x,z,M,V⟩:=SD y ϝ;have F:∃c u f,E= .slice c u f:=by
  rcases open_slice underlying39 i with⟨a,_⟩|⟨_,_,_,_,_,_,_,a,_⟩<;>(simp at a;exact⟨_,_,_,a⟩)
 have G:∃m B o,D= .slice m B o:=by
  rcases open_slice underlying40 j with⟨a,_⟩|⟨_,_,_,_,_,_,_,a,_⟩<;>(simp at a;exact⟨_,_,_,a⟩)
 obtain⟨c,u,f,rfl⟩:=F;obtain⟨m,B,o,rfl⟩:=G;obtain⟨Y,I,rfl,K,A,L⟩:=gr.Se (d:=q.1) (p:=q.2) ⟨n,i⟩;obtain⟨X,rfl,S,U,T⟩:=ch.R8 (d:=t.1) (p:=t.2) ⟨n,j⟩;refine⟨⟨s,I,X⟩,⟨x,c,f,Y,m,o⟩,?_,⟨M,K,S⟩,⟨V,λg k=>(A g k).1,L,U,T⟩,λg k l O=>by have:=(A g k).2 l O;omega⟩;unfold egV egC;simp only[Array.mk.injEq,List.cons.injEq,and_true]at z;obtain⟨rfl,rfl,rfl,rfl,rfl,rfl,rfl,rfl,rfl⟩:=z;rfl
end
end cd
end Go.Proofs.YtfkihidbnfkbaaaGreatDoor
