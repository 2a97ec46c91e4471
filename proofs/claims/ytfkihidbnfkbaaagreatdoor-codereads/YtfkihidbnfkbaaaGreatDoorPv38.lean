import Derived.Test.YtfkihidbnfkbaaaGreatDoorPv37
import Derived.Test.YtfkihidbnfkbaaaGreatDoorPv36
set_option linter.all false
set_option maxHeartbeats 32000000
set_option maxRecDepth 100000
open List renaming length->ϲ
namespace Go.Proofs.YtfkihidbnfkbaaaGreatDoor
open ChangeShapes WideShapes ChangeAt RowKit List Proofs.Tryz
namespace cd
open vl bf bt
variable {s : List UInt8}
def AX(g:gr.Grp):List UInt8:=Ck g.row++AM g.n++lst B6 g.bags
def El(g:gr.Grp):Prop:=rowOk g.row/\okN g.n/\okL Gx g.bags
def ptG(g:gr.Grp):List Cel×Int×List (List Tal):=(g.row,g.n,g.bags)
def AgE:List Cel×Int×List (List Tal)->List UInt8:=cat Ck (cat AM (lst B6))
def Ahg:List Cel×Int×List (List Tal)->Prop:=okP rowOk (okP okN (okL Gx))
def P8(g:gr.Grp):AX g=AgE (ptG g):=by
 unfold AX AgE ptG;simp only[cat,Bx]
def Vd(g:gr.Grp)(h:El g):Ahg (ptG g):=h
def Afx(x y:gr.Grp)(h:ptG x=ptG y):x=y:=by
 obtain⟨a,b,c⟩:=x;obtain⟨d,b',e⟩:=y;simp only[ptG,bG]at h;obtain⟨rfl,rfl,rfl⟩:=h;rfl
def LY:Pre AX El:=Pre.via (D4.cat (Bn.cat Sr.lst)) ptG (λx y _ _=>Afx x y) P8 Vd
def Bad.grp(h:Bad AgE Ahg s):Bad AX El s:=h.via ptG P8 Vd
def X4(g:gr.Grp):8<=ϲ (AX g):=by
 unfold AX;simp only[lAp,As];omega
def OG1(x:gr.GX)(g:gr.Grp)(w:World)(b:Nat):Prop:=AF w b (vS x.r (ϲ g.row) x.rc) g.row/\OL 117 1 hdC PBg x.hs g.bags (vS x.b (ϲ g.bags) x.bc) w b
def Afy:List TypeId:=[119]++(117::([]++[121]))
def LZ(x:gr.GX)(g:gr.Grp):Dt Afy (OG1 x g):=(Cp 119 3 (vS x.r (ϲ g.row) x.rc) _ _).and (Bu Ew _ _ _)
def VG(base:Nat)(g:gr.Grp)(v:Value)(w:World):Prop:=∃x:gr.GX,v=gr.Jf x g/\OG1 x g w base
def Ad3:(prog.info? 102).map (·.size)=some 3:=Ϧ
theorem X5(R:Nat)(s:List UInt8)(w:ϟ)(h:RQ w R s)(hm:ϲ s<=2000000):
 χ 78 #[ω R] w (Rd AX El (VG w.heap.size) R s w):=by
 have aa:∀(fn:Fn) (first c:Array Value) (w:ϟ),(Instr.makeFunc fn first c).run prog w= .ok (.func fn first c) w:=λ_ _ _ _=>rfl;have KR:=hIz (λ(g:ϟ) (e:Ah R w g) (k:RR g R s)=>LN R s g (h.go e k) ϣ);have Z:=hIz (λt (g:ϟ) (e:Ah R w g) (k:RR g R t) (ht:ϲ t<=2000000)=>Dq R t g (h.go e k) ϣ);have Y:=hIz (λt (g:ϟ) C (e:Ah R w g) (k:RR g R t) (hp:RP g C R) (ht:ϲ t<=2000000)=>Aah R C t g (h.go e k) hp ht);have x:=h.rr.lt;have u:=hV0 hm;have HR:ϡ (RR w R s):=h.rr;clear h hm;go_enter func78,ntmps78;go_wp2_with fail;have a:=hy ((((ES.base HR.o).new ϥ [ω R] 71).new ϥ [ώ,Ϗ,ώ] 102).new ϥ [ώ,Ϗ,ώ] 102);generalize World.alloc (World.alloc (World.alloc w _) _) _=V at a⊢;refine(KR.o V a.o.keep a.o.rr).mono ?_;rintro o g ⟨e,⟨r,t,v,q,rfl,rfl,⟨d,c,rfl,E⟩,k⟩|⟨D,v,rfl⟩⟩
 rotate_left
 ·exact⟨rfl,a.o.keep.trans e,.inr ⟨D.fst.grp,_,rfl⟩⟩
 have J:=hV0 q;replace u:ϡ (ϲ t<=2000000):=by have:=u.o;rw[lAp]at this;show _<=_;omega
 have l:ϡ (AF g w (vS d (ϲ r) c) r):=World.ownsRow.mono E a.o.keep.1.size;obtain⟨f,K⟩:=nM (ϲ r);have I:=hV0 K;unfold AF at l;rw[K]at l⊢;clear q E K KR;replace a:=hy (a.o.call x e k);have A:=(a.o.blk 2 _ rfl).1.cell 0 _ rfl;have B:=(a.o.blk 2 _ rfl).1.frz 0;clear k e;go_upto_region 3 with fail;generalize m:World.setCell g _ _=S1;replace l:=hy ((Cp 119 3 (vS d f c) _ _).put (T:=102) Ϥ l.o m (a.o.blk 2 _ rfl).2);replace a:=hy (a.o.put m x 2 rfl rfl ϥ);clear A B m;have z:=(a.o.blk 0 _ rfl).1.cell 0 _ rfl;rw[aE]at z;go_wp2_with fail;clear z;refine(Z.o t S1 a.o.keep a.o.rr u.o).mono ?_;rintro o w2 ⟨e,⟨n,t2,v,q,rfl,rfl,rfl,k⟩|⟨D,v,rfl⟩⟩
 rotate_left
 ·exact⟨rfl,a.o.keep.trans e,.inr ⟨((D.fst).snd D4 J.o).grp,_,rfl⟩⟩
 have O:ϡ (okN n):=q;replace u:ϡ (ϲ t2<=2000000):=by have:=u.o;rw[lAp]at this;show _<=_;omega
 replace l:=hy ((Cp 119 3 (vS d f c) _ _).keptR Ϥ l.o e a.o.rr.tb);clear q Z;replace a:=hy (a.o.call x e k);have A:=(a.o.blk 2 _ rfl).1.cell 1 _ rfl;have B:=(a.o.blk 2 _ rfl).1.frz 1;clear k e;go_upto_region 4 with fail;generalize m:World.setCell w2 _ _=S2;replace l:=hy ((Cp 119 3 (vS d f c) _ _).put (T:=102) Ϥ l.o m (a.o.blk 2 _ rfl).2);replace a:=hy (a.o.put m x 2 rfl rfl ϥ);clear A B m;have z:=(a.o.blk 0 _ rfl).1.cell 0 _ rfl;rw[aE]at z;go_wp2_with fail;clear z;have U:ϡ (RP S2 w.heap.size R):=⟨(a.o.blk 0 _ rfl).1.cell 0 _ rfl,ϣ,(a.o.blk 0 _ rfl).1.lt⟩;refine(Y.o t2 S2 w.heap.size a.o.keep a.o.rr U.o u.o).mono ?_;rintro o w3 ⟨e,⟨bs,t3,v,q,rfl,rfl,⟨i,j,L,rfl,E⟩,k⟩|⟨D,v,rfl⟩⟩
 rotate_left
 ·exact⟨rfl,a.o.keep.trans e,.inr ⟨((D.snd Bn O.o).snd D4 J.o).grp,_,rfl⟩⟩
 have HY:=hV0 q;replace l:=hy ((Cp 119 3 (vS d f c) _ _).keptR Ϥ l.o e a.o.rr.tb);obtain⟨bl,G⟩:=nM (ϲ bs);have M:=hV0 G;have H:ϡ (OL 117 1 hdC PBg L bs (vS i bl j) w3 w.heap.size):=(Bu Ew _ _ _).mono (by rw[<-G];exact E) a.o.keep.1.size;rw[G];clear q E G Y U;replace a:=hy (a.o.call x e k);have A:=(a.o.blk 2 _ rfl).1.cell 2 _ rfl;have B:=(a.o.blk 2 _ rfl).1.frz 2;clear k e;go_upto_region 5 with fail;generalize m:World.setCell w3 _ _=p;replace l:=hy ((Cp 119 3 (vS d f c) _ _).put (T:=102) Ϥ l.o m (a.o.blk 2 _ rfl).2);replace H:=hy ((Bu Ew _ _ _).put (T:=102) Ϥ H.o m (a.o.blk 2 _ rfl).2);replace a:=hy (a.o.put m x 2 rfl rfl ϥ);clear A B m;have d0:=(a.o.blk 2 _ rfl).1.cell 0 _ rfl;have d1:=(a.o.blk 2 _ rfl).1.cell 1 _ rfl;have d2:=(a.o.blk 2 _ rfl).1.cell 2 _ rfl;have X:ϡ (p.there (w.heap.size+1) 0 3):=(a.o.blk 1 _ rfl).1.there;have y:ϡ (RR (World.setCells p (w.heap.size+1) 0 [vS d f c,vI n,vS i bl j]) R t3/\Ah R w (World.setCells p (w.heap.size+1) 0 [vS d f c,vI n,vS i bl j])/\AF (World.setCells p (w.heap.size+1) 0 [vS d f c,vI n,vS i bl j]) w.heap.size (vS d f c) r/\OL 117 1 hdC PBg L bs (vS i bl j) (World.setCells p (w.heap.size+1) 0 [vS d f c,vI n,vS i bl j]) w.heap.size):=
  ⟨a.o.rr.sets ϣ _ _,Dd a.o.keep (PS _) _ _,by have:=(Cp 119 3 (vS d f c) _ _).sets (T:=102) Ϥ [vS d f c,vI n,vS i bl j] 0 p l.o (a.o.blk 1 _ rfl).2;unfold AF;rw[I.o];exact this,(Bu Ew _ _ _).sets (T:=102) Ϥ [vS d f c,vI n,vS i bl j] 0 p H.o (a.o.blk 1 _ rfl).2⟩
 have F:ϡ ((World.setCells p (w.heap.size+1) 0 [vS d f c,vI n,vS i bl j]).rangeAt (w.heap.size+1) 0 [vS d f c,vI n,vS i bl j]):=Wf _ _ _ _ X.o;go_wp2_with ((with_reducible refine Ft ?_ 102 (.tmp 2) (.tmp 14) ?_ (w.heap.size+1) 0 #[vS d f c,vI n,vS i bl j] ?_ ?_ ?_ ?_ ?_ ?_);exact rfl;exact rfl;exact rfl;exact rfl;exact X.o;exact Ad3;exact Ϭ);generalize (World.setCells p (w.heap.size+1) 0 [vS d f c,vI n,vS i bl j])=W' at F y⊢;have z0:=F.o 0 _ rfl;have z1:=F.o 1 _ rfl;have z2:=F.o 2 _ rfl;simp only[Fr]at z0 z1 z2;exact CD (v:=.agg #[vS d f c,vI n,vS i bl j]) (by simp[results,results78,go_sem,z0,z1,z2]) rfl ⟨y.o.2.1,.inl ⟨⟨r,n,bs⟩,t3,_,⟨J.o,O.o,HY.o⟩,by unfold AX;simp only[Bx],rfl,⟨⟨d,c,i,j,L⟩,by unfold gr.Jf;dsimp only;rw[I.o,M.o],by dsimp only;rw[I.o];exact y.o.2.2.1,by dsimp only;rw[M.o];exact y.o.2.2.2⟩,y.o.1⟩⟩
def P9(p:gr.GX×gr.Grp):List Value:=[vS p.1.r (ϲ p.2.row) p.1.rc,vI p.2.n,vS p.1.b (ϲ p.2.bags) p.1.bc]
def PGr(p:gr.GX×gr.Grp)(g:gr.Grp)(w:World)(b:Nat):Prop:=p.2=g/\OG1 p.1 g w b
def Gd(p:gr.GX×gr.Grp)(g:gr.Grp):Dt ([]++Afy) (PGr p g):=(DG _).and (LZ _ _)
def VGs(base:Nat)(l:List gr.Grp)(v:Value)(w:World):Prop:=∃ad cap st,v=vS ad (ϲ l) cap/\OL 102 3 P9 PGr st l v w base
def Ad4:(prog.info? 102).map (λi=>(i.zero,i.size,i.bytes))=some (some (.agg #[ώ,Ϗ,ώ]),3,56):=Ϧ
theorem AaP(R C:Nat)(s:List UInt8)(w:ϟ)(h:RQ w R s)(l:RP w C R)(A:ϲ s<=2000000):
 χ 77 #[ω C] w (Rd AX El (VG w.heap.size) R s w):=by
 have u:=hIz (λ(a:ϟ) (g:Ϣ w a)=>X5 R s a (h.below g) ϣ);have D:=l.cell;have E:=l.lt;have z:=h.rr.lt;have d:ϡ (RR w R s):=h.rr;clear h A;go_enter func77,ntmps77;go_wp2_with fail;have c:=hy ((ES.base d.o).new ϥ [ώ,Ϗ,ώ] 102);have f:Ϣ w (World.alloc w (.cells ([ώ,Ϗ,ώ]:List Value).toArray 102)):=Ϯ;generalize (World.alloc w _)=V at c f⊢;refine(u.o V f).mono ?_;rintro o a ⟨i,⟨x,t,v,m,rfl,rfl,⟨y,rfl,B⟩,j⟩|⟨g,v,rfl⟩⟩
 rotate_left
 ·exact⟨rfl,c.o.keep.trans i,.inr ⟨g,_,rfl⟩⟩
 have r:ϡ (El x):=m;replace c:=hy (c.o.call z i j);have k:ϡ (a.there w.heap.size 0 3):=(c.o.blk 0 _ rfl).1.there;have e:ϡ (RR (World.setCells a w.heap.size 0 [vS y.r (ϲ x.row) y.rc,vI x.n,vS y.b (ϲ x.bags) y.bc]) R t/\Ah R w (World.setCells a w.heap.size 0 [vS y.r (ϲ x.row) y.rc,vI x.n,vS y.b (ϲ x.bags) y.bc])/\OG1 y x (World.setCells a w.heap.size 0 [vS y.r (ϲ x.row) y.rc,vI x.n,vS y.b (ϲ x.bags) y.bc]) w.heap.size):=
  ⟨j.sets ϣ _ _,Dd c.o.keep nR _ _,(LZ y x).sets (T:=102) Ϥ _ 0 a ((LZ y x).mono B f.size) (c.o.blk 0 _ rfl).2⟩
 unfold gr.Jf;clear j i m f;have d:ϡ ((World.setCells a w.heap.size 0 [vS y.r (ϲ x.row) y.rc,vI x.n,vS y.b (ϲ x.bags) y.bc]).rangeAt w.heap.size 0 [vS y.r (ϲ x.row) y.rc,vI x.n,vS y.b (ϲ x.bags) y.bc]):=Wf _ _ _ _ k.o;go_wp2_with ((with_reducible refine Ft ?_ 102 (.tmp 1) (.tmp 3) ?_ w.heap.size 0 #[vS y.r (ϲ x.row) y.rc,vI x.n,vS y.b (ϲ x.bags) y.bc] ?_ ?_ ?_ ?_ ?_ ?_);exact rfl;exact rfl;exact rfl;exact rfl;exact k.o;exact Ad3;exact Ϭ);generalize (World.setCells a w.heap.size 0 [vS y.r (ϲ x.row) y.rc,vI x.n,vS y.b (ϲ x.bags) y.bc])=W' at d e⊢;have n:=d.o 0 _ rfl;have p:=d.o 1 _ rfl;have q:=d.o 2 _ rfl;simp only[Fr]at n p q;exact CD (v:=.agg #[vS y.r (ϲ x.row) y.rc,vI x.n,vS y.b (ϲ x.bags) y.bc]) (by simp[results,results77,go_sem,n,p,q]) rfl ⟨e.o.2.1,.inl ⟨x,t,_,r.o,rfl,rfl,⟨y,rfl,e.o.2.2⟩,e.o.1⟩⟩
theorem AaQ(R C:Nat)(s:List UInt8)(w:ϟ)(h:RQ w R s)(hp:RP w C R)(Z:ϲ s<=2000000):
 χ 76 #[ω R,.func (.func 77) #[] #[ω C]] w (Rd (lst AX) (okL El) (VGs w.heap.size) R s w):=by
 have X:=hy (Dq R s w h ϣ);have V:=hIz (λso (c:ϟ) t (j:Ah R w c) (K:RR c R t)=>Ey R so c (h.go j K).err);have KO:=hIz (λt (c:ϟ) (j:Ah R w c) (K:RR c R t) (ht:ϲ t<=2000000)=>AaP R C t c (h.go j K) (hp.keep j) ϣ);have M:=hV0 Z;clear h hp Z;go_enter func76,ntmps76;go_wp2_with fail;refine X.o.mono ?_;rintro e c ⟨p,⟨n,t,v,hn,rfl,rfl,rfl,L⟩|⟨I,v,rfl⟩⟩
 rotate_left
 ·exact⟨rfl,p,.inr ⟨I.len,_,rfl⟩⟩
 have G:ϡ (okN n):=hn;clear hn X;by_cases h0:0<=n
 rotate_left
 ·go_wp2_with (go_at_call 139;refine(V.o _ _ _ p L).mono ?_;rintro e w2 ⟨rfl,_,H⟩;obtain⟨v,rfl⟩:=H Ϫ);exact⟨rfl,p,.inr ⟨Bad.neg G.o ϣ,_,rfl⟩⟩
 obtain⟨m,rfl⟩:∃m:Nat,n=m:=⟨n.toNat,ϣ⟩;have O:ϡ (m<=9223372036854775807):=by have:=G.o.2;show _<=_;omega
 have D:ϡ (RR c R t/\Ah R w c):=⟨L,p⟩;clear L p G;go_wp2_with (go_at_call 139;refine(V.o _ _ _ D.o.2 D.o.1).mono ?_;rintro e w2 ⟨rfl,H,_⟩;obtain rfl:=H ϥ)
 go_loopw [6,14] (λv i wr=> ∃(k:Nat) (l:List gr.Grp) (f:List (gr.GX×gr.Grp)) (u:List UInt8),ϲ l=k/\k<=m/\i=vI k/\OL 102 3 P9 PGr f l v wr w.heap.size/\(∀x∈l,El x)/\t=l.flatMap AX++u/\RR wr R u/\Ah R w wr) (λ_ i _=>m - (intOf i).toNat)
 case atStart=>exact⟨0,[],[],t,rfl,At _,rfl,OL.nil ..,ϥ,rfl,D.o⟩
 case round=>
  obtain⟨k,l,f,u,r,am,rfl,z,F,rfl,A,d⟩:=hrel;have an:8 * k+ϲ u<=2000000:=by
   have:=M.o;have:=Ee X4 l;rw[lAp,lAp,As]at *;omega
  by_cases af:k<m
  ·have a:ϡ (OL 102 3 P9 PGr f l u6 wr w.heap.size/\Am wr R 124/\(∀x∈l,El x)/\Ah R w wr/\(ϲ l)=k):=⟨z,A.tb,F,d,r⟩;have i1:=nn0 k;have i2:(k:Int)<(m:Int):=ϣ;have ak:ϲ u<=2000000:=ϣ;clear z F r M D;go_wp2_with fail;refine(KO.o u wr d A ak).mono ?_;rintro e o ⟨q,⟨x,u2,v,hx,rfl,rfl,⟨y,rfl,ah⟩,aa⟩|⟨I,v,rfl⟩⟩
   rotate_left
   ·exact⟨rfl,d.trans q,.inr ⟨Bad.elem LY a.o.2.2.1 O.o (by rw[a.o.2.2.2.2];exact af) I,_,rfl⟩⟩
   have B:ϡ (OL 102 3 P9 PGr f l u6 o w.heap.size):=(Bu Gd f l u6).keptR Ϥ a.o.1 q a.o.2.1;have Y:=d.1.size;have HP:ϡ (PGr (y,x) x o w.heap.size):=⟨rfl,(LZ y x).mono ah Y⟩;unfold gr.Jf;have E:ϡ (RR o R u2/\Ah R w o/\El x):=⟨aa,d.trans q,hx⟩;have ac:w.heap.size<=o.heap.size:=B0 d.1.size q.1.size;have U:=hy B.o.own;rw[a.o.2.2.2.2]at U;clear aa q A d hx Y;go_wp2_with (at_builtin;refine Dw rfl (.tmp 16) (.tmp 19) 102 39 rfl (.agg #[ώ,Ϗ,ώ]) 3 56 underlying39 Ad4 rfl Ϥ Ϥ w.heap.size u6 _ [vS y.r (ϲ x.row) y.rc,vI x.n,vS y.b (ϲ x.bags) y.bc] o k U.o rfl Ϭ ϣ ac rfl rfl ?_;intro g al w4 ai J);have hs:=OL.snoc Gd Ϥ (y:=(y,x)) (x:=x) B.o HP.o J (by rw[a.o.2.2.2.2];exact ai);have ag:u6.ownBlock≠some R:=λe=>tyAt_apart E.o.1.tb (Az B.o.own e) Ϥ rfl;have aj:=E.o.1.grown J ag;have ae:=Cy E.o.2.1 J (λg e=>(AL B.o.own e).1);go_wp2;go_roundw;exact⟨k+1,l++[x],f++[(y,x)],u2,by simp[a.o.2.2.2.2],ϣ,by go_num,hs,FK a.o.2.2.1 E.o.2.2,DC _ _ _ _,aj,ae⟩;simp[intOf];omega
  ·have j:k=m:=ϣ;subst j;have i2:¬((k:Int)<(k:Int)):=ϣ;obtain⟨ad,ab,hv⟩:=z.form;rw[r]at hv;have a:ϡ (OL 102 3 P9 PGr f l u6 wr w.heap.size/\(∀x∈l,El x)/\RR wr R u/\Ah R w wr/\(ϲ l)=k):=⟨z,F,A,d,r⟩;clear z A d F r;subst hv;go_wp2;go_ret;exact⟨a.o.2.2.2.1,.inl ⟨l,u,_,⟨by rw[a.o.2.2.2.2];exact O.o,a.o.2.1⟩,by unfold lst;rw[a.o.2.2.2.2,Bx],rfl,⟨ad,ab,f,by rw[a.o.2.2.2.2];rfl,a.o.1⟩,a.o.2.2.1⟩⟩
def JU(c:ch.Cnt):Prop:=rowOk c.r/\okN c.n
def ptC(c:ch.Cnt):List Cel×Int:=(c.r,c.n)
def SH:Pre Cf JU:=Pre.via (D4.cat Bn) ptC (λx y _ _ e=>by
 obtain⟨a,b⟩:=x;obtain⟨c,d⟩:=y;simp only[ptC,bG]at e;rw[e.1,e.2]) (λ_=>rfl) (λ_ h=>h)
def Bad.cnt(h:Bad (cat Ck AM) (okP rowOk okN) s):Bad Cf JU s:=h.via ptC (λ_=>rfl) (λ_ h=>h)
def X6(c:ch.Cnt):8<=ϲ (Cf c):=by
 unfold Cf;rw[lAp,As];omega
def OC1(y:Option Addr×Nat)(c:ch.Cnt)(w:World)(b:Nat):Prop:=AF w b (vS y.1 (ϲ c.r) y.2) c.r
def YA(y:Option Addr×Nat)(c:ch.Cnt):Dt [119] (OC1 y c):=Cp 119 3 (vS y.1 (ϲ c.r) y.2) _ _
def VC(base:Nat)(c:ch.Cnt)(v:Value)(w:World):Prop:=∃y:Option Addr×Nat,v= .agg #[vS y.1 (ϲ c.r) y.2,vI c.n]/\OC1 y c w base
def SI(p:(Option Addr×Nat)×ch.Cnt):List Value:=[vS p.1.1 (ϲ p.2.r) p.1.2,vI p.2.n]
def PCt(p:(Option Addr×Nat)×ch.Cnt)(c:ch.Cnt)(w:World)(b:Nat):Prop:=p.2=c/\OC1 p.1 c w b
def I7(p:(Option Addr×Nat)×ch.Cnt)(c:ch.Cnt):Dt ([]++[119]) (PCt p c):=(DG _).and (YA _ _)
def VCs(base:Nat)(l:List ch.Cnt)(v:Value)(w:World):Prop:=∃ad cap st,v=vS ad (ϲ l) cap/\OL 83 2 SI PCt st l v w base
theorem Ad5(R C:Nat)(s:List UInt8)(w:ϟ)(h:RQ w R s)(q:RP w C R)(G:ϲ s<=2000000):
 χ 80 #[ω C] w (Rd Cf JU (VC w.heap.size) R s w):=by
 have E:=hIz (λ(g:ϟ) (e:Ah R w g) (i:RR g R s)=>LN R s g (h.go e i) ϣ);have M:=hIz (λt (g:ϟ) (e:Ah R w g) (i:RR g R t) (ht:ϲ t<=2000000)=>Dq R t g (h.go e i) ϣ);have A:=q.cell;have hC:=q.lt;have J:=hy q;have F:=h.rr.lt;have y:=hV0 G;have L:ϡ (RR w R s):=h.rr;clear h G q;go_enter func80,ntmps80;go_wp2_with fail;have a:=hy ((ES.base L.o).new ϥ [ώ,Ϗ] 83);generalize (World.alloc w _)=V at a⊢;refine(E.o V a.o.keep a.o.rr).mono ?_;rintro o g ⟨e,⟨r,t,v,m,rfl,rfl,⟨c,d,rfl,H⟩,i⟩|⟨z,v,rfl⟩⟩
 rotate_left
 ·exact⟨rfl,a.o.keep.trans e,.inr ⟨z.fst.cnt,_,rfl⟩⟩
 have D:=hV0 m;replace y:ϡ (ϲ t<=2000000):=by have:=y.o;rw[lAp]at this;show _<=_;omega
 have l:ϡ (AF g w (vS c (ϲ r) d) r):=World.ownsRow.mono H a.o.keep.1.size;obtain⟨f,B⟩:=nM (ϲ r);have x:=hV0 B;unfold AF at l;rw[B]at l⊢;replace a:=hy (a.o.call F e i);clear m H B E A;have A:=(J.o.keep a.o.keep).cell;clear e i;go_wp2_with fail;refine(M.o t g a.o.keep a.o.rr y.o).mono ?_;rintro o p ⟨e,⟨n,I,v,m,rfl,rfl,rfl,i⟩|⟨z,v,rfl⟩⟩
 rotate_left
 ·exact⟨rfl,a.o.keep.trans e,.inr ⟨(z.snd D4 D.o).cnt,_,rfl⟩⟩
 have K:ϡ (okN n):=m;replace l:=hy ((Cp 119 3 (vS c f d) _ _).keptR Ϥ l.o e a.o.rr.tb);replace a:=hy (a.o.call F e i);clear m e i A;have O:=(a.o.blk 0 _ rfl).1.cell 0 _ rfl;have U:=(a.o.blk 0 _ rfl).1.cell 1 _ rfl;have X:=(a.o.blk 0 _ rfl).1.frz 0;have Y:=(a.o.blk 0 _ rfl).1.frz 1;have k:ϡ (RR (ό (ό p w 0 (vS c f d)) w 1 (vI n)) R I/\Ah R w (ό (ό p w 0 (vS c f d)) w 1 (vI n))/\AF (ό (ό p w 0 (vS c f d)) w 1 (vI n)) w.heap.size (vS c f d) r/\SB (ό (ό p w 0 (vS c f d)) w 1 (vI n)) w.heap.size [vS c f d,vI n]):=
  ⟨(a.o.rr.set ϣ).set ϣ,Q3 (Q3 a.o.keep nR) nR,by have:=(Cp 119 3 (vS c f d) _ _).put (T:=83) (j:=1) (u:=vI n) Ϥ ((Cp 119 3 (vS c f d) _ _).put (T:=83) (j:=0) (u:=vS c f d) Ϥ l.o rfl (a.o.blk 0 _ rfl).2) rfl (tyAt_set (a.o.blk 0 _ rfl).2 _ _);unfold AF;rw[x.o];exact this,((a.o.blk 0 _ rfl).1.set 0 _ ϥ).set 1 _ ϥ⟩
 rw[aE]at O U X Y;go_wp2;generalize (World.setCell (World.setCell p _ _) _ _)=W' at k⊢;have Z:=k.o.2.2.2.cell 0 _ rfl;have z1:=k.o.2.2.2.cell 1 _ rfl;exact CD (v:=.agg #[vS c f d,vI n]) (by simp[results,results80,go_sem,Z,z1]) rfl ⟨k.o.2.1,.inl ⟨⟨r,n⟩,I,_,⟨D.o,K.o⟩,by unfold Cf;rw[Bx],rfl,⟨(c,d),by dsimp only;rw[x.o],by unfold OC1;dsimp only;rw[x.o];exact k.o.2.2.1⟩,k.o.1⟩⟩
theorem AaR(R C:Nat)(s:List UInt8)(w:ϟ)(h:RQ w R s)(hp:RP w C R)(Z:ϲ s<=2000000):
 χ 79 #[ω R,.func (.func 80) #[] #[ω C]] w (Rd (lst Cf) (okL JU) (VCs w.heap.size) R s w):=by
 have X:=hy (Dq R s w h ϣ);have V:=hIz (λso (c:ϟ) t (j:Ah R w c) (K:RR c R t)=>Ey R so c (h.go j K).err);have KO:=hIz (λt (c:ϟ) (j:Ah R w c) (K:RR c R t) (ht:ϲ t<=2000000)=>Ad5 R C t c (h.go j K) (hp.keep j) ϣ);have M:=hV0 Z;clear h hp Z;go_enter func79,ntmps79;go_wp2_with fail;refine X.o.mono ?_;rintro e c ⟨p,⟨n,t,v,hn,rfl,rfl,rfl,L⟩|⟨I,v,rfl⟩⟩
 rotate_left
 ·exact⟨rfl,p,.inr ⟨I.len,_,rfl⟩⟩
 have G:ϡ (okN n):=hn;clear hn X;by_cases h0:0<=n
 rotate_left
 ·go_wp2_with (go_at_call 139;refine(V.o _ _ _ p L).mono ?_;rintro e w2 ⟨rfl,_,H⟩;obtain⟨v,rfl⟩:=H Ϫ);exact⟨rfl,p,.inr ⟨Bad.neg G.o ϣ,_,rfl⟩⟩
 obtain⟨m,rfl⟩:∃m:Nat,n=m:=⟨n.toNat,ϣ⟩;have O:ϡ (m<=9223372036854775807):=by have:=G.o.2;show _<=_;omega
 have D:ϡ (RR c R t/\Ah R w c):=⟨L,p⟩;clear L p G;go_wp2_with (go_at_call 139;refine(V.o _ _ _ D.o.2 D.o.1).mono ?_;rintro e w2 ⟨rfl,H,_⟩;obtain rfl:=H ϥ)
 go_loopw [6,14] (λv i wr=> ∃(k:Nat) (l:List ch.Cnt) (f:List ((Option Addr×Nat)×ch.Cnt)) (u:List UInt8),ϲ l=k/\k<=m/\i=vI k/\OL 83 2 SI PCt f l v wr w.heap.size/\(∀x∈l,JU x)/\t=l.flatMap Cf++u/\RR wr R u/\Ah R w wr) (λ_ i _=>m - (intOf i).toNat)
 case atStart=>exact⟨0,[],[],t,rfl,At _,rfl,OL.nil ..,ϥ,rfl,D.o⟩
 case round=>
  obtain⟨k,l,f,u,r,am,rfl,z,F,rfl,A,d⟩:=hrel;have an:8 * k+ϲ u<=2000000:=by
   have:=M.o;have:=Ee X6 l;rw[lAp,lAp,As]at *;omega
  by_cases af:k<m
  ·have a:ϡ (OL 83 2 SI PCt f l u6 wr w.heap.size/\Am wr R 124/\(∀x∈l,JU x)/\Ah R w wr/\(ϲ l)=k):=⟨z,A.tb,F,d,r⟩;have i1:=nn0 k;have i2:(k:Int)<(m:Int):=ϣ;have ak:ϲ u<=2000000:=ϣ;clear z F r M D;go_wp2_with fail;refine(KO.o u wr d A ak).mono ?_;rintro e o ⟨q,⟨x,u2,v,hx,rfl,rfl,⟨y,rfl,ah⟩,aa⟩|⟨I,v,rfl⟩⟩
   rotate_left
   ·exact⟨rfl,d.trans q,.inr ⟨Bad.elem SH a.o.2.2.1 O.o (by rw[a.o.2.2.2.2];exact af) I,_,rfl⟩⟩
   have B:ϡ (OL 83 2 SI PCt f l u6 o w.heap.size):=(Bu I7 f l u6).keptR Ϥ a.o.1 q a.o.2.1;have Y:=d.1.size;have HP:ϡ (PCt (y,x) x o w.heap.size):=⟨rfl,(YA y x).mono ah Y⟩;have E:ϡ (RR o R u2/\Ah R w o/\JU x):=⟨aa,d.trans q,hx⟩;have ac:w.heap.size<=o.heap.size:=B0 d.1.size q.1.size;have U:=hy B.o.own;rw[a.o.2.2.2.2]at U;clear aa q A d hx Y;go_wp2_with (at_builtin;refine Dw rfl (.tmp 16) (.tmp 19) 83 40 rfl (.agg #[ώ,Ϗ]) 2 32 underlying40 ch.Ll rfl Ϥ Ϥ w.heap.size u6 _ [vS y.1 (ϲ x.r) y.2,vI x.n] o k U.o rfl Ϭ ϣ ac rfl rfl ?_;intro g al w4 ai J);have hs:=OL.snoc I7 Ϥ (y:=(y,x)) (x:=x) B.o HP.o J (by rw[a.o.2.2.2.2];exact ai);have ag:u6.ownBlock≠some R:=λe=>tyAt_apart E.o.1.tb (Az B.o.own e) Ϥ rfl;have aj:=E.o.1.grown J ag;have ae:=Cy E.o.2.1 J (λg e=>(AL B.o.own e).1);go_wp2;go_roundw;exact⟨k+1,l++[x],f++[(y,x)],u2,by simp[a.o.2.2.2.2],ϣ,by go_num,hs,FK a.o.2.2.1 E.o.2.2,DC _ _ _ _,aj,ae⟩;simp[intOf];omega
  ·have j:k=m:=ϣ;subst j;have i2:¬((k:Int)<(k:Int)):=ϣ;obtain⟨ad,ab,hv⟩:=z.form;rw[r]at hv;have a:ϡ (OL 83 2 SI PCt f l u6 wr w.heap.size/\(∀x∈l,JU x)/\RR wr R u/\Ah R w wr/\(ϲ l)=k):=⟨z,F,A,d,r⟩;clear z A d F r;subst hv;go_wp2;go_ret;exact⟨a.o.2.2.2.1,.inl ⟨l,u,_,⟨by rw[a.o.2.2.2.2];exact O.o,a.o.2.1⟩,by unfold lst;rw[a.o.2.2.2.2,Bx],rfl,⟨ad,ab,f,by rw[a.o.2.2.2.2];rfl,a.o.1⟩,a.o.2.2.1⟩⟩
def Ahh{st:List ((Option Addr×Nat)×ch.Cnt)}{l:List ch.Cnt}{v:Value}{w:ϟ}{b:Nat}(h:OL 83 2 SI PCt st l v w b):ch.VO w b v l:=by
 refine⟨st.map λp=>(vS p.1.1 (ϲ p.2.r) p.1.2,p.2.n),by simp[h.len],?_,λi a=>?_⟩
 ·have e:ch.flat (st.map λp=>((vS p.1.1 (ϲ p.2.r) p.1.2:Value),p.2.n))=st.flatMap SI:=by
   unfold ch.flat;rw[List.flatMap_map];rfl
  rw[e,lMp,h.len];exact h.own
 ·have c:i<ϲ st:=by rw[h.len];exact a
  have k:=h.each i a;rw[gDe,gEe c]at k;rw[gDe,L7,gEe c];obtain⟨e,o⟩:=k;dsimp only[Option.getD_some,Option.map_some]at e o⊢;exact⟨by rw[e],_,_,by rw[e],o⟩
attribute [local go_sem] run_store_func
variable {W w : ϟ} {R : Nat} {s : List UInt8} {lim : Int}
structure EP(tys:List TypeId)(P:World->Nat->Prop)(w:World)(R:Nat)(s:List UInt8)(W:World)(bs:List (TypeId×List Value)):Prop where
 es:ES w R s W bs
 st:Dt tys P
 p:P W w.heap.size
def EP.of{bs:List (TypeId×List Value)}(h:ES w R s W bs):EP [] (λ_ _=>True) w R s W bs:=⟨h,DG _,trivial⟩
def EP.call{tys:List TypeId}{P:World->Nat->Prop}{W':ϟ}{t:List UInt8}{bs:List (TypeId×List Value)}(h:EP tys P w R s W bs)(ht:124 ∉ tys)(c:R<w.heap.size)(a:Ah R W W')(d:RR W' R t):EP tys P w R t W' bs:=
 ⟨h.es.call c a d,h.st,h.st.keptR ht h.p a h.es.rr.tb⟩
def EP.put{tys:List TypeId}{P:World->Nat->Prop}{S:ϟ}{N j:Nat}{bs:List (TypeId×List Value)}{v:Value}(h:EP tys P w R s W bs)(T:TypeId)(ht:T ∉ tys)(c:W.setCell ⟨N,j,none⟩ v=S)(e:R<w.heap.size)(k:Nat){vs:List Value}(a:w.heap.size+k=N)(d:bs[k]? =some (T,vs))(f:j<ϲ vs):EP tys P w R s S (bs.set k (T,vs.set j v)):=
 ⟨h.es.put c e k a d f,h.st,h.st.put ht h.p c (by rw[<-a];exact(h.es.blk k _ d).2)⟩
def EP.add{tys tys':List TypeId}{P Q:World->Nat->Prop}{b:Nat}{bs:List (TypeId×List Value)}(h:EP tys P w R s W bs)(a:Dt tys' Q)(q:Q W b)(c:w.heap.size<=b):EP (tys++tys') (λw b=>P w b/\Q w b) w R s W bs:=
 ⟨h.es,h.st.and a,h.p,a.mono q c⟩
def EP.size{tys:List TypeId}{P:World->Nat->Prop}{bs:List (TypeId×List Value)}(h:EP tys P w R s W bs):w.heap.size<=W.heap.size:=h.es.keep.1.size
def Ie(lim:Int)(b:Buf):Prop:=b.lim=lim/\okL Dg b.mem/\okL (okL Dg) b.runs
def ptB(b:Buf):List Ent×List (List Ent):=(b.mem,b.runs)
def Ad6:List Ent×List (List Ent)->List UInt8:=cat (lst AD) (lst (lst AD))
def Ahi:List Ent×List (List Ent)->Prop:=okP (okL Dg) (okL (okL Dg))
def Ju(b:Buf):BV b=Ad6 (ptB b):=rfl
def YB(b:Buf)(h:Ie lim b):Ahi (ptB b):=h.2
def Fu(lim:Int):Pre BV (Ie lim):=Pre.via (Ha.lst.cat Ha.lst.lst) ptB (λx y g hy e=>by
 obtain⟨a,b,c⟩:=x;obtain⟨h,b',i⟩:=y;simp only[ptB,bG]at e;obtain⟨rfl,rfl⟩:=e;have d:=g.1;have f:=hy.1;dsimp only at d f;rw[d,f]) Ju YB
def Bad.buf(h:Bad Ad6 Ahi s):Bad BV (Ie lim) s:=h.via ptB Ju YB
def OB1(x:BX)(b:Buf)(w:World)(base:Nat):Prop:=OE w base (hdV x.m.1) x.m.2 b.mem/\OL 33 1 Ur PRn x.rs b.runs (vS x.ra (ϲ x.rs) x.rc) w base
def X7:List TypeId:=[166,119]++(33::([]++[166,119]))
def DY(x:BX)(b:Buf):Dt X7 (OB1 x b):=(JD _ _ _).and (Bu Gy _ _ _)
def OB1.bo{x:BX}{b:Buf}{base:Nat}(h:OB1 x b w base):BO w base x b:=⟨h.1,Ahd h.2⟩
def Bh(x:BX)(b:Buf):Value:=.agg (Ω b x)
def VBf(base:Nat)(b:Buf)(v:Value)(w:World):Prop:=∃x:BX,v=Bh x b/\OB1 x b w base
end cd
namespace cd
open vl bf
variable {T : TypeId} {vs : List Value} {S : ϟ} {N : Nat}
def Dt.keptY{tys:List TypeId}{P:World->Nat->Prop}(h:Dt tys P)(ht:76 ∉ tys){w w':ϟ}{R b:Nat}(i:P w b)(c:Ah R w w')(d:Am w R 76):P w' b:=
 h w w' b b i nR c.1.size (λg T a f=>c.2 g (A7 a) (λe=>tyAt_apart a d (λe=>ht (e▸f)) e))
structure YS(tys:List TypeId)(P:World->Nat->Prop)(w:World)(R:Nat)(s:List UInt8)(b:Bool)(W:World)(bs:List (Nat×TypeId×List Value)):Prop where
 keep:Ah R w W
 ey:EY W R s b
 hR:R<w.heap.size
 blk:∀(k:Nat) (c:Nat×TypeId×List Value),bs[k]? =some c->w.heap.size<=c.1/\SB W c.1 c.2.2/\Am W c.1 c.2.1
 ap:∀(i j:Nat) (c d:Nat×TypeId×List Value),bs[i]? =some c->bs[j]? =some d->i≠j->c.1≠d.1
 st:Dt tys P
 p:P W w.heap.size
variable {tys tys' : List TypeId} {P Q : World -> Nat -> Prop} {w W W' : ϟ} {R : Nat} {s t : List UInt8} {b b' : Bool} {bs : List (Nat × TypeId × List Value)}
def YS.base(h:EY w R s b):YS [] (λ_ _=>True) w R s b w []:=⟨Ah.refl _ _,h,h.lt,λk c e=>by simp at e,λi j c d e=>by simp at e,DG _,trivial⟩
def YS.add(h:YS tys P w R s b W bs)(a:Dt tys' Q){B:Nat}(q:Q W B)(c:w.heap.size<=B):YS (tys++tys') (λw b=>P w b/\Q w b) w R s b W bs:=⟨h.keep,h.ey,h.hR,h.blk,h.ap,h.st.and a,h.p,a.mono q c⟩
def YS.call(h:YS tys P w R s b W bs)(ht:76 ∉ tys)(a:Ah R W W')(hy:EY W' R t b'):YS tys P w R t b' W' bs:=
 ⟨h.keep.trans a,hy,h.hR,λk c e=>by
  have d:=h.hR;have q:=h.blk k c e;exact⟨q.1,q.2.1.keep a ϣ,A1 q.2.2 (a.2 _ q.2.1.lt ϣ)⟩,h.ap,h.st,h.st.keptY ht h.p a h.ey.tb⟩
theorem YS.new(h:YS tys P w R s b W bs)(vs:List Value)(T:TypeId):YS tys P w R s b (W.alloc (.cells vs.toArray T)) (bs++[(W.heap.size,T,vs)]):=by
 have a:Ϣ W (W.alloc (.cells vs.toArray T)):=Ϯ;have y:=h.keep.1.size;refine⟨h.keep.trans (Ah.of a),h.ey.below a,h.hR,λk c e=>?_,λi j c d l m x=>?_,h.st,h.st W _ _ _ h.p nR a.size (λg T v _=>a.block g (A7 v))⟩
 ·by_cases f:k<ϲ bs
  ·rw[aM f]at e;have q:=h.blk k c e;exact⟨q.1,q.2.1.below a,Ak q.2.2 a⟩
  ·rw[bB ϣ]at e;obtain⟨_,rfl⟩:=JT.1 e;have:k - ϲ bs=0:=by have:=(JT.1 e).1;simp at this;omega
   simp only[this,getElem_cons_zero];exact⟨y,SB.new ..,⟨_,_,DE _ _⟩⟩
 ·have p:∀(k:Nat) (c:Nat×TypeId×List Value),(bs++[(W.heap.size,T,vs)])[k]? =some c->(k<ϲ bs/\c.1<W.heap.size)\/(k=ϲ bs/\c.1=W.heap.size):=λk c e=>by
   by_cases f:k<ϲ bs
   ·rw[aM f]at e;exact .inl ⟨f,(h.blk k c e).2.1.lt⟩
   ·rw[bB ϣ]at e;have:k - ϲ bs=0:=by have:=(JT.1 e).1;simp at this;omega
    rw[this]at e;injection e with e
    exact .inr ⟨ϣ,by rw[<-e]⟩
  rcases p i c l with⟨n,r⟩|⟨n,r⟩<;>rcases p j d m with⟨o,u⟩|⟨o,u⟩
  ·rw[aM n]at l;rw[aM o]at m;exact h.ap i j c d l m x
  all_goals omega
theorem YS.same(h:YS tys P w R s b W bs)(k N:Nat){us:List Value}(f:bs[k]? =some (N,T,vs))(ht:T ∉ tys)(o:Below 0 W S)(l:∀g,g≠N->S.heap[g]? =W.heap[g]?)(E:SB S N us)(F:Am S N T):YS tys P w R s b S (bs.set k (N,T,us)):=by
 have K:=h.hR;have q:=h.blk k _ f;have I:w.heap.size<=N:=q.1;refine⟨⟨h.keep.1.trans o,λg n G=>(l g ϣ).trans (h.keep.2 g n G)⟩,h.ey.same (l R ϣ),h.hR,λi c e=>?_,λi j c d y z H=>?_,h.st,h.st W S _ _ h.p nR o.size (λg J n r=>l g (tyAt_apart n q.2.2 (λe=>ht (by rw[e]at r;exact r))))⟩
 ·by_cases a:i=k
  ·subst a;rw[dW (JT.1 f).1]at e;obtain rfl:=aI e;exact⟨I,E,F⟩
  ·rw[dC (λe=>a e.symm)]at e;have p:=h.blk i c e;have u:c.1≠N:=h.ap i k c _ e f a;exact⟨p.1,p.2.1.same (l _ u) o.size,A1 p.2.2 (l _ u)⟩
 ·have v:∀(i:Nat) (c:Nat×TypeId×List Value),(bs.set k (N,T,us))[i]? =some c->∃m,bs[i]? =some m/\m.1=c.1:=λi c e=>by
   by_cases a:i=k
   ·subst a;rw[dW (JT.1 f).1]at e;obtain rfl:=aI e;exact⟨_,f,rfl⟩
   ·rw[dC (λe=>a e.symm)]at e;exact⟨c,e,rfl⟩
  obtain⟨m,A,B⟩:=v i c y;obtain⟨x,C,D⟩:=v j d z;rw[<-B,<-D];exact h.ap i j m x A C H
def YS.put(h:YS tys P w R s b W bs)(k:Nat){j:Nat}{v:Value}(c:W.setCell ⟨N,j,none⟩ v=S)(a:bs[k]? =some (N,T,vs))(ht:T ∉ tys)(e:j<ϲ vs):YS tys P w R s b S (bs.set k (N,T,vs.set j v)):=by
 have q:=h.blk k _ a;subst c;exact h.same k N a ht ((RK 0 W).setCell (At _) _) (λg d=>CB _ _ _ _ d) (q.2.1.set j v e) (tyAt_set q.2.2 _ _)
def YS.sets(h:YS tys P w R s b W bs)(k:Nat)(a:bs[k]? =some (N,T,vs))(ht:T ∉ tys)(l:List Value)(d:ϲ l=ϲ vs):YS tys P w R s b (W.setCells N 0 l) (bs.set k (N,T,l)):=by
 have q:=h.blk k _ a;have e:=SB.sets l 0 W vs q.2.1 ϣ;rw[show vs.take 0++l++vs.drop (0+ϲ l)=l by simp[d]]at e;exact h.same k N a ht (jn.below_setCells (At _) l 0 _ (RK 0 W)) (λg c=>BA c _ _ _) e (jn.DI _ _ _ q.2.2)
theorem YS.grown(h:YS tys P w R s b W bs){o:Obj}{l:Option Nat}{a:ϟ}(d:(W.alloc o).grownBy a l)(f:TypeId)(n:f≠76)(i:∀g,l=some g->w.heap.size<=g/\Am W g f)(ht:∀(k:Nat) (c:Nat×TypeId×List Value),bs[k]? =some c->c.2.1≠f)(p:Dt tys' Q)(q:Q a w.heap.size):YS tys' Q w R s b a bs:=
 ⟨Cy h.keep d (λg e=>(i g e).1),h.ey.grown d (λe=>tyAt_apart (i R e).2 h.ey.tb n rfl),h.hR,λk c e=>by
  have q:=h.blk k c e;have j:a.heap[c.1]? =W.heap[c.1]? :=Ed (bR.alloc nR o) d q.2.1.lt (λm=>tyAt_apart q.2.2 (i _ m).2 (ht k c e) rfl);exact⟨q.1,q.2.1.same j (by have:=d.size;simp at this;omega),A1 q.2.2 j⟩,h.ap,p,q⟩
theorem Ve{o:Oper}{a:Act}{K:Act->World->Prop}{Q:Exit->Act->World->Prop}(s x:Operand)(T j:TypeId)
 (B:o.op= .call {callee:=.builtin .append,args:=#[s,x],argTypes:=#[j,j]}) (z:Value) (d k:Nat)
 (E:prog.underlying j=some (.slice T)) (m:(prog.info? T).map (λi=>(i.zero,i.size,i.bytes))=some (some z,d,k)) (J:z.cells.size=d) (D:0<d) (r:k<=1000)
 (base:Nat) (v:Value) (n e:List Value) (w:ϟ) (c:Nat) (A:w.ownsRow base T d v c n) (y:ϲ e=d) (h1:∀u∈e,u.oneCell'=true) (V:c<=1000000) (U:base<=w.heap.size)
 (C:a.eval s=v) (F:a.eval x=vS (ϋ w) 1 1)
 (h:∀g l f,f.ownsRow base T d (vS (ϋ g) (c+1) l) (c+1) (n++e)->(w.alloc (.cells e.toArray T)).grownBy f v.ownBlock->K (a.put o.dst (vS (ϋ g) (c+1) l)) f):
 Oper.wp prog o a (w.alloc (.cells e.toArray T)) K Q:=by
 obtain⟨L,m,G,H,I⟩:=IR m;refine wp_append_lies _ s x j B base T L z d k E m G H I J D v c n C
  (A.alloc _) ⟨w,0,none⟩ 1 1 e F (by rw[dS];exact y) QJ h1 Ϥ ϭ ?_ Ϩ (w.heap.size+1) ϥ ?_
 ·have:(c+1) * k<=1000001 * 1000:=Nat.mul_le_mul ϣ r;omega
 intro g l f p q M O;exact h g l f p q
def YP.buf{l:List Ent}{f:List (List Ent)}{s t u:List UInt8}{b a d:Bool}{lim:Int}(h:YP (lst AD) (okL Dg) l s b t a)(k:YP (lst (lst AD)) (okL (okL Dg)) f t a u d):YP BV (Ie lim) ⟨lim,l,f⟩ s b u d:=by
 have c:=YP.cat Ha.lst h k;exact⟨c.1,λe=>⟨(c.2.1 e).1,⟨rfl,(c.2.1 e).2.1.1,(c.2.1 e).2.1.2⟩,(c.2.1 e).2.2⟩,λe=>(c.2.2 e).imp id Bad.buf⟩
def PBf(v:Value)(es:List EM)(l:List Ent)(st:List Part)(ls:List (List Ent))(sl:Value)(w:World)(b:Nat):Prop:=(True/\OE w b v es l)/\OL 33 1 Ur PRn st ls sl w b
def Afz:List TypeId:=([]++[166,119])++(33::([]++[166,119]))
def Af0(v:Value)(a:List EM)(l:List Ent)(st:List Part)(c:List (List Ent))(d:Value):Dt Afz (PBf v a l st c d):=((DG _).and (JD _ _ _)).and (Bu Gy _ _ _)
theorem Ad7(R:Nat)(lim:Int)(s:List UInt8)(b:Bool)(w:ϟ)(h:EY w R s b)(hm:ϲ s<=2000000):
 χ 37 #[ω R,vI lim] w (Ye BV (Ie lim) (VBf w.heap.size) R s b w):=by
 have KE:=hIz (λu f (B:ϟ) (h1:EY B R u f) (hl:ϲ u<=2000000)=>Aad R u f B h1 hl);have KC:=hIz (λu f (B:ϟ) (h1:EY B R u f) (hl:ϲ u<=2000000)=>Gw R u f B h1 ϣ);have D:=hV0 hm;have q:=hy ((YS.base h).new [Ϗ,ώ,ώ] 36);clear h hm;go_enter func37,ntmps37;go_wp2_with fail;generalize World.alloc w _=V at q⊢;refine(KE.o s b V q.o.ey D.o).mono ?_;rintro e B ⟨hk,l,v,t,X,rfl,⟨o,p,E,rfl,ho⟩,al,ac⟩;have HP:=hy ac;replace D:ϡ (ϲ t<=2000000):=by have:=D.o;have:=ac.1;show _<=_;omega
 replace q:=hy (((q.o.call ϥ hk al).add (JD (vS o (ϲ l) p) E l) ho q.o.keep.1.size).new [vI lim,vS o (ϲ l) p,ώ] 36);clear hk ho al ac;obtain⟨N,hN⟩:=nM B.heap.size;obtain⟨n,hn⟩:=nM (ϲ l);have HN:=hV0 hn;rw[hn]at q;rw[hN]at q;go_wp2_with fail;generalize World.alloc B _=V at q⊢;refine(KC.o t X V q.o.ey D.o).mono ?_;rintro e w2 ⟨ah,m,t2,b2,rfl,am,ak,ar,hf,ht⟩;have M:ϡ (LI (lst AD) (okL Dg) m [] t X t2 b2/\m<=2000000):=⟨LI.start (λx _=>by have:=Ss x;omega) ak hf ht,by have:=D.o;omega⟩;replace q:ϡ (YS Afz (PBf (vS o n p) E l [] [] (vS none 0 0)) w R t2 b2 w2 [(w.heap.size,36,[Ϗ,ώ,ώ]),(N,36,[vI lim,vS o n p,ώ])]):=(q.o.call Ϥ ah am).add (Bu Gy [] [] (vS none 0 0)) (OL.nil _ _ _ _ _ _) nR;clear ah am ak ar hf ht KC hN hn;go_wp2
 go_loopw [6] (λi wr=> ∃(j:Nat) (a:List (List Ent)) (J:List Part) (z:Value) (u:List UInt8) (f:Bool),ϲ a+j=m/\i=vI j/\YS Afz (PBf (vS o n p) E l J a z) w R u f wr [(w.heap.size,36,[Ϗ,ώ,ώ]),(N,36,[vI lim,vS o n p,z])]/\LI (lst AD) (okL Dg) m a t X u f) (λi _=>(intOf i).toNat)
 case atStart=>exact⟨m,[],[],_,t2,b2,Fr _,rfl,q.o,M.o.1⟩
 case round=>
  obtain⟨j,a,J,z,u,f,ai,rfl,I,H⟩:=hrel;have d:ϡ (YS Afz (PBf (vS o n p) E l J a z) w R u f wr [(w.heap.size,36,[Ϗ,ώ,ώ]),(N,36,[vI lim,vS o n p,z])]/\LI (lst AD) (okL Dg) m a t X u f/\(ϲ a)+j=m):=⟨I,H,ai⟩;have c1:=I.ey.c1;have F:=(I.blk 1 _ rfl).2.1.cell 2 _ rfl;have f2:=(I.blk 1 _ rfl).2.1.frz 2;clear I H ai;by_cases ab:0<j/\f=false
  rotate_left
  ·have HD:=hy (HP.o.buf (lim:=lim) (d.o.2.1.done (by have:=M.o.2;omega) (λe=>by
    have:¬0<j:=λk=>ab ⟨k,e⟩;have:=d.o.2.2;omega)))
   obtain⟨U,Z,rfl⟩:=d.o.1.p.2.form;have ap:¬(j:Int)>0\/((j:Int)>0/\f=true):=by
    by_cases h0:0<j
    ·exact .inr ⟨ϣ,by cases f with
      |true=>rfl
      |false=>exact absurd ⟨h0,rfl⟩ ab⟩
    ·exact .inl ϣ
   have z0:=(d.o.1.blk 1 _ rfl).2.1.cell 0 _ rfl;have z1:=(d.o.1.blk 1 _ rfl).2.1.cell 1 _ rfl;have ao:ϡ (wr.there w.heap.size 0 3):=(d.o.1.blk 0 _ rfl).2.1.there;have C:=hy (d.o.1.sets 0 rfl Ϥ [vI lim,vS o n p,vS U (ϲ a) Z] rfl);have L:=hy (C.o.blk 0 _ rfl).2.1;clear f2;rcases ap with i1|⟨i1,rfl⟩
   all_goals
    go_wp2_with ((with_reducible refine Ft ?_ 36 (.tmp 4) (.tmp 31) ?_ w.heap.size 0 #[vI lim,vS o n p,vS U (ϲ a) Z] ?_ ?_ ?_ ?_ ?_ ?_);exact rfl;exact rfl;exact rfl;exact rfl;exact ao.o;exact RV;exact Ϭ);generalize World.setCells wr _ _ _=W' at L C⊢;have y0:=L.o.cell 0 _ rfl;have y1:=L.o.cell 1 _ rfl;have y2:=L.o.cell 2 _ rfl;exact CD (v:=.agg #[vI lim,vS o n p,vS U (ϲ a) Z]) (by simp[results,results37,go_sem,y0,y1,y2]) rfl ⟨C.o.keep,⟨lim,l,a⟩,_,u,_,rfl,⟨⟨U,Z,((o,n,p),E),J⟩,by unfold Bh;dsimp only;rw[d.o.1.p.2.len],C.o.p.1.2,by dsimp only;rw[d.o.1.p.2.len];exact C.o.p.2⟩,C.o.ey,HD.o⟩
  obtain⟨h0,rfl⟩:=ab;have i1:(j:Int)>0:=ϣ;have af:ϡ (ϲ u<=2000000/\(ϲ a)<=1000000):=by
   have h1:=d.o.2.1.1;have h2:=D.o;have h3:=Bk List.length (d.o.2.1.2.1 rfl).2.1;have h4:=Ee Ss a;rw[lAp,lAp]at h3;exact⟨ϣ,ϣ⟩
  go_upto_region 5 with fail;refine Cg.begin (S:=λw'=>Δ w' N 2 z) (T:=λj=>j==7) 8 rfl Ϧ ?_;have z3:Δ wr.drew N 2 z:=F;refine Cg.take 0 (some 24) z3 ?_;refine Cg.take 1 (some 25) z3 ?_;refine Cg.take 2 (some 26) z3 ?_;refine Cg.step 3 Ϧ rfl rfl (λK r=>?_);refine Mr 89 #[ω R] (by first|(go_simp;done)|(go_simp;with_reducible rfl)) (KE.o u false wr.drew (d.o.1.ey.below bR.drew) af.o.1) ?_;rintro e w3 ⟨aq,x,v,u2,b3,rfl,⟨O,Y,ag,rfl,au⟩,aw,av⟩;have A:=hy (d.o.1.call Ϥ ((Ah.of bR.drew).trans aq) aw);have z4:=(A.o.blk 1 _ rfl).2.1.cell 2 _ rfl;refine⟨_,rfl,r.out _ _ (λ_=>z4) ?_⟩;clear r K F z3;refine Cg.act (some 27) ?_;refine Cg.step 4 Ϧ rfl rfl (λK r=>?_);refine XV (vS (ϋ w3) 1 1) (w':=w3.alloc (.cells #[vS O (ϲ x) Y] 33)) (by first|(go_simp;done)|(go_simp;with_reducible rfl)) ?_;refine r.out _ _ (λ_=>cLz Ϯ z4) ?_;clear r K;refine Cg.act (some 28) ?_;refine Cg.step 5 Ϧ rfl rfl (λK r=>?_);refine Ve (.tmp 25) (.tmp 28) 33 34 rfl (vS none 0 0) 1 24 underlying34 XX rfl Ϥ Ϥ w.heap.size z _ [vS O (ϲ x) Y] w3 (ϲ a) A.o.p.2.own rfl Ϭ af.o.2 A.o.keep.1.size rfl rfl ?_;intro g c3 W2 aj aa;have ae:∀g,z.ownBlock=some g->w.heap.size<=g/\Am w3 g 33:=λg e=>⟨(AL A.o.p.2.own e).1,Az A.o.p.2.own e⟩;have G:=hy (A.o.grown aa 33 Ϥ ae (λk c e=>by
   have:=eD e;simp at this;rcases this with rfl|rfl<;>exact(by decide:(36:TypeId)≠33)) (Af0 (vS o n p) E l (J++[((O,ϲ x,Y),ag)]) (a++[x]) (vS (ϋ g) (ϲ a+1) c3)) ⟨⟨trivial,(JD _ _ _).grown (T:=33) Ϥ A.o.p.1.2 aa (λg e=>(ae g e).2)⟩,OL.snoc Gy Ϥ (y:=((O,ϲ x,Y),ag)) (x:=x) A.o.p.2 ⟨rfl,au.mono d.o.1.keep.1.size⟩ aa aj⟩)
  have F:=(G.o.blk 1 _ rfl).2.1.cell 2 _ rfl;have f2:=(G.o.blk 1 _ rfl).2.1.frz 2;refine r.out _ _ (λ_=>F) ?_;clear r K aj aa ae z4;refine Cg.act (some 29) ?_;refine Cg.take 6 (some 30) F ?_;refine Cg.step 7 Ϧ rfl rfl (λK r=>?_);refine T9 (w':=W2.setCell ⟨N,2,none⟩ (vS (ϋ g) (ϲ a+1) c3)) (by first|(go_simp;done)|(go_simp;with_reducible rfl)) ?_;refine r.out _ _ (λe=>by cases e) ?_;clear r K;refine Cg.act none ?_;refine Cg.done Ϧ ?_ _;replace G:=hy (G.o.put 1 (S:=W2.setCell ⟨N,2,none⟩ (vS (ϋ g) (ϲ a+1) c3)) rfl rfl Ϥ ϥ);clear F f2;have H:=d.o.2.1.step Ha.lst (by have:=M.o.2;omega) (by have:=d.o.2.2;omega) av;have ax:IntKind.i64.wrap ((j:Int) - 1)=((j - 1:Nat):Int):=by have:=d.o.2.2;have:=M.o.2;rw[RW];omega
  have an:=hy H;clear H;generalize World.setCell W2 _ _=W3 at *;go_wp2;go_roundw;exact⟨j - 1,a++[x],_,_,u2,b3,by have:=d.o.2.2;rw[lAp,bV];omega,rfl,G.o,an.o⟩;simp[intOf];omega
end cd
namespace cd
open vl bf bt
def YC(c:Cel):List UInt8:=Ck [c]
def YD(c:Cel):Prop:=rowOk [c]
def ptO(c:Cel):List Cel:=[c]
def Af1:Pre YC YD:=Pre.via D4 ptO (λx y _ _ e=>by injection e) (λ_=>rfl) (λ_ h=>h)
def VO1(c:Cel)(v:Value)(_:World):Prop:=v= .agg #[vI c.k,vI c.n,.string c.s]
theorem YP.one{r:List Cel}{s t:List UInt8}{b a:Bool}(h:YP Ck rowOk r s b t a)(d:ϲ r≠1)(c:Cel):YP YC YD c s b t true:=by
 refine⟨h.1,(λe=>by cases e),λ_=>?_⟩
 cases a with
 |true=>exact(h.2.2 rfl).imp id (λk=>k.via ptO (λ_=>rfl) (λ_ h=>h))
 |false=>
  obtain⟨_,f,g⟩:=h.2.1 rfl;subst g;refine .inr λx u i e=>?_;rw[(D4 _ _ _ _ f i e).1]at d;exact d rfl
def Ad8:(prog.info? 119).map (·.size)=some 3:=Ϧ
theorem Ad9(R:Nat)(s:List UInt8)(b:Bool)(w:ϟ)(h:EY w R s b)(I:ϲ s<=2000000):
 χ 90 #[ω R] w (Ye YC YD VO1 R s b w):=by
 have X:=hIz (λu D (g:ϟ) (j:EY g R u D) (hl:ϲ u<=2000000)=>LG R u D g j ϣ);have M:=hV0 I;have a:=hy ((YS.base h).new [Ϗ,Ϗ,ϐ] 119);clear h I;go_enter func90,ntmps90;go_wp2_with fail;generalize World.alloc w _=V at a⊢;refine(X.o s b V a.o.ey M.o).mono ?_;rintro e g ⟨H,r,v,t,o,rfl,⟨ad,aa,rfl,J⟩,L,K⟩;have C:=hy K;replace a:=hy (a.o.call ϥ H L);have U:=hV0 J;clear H J L K;by_cases j:ϲ r=1
 rotate_left
 ·have o:(ϲ r:Int)≠1:=ϣ;have i:=a.o.ey.c1;have Y:=a.o.ey.f1;go_upto_region 4 with fail;generalize G:World.setCell g _ _=m;have A:=hy (G▸a.o.call ϥ (Ef _ _ _ _) a.o.ey.putB:YS [] (λ_ _=>True) w R t true m _);have l:ϡ (m.there w.heap.size 0 3):=(A.o.blk 0 _ rfl).2.1.there;have d:=hy (A.o.sets 0 rfl ϥ [Ϗ,Ϗ,ϐ] rfl);have f:=hy (d.o.blk 0 _ rfl).2.1;clear G i Y o;go_wp2_with ((with_reducible refine Ft ?_ 119 (.tmp 2) (.tmp 12) ?_ w.heap.size 0 #[Ϗ,Ϗ,ϐ] ?_ ?_ ?_ ?_ ?_ ?_);exact rfl;exact rfl;exact rfl;exact rfl;exact l.o;exact Ad8;exact Ϭ);generalize World.setCells m _ _ _=W' at f d⊢;have p:=f.o.cell 0 _ rfl;have y:=f.o.cell 1 _ rfl;have z:=f.o.cell 2 _ rfl;exact CD (v:=.agg #[Ϗ,Ϗ,ϐ]) (by simp[results,results90,go_sem,p,y,z]) rfl ⟨d.o.keep,⟨0,0,⟨#[]⟩⟩,_,t,true,rfl,rfl,d.o.ey,C.o.one j _⟩
 obtain⟨c,rfl⟩:=List.length_eq_one_iff.1 j;have Z:=D5 U.o;obtain⟨B,O,rfl,E,i,F⟩:=Z 0 ϥ;simp only[List.getD_cons_zero,bU,aE]at E i F;obtain⟨k,n,q⟩:=c;dsimp only at E i F;have l:ϡ (g.there w.heap.size 0 3):=(a.o.blk 0 _ rfl).2.1.there;have d:=hy (a.o.sets 0 rfl ϥ [vI k,vI n,.string q] rfl);have f:=hy (d.o.blk 0 _ rfl).2.1;go_wp2_with ((with_reducible refine Ft ?_ 119 (.tmp 2) (.tmp 15) ?_ w.heap.size 0 #[vI k,vI n,.string q] ?_ ?_ ?_ ?_ ?_ ?_);exact rfl;exact rfl;exact rfl;exact rfl;exact l.o;exact Ad8;exact Ϭ);generalize World.setCells g _ _ _=W' at f d⊢;have p:=f.o.cell 0 _ rfl;have y:=f.o.cell 1 _ rfl;have z:=f.o.cell 2 _ rfl;exact CD (v:=.agg #[vI k,vI n,.string q]) (by simp[results,results90,go_sem,p,y,z]) rfl ⟨d.o.keep,⟨k,n,q⟩,_,t,o,rfl,rfl,d.o.ey,YP.via (x:=(⟨k,n,q⟩:Cel)) ptO C.o (λ_=>rfl) (λ_=>Iff.rfl)⟩
attribute [local go_sem] run_store_func
theorem AdA(R:Nat)(lim:Int)(s:List UInt8)(w:ϟ)(h:RQ w R s)(I:ϲ s<=2000000):
 χ 138 #[ω R,vI lim] w (Rd BV (Ie lim) (VBf w.heap.size) R s w):=by
 have U:=hIz (λ(c:ϟ) C (d:Ah R w c) (g:RR c R s) (J:RP c C R)=>QG R C s c (h.go d g) J I);have X:=hIz (λt (c:ϟ) C D (d:Ah R w c) (g:RR c R t) (J:RP c C R) (hd:GP c D C R) (ht:ϲ t<=2000000)=>Aai R C D t c (h.go d g) J hd ht);have A:=h.rr.lt;have B:=hV0 I;have L:ϡ (RR w R s):=h.rr;clear h I;go_enter func138,ntmps138;go_wp2_with fail;have a:=hy (EP.of (((((ES.base L.o).new ϥ [ω R] 71).new ϥ [Ϗ,ώ,ώ] 36).new ϥ [G1 w.heap.size] 257).new ϥ [vI lim,ώ,ώ] 36));unfold G1 at a;generalize World.alloc (World.alloc (World.alloc (World.alloc w _) _) _) _=V at a⊢;have p:ϡ (RP V w.heap.size R):=⟨(a.o.es.blk 0 _ rfl).1.cell 0 _ rfl,ϣ,(a.o.es.blk 0 _ rfl).1.lt⟩;refine(U.o V w.heap.size a.o.es.keep a.o.es.rr p.o).mono ?_;rintro o c ⟨d,⟨l,t,v,x,rfl,rfl,⟨e,f,es,rfl,u⟩,g⟩|⟨H,v,rfl⟩⟩
 rotate_left
 ·exact⟨rfl,a.o.es.keep.trans d,.inr ⟨H.fst.buf,_,rfl⟩⟩
 have O:=hV0 x;replace B:ϡ (ϲ t<=2000000):=by have:=B.o;rw[lAp]at this;show _<=_;omega
 replace a:=hy ((a.o.call Ϥ A d g).add (JD _ _ _) u a.o.size);obtain⟨n,m⟩:=nM (ϲ l);have HN:=hV0 m;rw[m]at a⊢;have F:=(a.o.es.blk 3 _ rfl).1.cell 1 _ rfl;have G:=(a.o.es.blk 3 _ rfl).1.frz 1;clear x u d g m U p L;go_upto_region 4 with fail;generalize r:World.setCell c _ _=E;replace a:=hy (a.o.put 36 Ϥ r A 3 rfl rfl ϥ);clear F G r;have p:ϡ (RP E w.heap.size R/\GP E (w.heap.size+2) w.heap.size R):=⟨⟨(a.o.es.blk 0 _ rfl).1.cell 0 _ rfl,ϣ,(a.o.es.blk 0 _ rfl).1.lt⟩,⟨(a.o.es.blk 2 _ rfl).1.cell 0 _ rfl,ϣ,(a.o.es.blk 2 _ rfl).1.lt⟩⟩;have cb:=p.o.1.cell;go_wp2_with fail;refine(X.o t E w.heap.size (w.heap.size+2) a.o.es.keep a.o.es.rr p.o.1 p.o.2 B.o).mono ?_;rintro o w2 ⟨d,⟨K,t2,v,x,rfl,rfl,⟨i,j,Z,rfl,u⟩,g⟩|⟨H,v,rfl⟩⟩
 rotate_left
 ·exact⟨rfl,a.o.es.keep.trans d,.inr ⟨(H.snd Ha.lst O.o).buf,_,rfl⟩⟩
 have HY:=hV0 x;replace a:=hy ((a.o.call Ϥ A d g).add (Bu Gy _ _ _) u a.o.size);obtain⟨k,m⟩:=nM (ϲ K);have aa:=hV0 m;rw[m]at a⊢;have Y:ϲ Z=k:=a.o.p.2.len.trans m;have F:=(a.o.es.blk 3 _ rfl).1.cell 2 _ rfl;have G:=(a.o.es.blk 3 _ rfl).1.frz 2;clear x u d g m X p cb;go_upto_region 5 with fail;generalize r:World.setCell w2 _ _=q;replace a:=hy (a.o.put 36 Ϥ r A 3 rfl rfl ϥ);clear F G r;have d0:=(a.o.es.blk 3 _ rfl).1.cell 0 _ rfl;have d1:=(a.o.es.blk 3 _ rfl).1.cell 1 _ rfl;have d2:=(a.o.es.blk 3 _ rfl).1.cell 2 _ rfl;have M:ϡ (q.there (w.heap.size+1) 0 3):=(a.o.es.blk 1 _ rfl).1.there;have y:ϡ (RR (World.setCells q (w.heap.size+1) 0 [vI lim,vS e n f,vS i k j]) R t2/\Ah R w (World.setCells q (w.heap.size+1) 0 [vI lim,vS e n f,vS i k j])/\OB1 ⟨i,j,((e,n,f),es),Z⟩ ⟨lim,l,K⟩ (World.setCells q (w.heap.size+1) 0 [vI lim,vS e n f,vS i k j]) w.heap.size):=
  ⟨a.o.es.rr.sets ϣ _ _,Dd a.o.es.keep (PS _) _ _,(DY _ _).sets (T:=36) Ϥ _ 0 q ⟨a.o.p.1.2,by dsimp only;rw[Y];exact a.o.p.2⟩ (a.o.es.blk 1 _ rfl).2⟩
 have z:ϡ ((World.setCells q (w.heap.size+1) 0 [vI lim,vS e n f,vS i k j]).rangeAt (w.heap.size+1) 0 [vI lim,vS e n f,vS i k j]):=Wf _ _ _ _ M.o;go_wp2_with ((with_reducible refine Ft ?_ 36 (.tmp 4) (.tmp 18) ?_ (w.heap.size+1) 0 (τ lim e n f i k j) ?_ ?_ ?_ ?_ ?_ ?_);exact rfl;exact rfl;exact rfl;exact rfl;exact M.o;exact RV;exact Ϭ);generalize (World.setCells q (w.heap.size+1) 0 [vI lim,vS e n f,vS i k j])=W' at z y⊢;have z0:=z.o 0 _ rfl;have z1:=z.o 1 _ rfl;have z2:=z.o 2 _ rfl;simp only[Fr]at z0 z1 z2;exact CD (v:=.agg (τ lim e n f i k j)) (by simp[results,results138,go_sem,z0,z1,z2]) rfl ⟨y.o.2.1,.inl ⟨⟨lim,l,K⟩,t2,_,⟨rfl,O.o,HY.o⟩,by rw[Ju];simp only[Ad6,ptB,cat,Bx],rfl,⟨_,by unfold Bh;dsimp only;rw[Y],y.o.2.2⟩,y.o.1⟩⟩
end cd
namespace cd
open vl bf bt jn
variable {lim : Int} {s : List UInt8} {W w : ϟ} {N R : Nat}
def Vf(lim:Int)(s:Jn):Prop:=Ie lim s.L/\Ie lim s.R/\okN s.lm/\okN s.rm/\okN s.seq
def ptJ(s:Jn):Buf×Buf×Int×Int×Int:=(s.L,s.R,s.lm,s.rm,s.seq)
def AdB:Buf×Buf×Int×Int×Int->List UInt8:=cat BV (cat BV (cat AM (cat AM AM)))
def AgF(lim:Int):Buf×Buf×Int×Int×Int->Prop:=okP (Ie lim) (okP (Ie lim) (okP okN (okP okN okN)))
def NA(s:Jn):GI s=AdB (ptJ s):=by
 unfold GI AdB ptJ;simp only[cat,Bx]
def YE(s:Jn)(h:Vf lim s):AgF lim (ptJ s):=h
def SL(lim:Int):Pre GI (Vf lim):=Pre.via ((Fu lim).cat ((Fu lim).cat (Bn.cat (Bn.cat Bn)))) ptJ (λx y _ _ e=>by
 obtain⟨a,b,c,d,f⟩:=x;obtain⟨g,b',h,i,j⟩:=y;simp only[ptJ,bG]at e;obtain⟨rfl,rfl,rfl,rfl,rfl⟩:=e;rfl) NA YE
def Bad.jn(h:Bad AdB (AgF lim) s):Bad GI (Vf lim) s:=h.via ptJ NA YE
def OJ1(y:JX)(s:Jn)(w:World)(b:Nat):Prop:=OB1 y.l s.L w b/\OB1 y.r s.R w b
def SO(y:JX)(s:Jn):Dt (X7++X7) (OJ1 y s):=(DY _ _).and (DY _ _)
def VJn(base:Nat)(s:Jn)(v:Value)(w:World):Prop:=∃y:JX,v=joinV s y/\OJ1 y s w base
def AdC:(prog.info? 38).map (·.size)=some 9:=Ϧ
theorem AaS(R:Nat)(lim:Int)(s:List UInt8)(w:ϟ)(h:RQ w R s)(Y:ϲ s<=2000000):
 χ 75 #[ω R,vI lim] w (Rd GI (Vf lim) (VJn w.heap.size) R s w):=by
 have X:=hIz (λt (p:ϟ) (c:Ah R w p) (d:RR p R t) (Z:ϲ t<=2000000)=>AdA R lim t p (h.go c d) Z);have E:=hIz (λt (p:ϟ) (c:Ah R w p) (d:RR p R t) (Z:ϲ t<=2000000)=>Dq R t p (h.go c d) ϣ);have e:=h.rr.lt;have i:=hV0 Y;have O:ϡ (RR w R s):=h.rr;clear h Y;go_enter func75,ntmps75;go_wp2_with fail;have a:=hy (EP.of (((ES.base O.o).new ϥ [Ϗ,ώ,ώ,Ϗ,ώ,ώ,Ϗ,Ϗ,Ϗ] 38).new ϥ [Ϗ,ώ,ώ,Ϗ,ώ,ώ,Ϗ,Ϗ,Ϗ] 38));generalize World.alloc (World.alloc w _) _=V at a⊢;clear O;refine(X.o s V a.o.es.keep a.o.es.rr i.o).mono ?_;rintro o p ⟨c,⟨bl,t,v,g,rfl,rfl,⟨x,rfl,A⟩,d⟩|⟨n,v,rfl⟩⟩
 rotate_left
 ·exact⟨rfl,a.o.es.keep.trans c,.inr ⟨n.fst.jn,_,rfl⟩⟩
 have r:=hV0 g;replace i:ϡ (ϲ t<=2000000):=by have:=i.o;rw[lAp]at this;show _<=_;omega
 replace a:=hy ((a.o.call Ϥ e c d).add (DY x bl) A a.o.size);have F:=(a.o.es.blk 1 _ rfl).1.cell 0 _ rfl;have I:=(a.o.es.blk 1 _ rfl).1.frz 0;have G:=(a.o.es.blk 1 _ rfl).1.cell 1 _ rfl;have J:=(a.o.es.blk 1 _ rfl).1.frz 1;have H:=(a.o.es.blk 1 _ rfl).1.cell 2 _ rfl;have K:=(a.o.es.blk 1 _ rfl).1.frz 2;clear g A c d;unfold Bh;go_wp2_with fail;generalize f:World.setCell (World.setCell (World.setCell p _ _) _ _) _ _=S1;replace a:=hy (((a.o.put 38 Ϥ rfl e 1 rfl rfl ϥ).put 38 Ϥ rfl e 1 rfl rfl ϥ).put 38 Ϥ f e 1 rfl rfl ϥ);clear F I G J H K f;refine(X.o t S1 a.o.es.keep a.o.es.rr i.o).mono ?_;rintro o w2 ⟨c,⟨j,t2,v,g,rfl,rfl,⟨y,rfl,A⟩,d⟩|⟨n,v,rfl⟩⟩
 rotate_left
 ·exact⟨rfl,a.o.es.keep.trans c,.inr ⟨((n.fst).snd (Fu _) r.o).jn,_,rfl⟩⟩
 have C:=hV0 g;replace i:ϡ (ϲ t2<=2000000):=by have:=i.o;rw[lAp]at this;show _<=_;omega
 replace a:=hy ((a.o.call Ϥ e c d).add (DY y j) A a.o.size);have F:=(a.o.es.blk 1 _ rfl).1.cell 3 _ rfl;have I:=(a.o.es.blk 1 _ rfl).1.frz 3;have G:=(a.o.es.blk 1 _ rfl).1.cell 4 _ rfl;have J:=(a.o.es.blk 1 _ rfl).1.frz 4;have H:=(a.o.es.blk 1 _ rfl).1.cell 5 _ rfl;have K:=(a.o.es.blk 1 _ rfl).1.frz 5;clear g A c d;unfold Bh;go_wp2_with fail;generalize f:World.setCell (World.setCell (World.setCell w2 _ _) _ _) _ _=S2;replace a:=hy (((a.o.put 38 Ϥ rfl e 1 rfl rfl ϥ).put 38 Ϥ rfl e 1 rfl rfl ϥ).put 38 Ϥ f e 1 rfl rfl ϥ);clear F I G J H K f;refine(E.o t2 S2 a.o.es.keep a.o.es.rr i.o).mono ?_;rintro o w3 ⟨c,⟨k,t3,v,g,rfl,rfl,rfl,d⟩|⟨n,v,rfl⟩⟩
 rotate_left
 ·exact⟨rfl,a.o.es.keep.trans c,.inr ⟨(((n.fst).snd (Fu _) C.o).snd (Fu _) r.o).jn,_,rfl⟩⟩
 have D:=hV0 g;replace i:ϡ (ϲ t3<=2000000):=by have:=i.o;rw[lAp]at this;show _<=_;omega
 replace a:=hy (a.o.call Ϥ e c d);have u:=(a.o.es.blk 1 _ rfl).1.cell 6 _ rfl;have z:=(a.o.es.blk 1 _ rfl).1.frz 6;clear g c d;go_wp2_with fail;generalize f:World.setCell w3 _ _=S3;replace a:=hy (a.o.put 38 Ϥ f e 1 rfl rfl ϥ);clear u z f;refine(E.o t3 S3 a.o.es.keep a.o.es.rr i.o).mono ?_;rintro o w4 ⟨c,⟨l,t4,v,g,rfl,rfl,rfl,d⟩|⟨n,v,rfl⟩⟩
 rotate_left
 ·exact⟨rfl,a.o.es.keep.trans c,.inr ⟨((((n.fst).snd Bn D.o).snd (Fu _) C.o).snd (Fu _) r.o).jn,_,rfl⟩⟩
 have L:=hV0 g;replace i:ϡ (ϲ t4<=2000000):=by have:=i.o;rw[lAp]at this;show _<=_;omega
 replace a:=hy (a.o.call Ϥ e c d);have u:=(a.o.es.blk 1 _ rfl).1.cell 7 _ rfl;have z:=(a.o.es.blk 1 _ rfl).1.frz 7;clear g c d;go_wp2_with fail;generalize f:World.setCell w4 _ _=S4;replace a:=hy (a.o.put 38 Ϥ f e 1 rfl rfl ϥ);clear u z f;refine(E.o t4 S4 a.o.es.keep a.o.es.rr i.o).mono ?_;rintro o w5 ⟨c,⟨m,t5,v,g,rfl,rfl,rfl,d⟩|⟨n,v,rfl⟩⟩
 rotate_left
 ·exact⟨rfl,a.o.es.keep.trans c,.inr ⟨((((n.snd Bn L.o).snd Bn D.o).snd (Fu _) C.o).snd (Fu _) r.o).jn,_,rfl⟩⟩
 have HD:=hV0 g;replace a:=hy (a.o.call Ϥ e c d);have u:=(a.o.es.blk 1 _ rfl).1.cell 8 _ rfl;have z:=(a.o.es.blk 1 _ rfl).1.frz 8;clear g c d;go_upto_region 7 with fail;generalize f:World.setCell w5 _ _=q;replace a:=hy (a.o.put 38 Ϥ f e 1 rfl rfl ϥ);clear u z f;have d0:=(a.o.es.blk 1 _ rfl).1.cell 0 _ rfl;have d1:=(a.o.es.blk 1 _ rfl).1.cell 1 _ rfl;have d2:=(a.o.es.blk 1 _ rfl).1.cell 2 _ rfl;have d3:=(a.o.es.blk 1 _ rfl).1.cell 3 _ rfl;have d4:=(a.o.es.blk 1 _ rfl).1.cell 4 _ rfl;have d5:=(a.o.es.blk 1 _ rfl).1.cell 5 _ rfl;have d6:=(a.o.es.blk 1 _ rfl).1.cell 6 _ rfl;have d7:=(a.o.es.blk 1 _ rfl).1.cell 7 _ rfl;have d8:=(a.o.es.blk 1 _ rfl).1.cell 8 _ rfl;have U:ϡ (q.there w.heap.size 0 9):=(a.o.es.blk 0 _ rfl).1.there;have B:ϡ (RR (World.setCells q w.heap.size 0 [vI bl.lim,vS x.m.1.1 x.m.1.2.1 x.m.1.2.2,vS x.ra (ϲ x.rs) x.rc,vI j.lim,vS y.m.1.1 y.m.1.2.1 y.m.1.2.2,vS y.ra (ϲ y.rs) y.rc,vI k,vI l,vI m]) R t5/\Ah R w (World.setCells q w.heap.size 0 [vI bl.lim,vS x.m.1.1 x.m.1.2.1 x.m.1.2.2,vS x.ra (ϲ x.rs) x.rc,vI j.lim,vS y.m.1.1 y.m.1.2.1 y.m.1.2.2,vS y.ra (ϲ y.rs) y.rc,vI k,vI l,vI m])/\OJ1 ⟨x,y⟩ ⟨bl,j,k,l,m⟩ (World.setCells q w.heap.size 0 [vI bl.lim,vS x.m.1.1 x.m.1.2.1 x.m.1.2.2,vS x.ra (ϲ x.rs) x.rc,vI j.lim,vS y.m.1.1 y.m.1.2.1 y.m.1.2.2,vS y.ra (ϲ y.rs) y.rc,vI k,vI l,vI m]) w.heap.size):=
  ⟨a.o.es.rr.sets ϣ _ _,Dd a.o.es.keep nR _ _,(SO _ _).sets (T:=38) Ϥ _ 0 q ⟨a.o.p.1.2,a.o.p.2⟩ (a.o.es.blk 0 _ rfl).2⟩
 have M:ϡ ((World.setCells q w.heap.size 0 [vI bl.lim,vS x.m.1.1 x.m.1.2.1 x.m.1.2.2,vS x.ra (ϲ x.rs) x.rc,vI j.lim,vS y.m.1.1 y.m.1.2.1 y.m.1.2.2,vS y.ra (ϲ y.rs) y.rc,vI k,vI l,vI m]).rangeAt w.heap.size 0 [vI bl.lim,vS x.m.1.1 x.m.1.2.1 x.m.1.2.2,vS x.ra (ϲ x.rs) x.rc,vI j.lim,vS y.m.1.1 y.m.1.2.1 y.m.1.2.2,vS y.ra (ϲ y.rs) y.rc,vI k,vI l,vI m]):=Wf _ _ _ _ U.o;go_wp2_with ((with_reducible refine Ft ?_ 38 (.tmp 4) (.tmp 23) ?_ w.heap.size 0 #[vI bl.lim,vS x.m.1.1 x.m.1.2.1 x.m.1.2.2,vS x.ra (ϲ x.rs) x.rc,vI j.lim,vS y.m.1.1 y.m.1.2.1 y.m.1.2.2,vS y.ra (ϲ y.rs) y.rc,vI k,vI l,vI m] ?_ ?_ ?_ ?_ ?_ ?_);exact rfl;exact rfl;exact rfl;exact rfl;exact U.o;exact AdC;exact Ϭ);generalize (World.setCells q w.heap.size 0 [vI bl.lim,vS x.m.1.1 x.m.1.2.1 x.m.1.2.2,vS x.ra (ϲ x.rs) x.rc,vI j.lim,vS y.m.1.1 y.m.1.2.1 y.m.1.2.2,vS y.ra (ϲ y.rs) y.rc,vI k,vI l,vI m])=W' at M B⊢;obtain⟨z0,z1,z2,z3,z4,z5,z6,z7,z8⟩:=rg9 M.o;exact CD (v:=.agg #[vI bl.lim,vS x.m.1.1 x.m.1.2.1 x.m.1.2.2,vS x.ra (ϲ x.rs) x.rc,vI j.lim,vS y.m.1.1 y.m.1.2.1 y.m.1.2.2,vS y.ra (ϲ y.rs) y.rc,vI k,vI l,vI m]) (by simp[results,results75,go_sem,z0,z1,z2,z3,z4,z5,z6,z7,z8]) rfl ⟨B.o.2.1,.inl ⟨⟨bl,j,k,l,m⟩,t5,_,⟨r.o,C.o,D.o,L.o,HD.o⟩,by rw[NA];simp only[AdB,ptJ,cat,Bx],rfl,⟨⟨x,y⟩,rfl,B.o.2.2⟩,B.o.1⟩⟩
structure Egg where
 j:Jn
 gs:List gr.Grp
 v:List ch.Cnt
structure GGX where
 y:JX
 ga:Option Addr
 gc:Nat
 xs:List gr.GX
 va:Option Addr
 vc:Nat
def egC(e:Egg)(x:GGX):List Value:=(ν e.j x.y.l x.y.r [vS x.ga (ϲ e.gs) x.gc,vS x.va (ϲ e.v) x.vc])
def egV(e:Egg)(x:GGX):Value:=.agg (egC e x).toArray
def C0(e:Egg):List UInt8:=GI e.j++lst AX e.gs++lst Cf e.v
def Fv(lim:Int)(e:Egg):Prop:=Vf lim e.j/\okL El e.gs/\okL JU e.v
def Vg(e:Egg):Jn×List gr.Grp×List ch.Cnt:=(e.j,e.gs,e.v)
def Vh:Jn×List gr.Grp×List ch.Cnt->List UInt8:=cat GI (cat (lst AX) (lst Cf))
def AdD(lim:Int):Jn×List gr.Grp×List ch.Cnt->Prop:=okP (Vf lim) (okP (okL El) (okL JU))
def NC(e:Egg):C0 e=Vh (Vg e):=by
 unfold C0 Vh Vg;simp only[cat,Bx]
def YF(e:Egg)(h:Fv lim e):AdD lim (Vg e):=h
def MH(lim:Int):Pre C0 (Fv lim):=Pre.via ((SL lim).cat (LY.lst.cat SH.lst)) Vg (λx y _ _ e=>by
 obtain⟨a,b,c⟩:=x;obtain⟨d,b',f⟩:=y;simp only[Vg,bG]at e;obtain⟨rfl,rfl,rfl⟩:=e;rfl) NC YF
def Bad.eg(h:Bad Vh (AdD lim) s):Bad C0 (Fv lim) s:=h.via Vg NC YF
def OE1(x:GGX)(st:List (gr.GX×gr.Grp))(su:List ((Option Addr×Nat)×ch.Cnt))(e:Egg)(w:World)(b:Nat):Prop:=
 OJ1 x.y e.j w b/\OL 102 3 P9 PGr st e.gs (vS x.ga (ϲ e.gs) x.gc) w b/\OL 83 2 SI PCt su e.v (vS x.va (ϲ e.v) x.vc) w b
def tysE:List TypeId:=(X7++X7)++((102::([]++Afy))++(83::([]++[119])))
def I8(x:GGX)(st:List (gr.GX×gr.Grp))(su:List ((Option Addr×Nat)×ch.Cnt))(e:Egg):Dt tysE (OE1 x st su e):=(SO _ _).and ((Bu Gd _ _ _).and (Bu I7 _ _ _))
def VEg(base:Nat)(e:Egg)(v:Value)(w:World):Prop:=∃x st su,v=egV e x/\x.xs=st.map (·.1)/\OE1 x st su e w base
def ES.sets{bs:List (TypeId×List Value)}(h:ES w R s W bs)(g:R<w.heap.size)(k:Nat){b:TypeId×List Value}(f:w.heap.size+k=N)(a:bs[k]? =some b)(l:List Value)(j:ϲ l<=ϲ b.2):ES w R s (W.setCells N 0 l) (bs.set k (b.1,b.2.take 0++l++b.2.drop (0+ϲ l))):=by
 subst f;refine⟨Dd h.keep ϣ _ _,h.rr.sets ϣ _ _,λi c e=>?_⟩;by_cases d:i=k
 ·subst d;rw[dW (JT.1 a).1]at e;obtain rfl:=(aI e);exact⟨SB.sets l 0 _ _ (h.blk i b a).1 ϣ,DI _ _ _ (h.blk i b a).2⟩
 ·rw[dC (λe=>d e.symm)]at e;exact⟨(h.blk i c e).1.same (BA ϣ _ _ _) (by rw[size_setCells];exact HU _),DI _ _ _ (h.blk i c e).2⟩
def EP.sets{tys:List TypeId}{P:World->Nat->Prop}{bs:List (TypeId×List Value)}(h:EP tys P w R s W bs)(T:TypeId)(ht:T ∉ tys)(d:R<w.heap.size)(k:Nat){vs:List Value}(a:w.heap.size+k=N)(c:bs[k]? =some (T,vs))(l:List Value)(e:ϲ l<=ϲ vs):EP tys P w R s (W.setCells N 0 l) (bs.set k (T,vs.take 0++l++vs.drop (0+ϲ l))):=
 ⟨h.es.sets d k a c l e,h.st,h.st.sets ht l 0 _ h.p (by rw[<-a];exact(h.es.blk k _ c).2)⟩
def E9:(prog.info? 42).map (·.size)=some 11:=Ϧ
theorem Vi(R:Nat)(lim:Int)(s:List UInt8)(w:ϟ)(h:RQ w R s)(hm:ϲ s<=2000000):
 χ 35 #[ω R,vI lim] w (Rd C0 (Fv lim) (VEg w.heap.size) R s w):=by
 have ae:∀(fn:Fn) (first ab:Array Value) (w:ϟ),(Instr.makeFunc fn first ab).run prog w= .ok (.func fn first ab) w:=λ_ _ _ _=>rfl;have KJ:=hIz (λt (d:ϟ) (c:Ah R w d) (e:RR d R t) (E:ϲ t<=2000000)=>AaS R lim t d (h.go c e) E);have KG:=hIz (λt (d:ϟ) C (c:Ah R w d) (e:RR d R t) (L:RP d C R) (E:ϲ t<=2000000)=>AaQ R C t d (h.go c e) L E);have KC:=hIz (λt (d:ϟ) C (c:Ah R w d) (e:RR d R t) (L:RP d C R) (E:ϲ t<=2000000)=>AaR R C t d (h.go c e) L E);have A:=h.rr.lt;have r:=hV0 hm;have X:ϡ (RR w R s):=h.rr;clear h hm;go_enter func35,ntmps35;go_wp2_with fail;have a:=hy (EP.of ((((ES.base X.o).new ϥ [ω R] 71).new ϥ [Ϗ,ώ,ώ,Ϗ,ώ,ώ,Ϗ,Ϗ,Ϗ,ώ,ώ] 42).new ϥ [Ϗ,ώ,ώ,Ϗ,ώ,ώ,Ϗ,Ϗ,Ϗ,ώ,ώ] 42));generalize World.alloc (World.alloc (World.alloc w _) _) _=V at a⊢;clear X;refine(KJ.o s V a.o.es.keep a.o.es.rr r.o).mono ?_;rintro o d ⟨c,⟨j,t,v,p,rfl,rfl,⟨z,rfl,n⟩,e⟩|⟨D,v,rfl⟩⟩
 rotate_left
 ·exact⟨rfl,a.o.es.keep.trans c,.inr ⟨D.fst.eg,_,rfl⟩⟩
 have G:=hV0 p;replace r:ϡ (ϲ t<=2000000):=by have:=r.o;rw[lAp]at this;show _<=_;omega
 replace a:=hy ((a.o.call Ϥ A c e).add (SO z j) n a.o.size);rw[AU];have Z:ϡ (d.there (w.heap.size+1+1) 0 9):=λi hi=>(a.o.es.blk 2 _ rfl).1.there i Ϩ;clear p n c e KJ;go_upto_region 3 with((with_reducible refine Ft ?_ 38 (.tmp 9) (.tmp 8) ?_ (w.heap.size+1+1) 0 (Ψ j z) ?_ ?_ ?_ ?_ ?_ ?_);exact rfl;exact rfl;exact rfl;exact rfl;exact Z.o;exact AdC;exact Ϭ);replace a:=hy (a.o.sets 42 Ϥ A 2 (N:=w.heap.size+1+1) rfl rfl (Γ j z) ϥ);generalize World.setCells d (w.heap.size+1+1) 0 (Γ j z)=S1 at a⊢;have u:ϡ (RP S1 w.heap.size R):=⟨(a.o.es.blk 0 _ rfl).1.cell 0 _ rfl,ϣ,(a.o.es.blk 0 _ rfl).1.lt⟩;have H:=u.o.cell;clear Z;go_wp2_with fail;refine(KG.o t S1 w.heap.size a.o.es.keep a.o.es.rr u.o r.o).mono ?_;rintro o w2 ⟨c,⟨K,t2,v,p,rfl,rfl,⟨f,g,M,rfl,n⟩,e⟩|⟨D,v,rfl⟩⟩
 rotate_left
 ·exact⟨rfl,a.o.es.keep.trans c,.inr ⟨((D.fst).snd (SL _) G.o).eg,_,rfl⟩⟩
 have HY:=hV0 p;replace r:ϡ (ϲ t2<=2000000):=by have:=r.o;rw[lAp]at this;show _<=_;omega
 replace a:=hy ((a.o.call Ϥ A c e).add (Bu Gd _ _ _) n a.o.size);obtain⟨m,y⟩:=nM (ϲ K);have O:=hV0 y;rw[y]at a⊢;have I:=(a.o.es.blk 2 _ rfl).1.cell 9 _ rfl;have J:=(a.o.es.blk 2 _ rfl).1.frz 9;clear p n c e y KG u H;go_upto_region 4 with fail;generalize B:World.setCell w2 _ _=S2;replace a:=hy (a.o.put 42 Ϥ B A 2 rfl rfl ϥ);clear I J B;have u:ϡ (RP S2 w.heap.size R):=⟨(a.o.es.blk 0 _ rfl).1.cell 0 _ rfl,ϣ,(a.o.es.blk 0 _ rfl).1.lt⟩;have H:=u.o.cell;go_wp2_with fail;refine(KC.o t2 S2 w.heap.size a.o.es.keep a.o.es.rr u.o r.o).mono ?_;rintro o w3 ⟨c,⟨vs,t3,v,p,rfl,rfl,⟨k,l,su,rfl,n⟩,e⟩|⟨D,v,rfl⟩⟩
 rotate_left
 ·exact⟨rfl,a.o.es.keep.trans c,.inr ⟨((D.snd LY.lst HY.o).snd (SL _) G.o).eg,_,rfl⟩⟩
 have HZ:=hV0 p;replace a:=hy ((a.o.call Ϥ A c e).add (Bu I7 _ _ _) n a.o.size);obtain⟨q,y⟩:=nM (ϲ vs);have aa:=hV0 y;rw[y]at a⊢;have I:=(a.o.es.blk 2 _ rfl).1.cell 10 _ rfl;have J:=(a.o.es.blk 2 _ rfl).1.frz 10;clear p n c e y KC u H;go_upto_region 5 with fail;generalize B:World.setCell w3 _ _=x;replace a:=hy (a.o.put 42 Ϥ B A 2 rfl rfl ϥ);clear I J B;have d0:=(a.o.es.blk 2 _ rfl).1.cell 0 _ rfl;have d1:=(a.o.es.blk 2 _ rfl).1.cell 1 _ rfl;have d2:=(a.o.es.blk 2 _ rfl).1.cell 2 _ rfl;have d3:=(a.o.es.blk 2 _ rfl).1.cell 3 _ rfl;have d4:=(a.o.es.blk 2 _ rfl).1.cell 4 _ rfl;have d5:=(a.o.es.blk 2 _ rfl).1.cell 5 _ rfl;have d6:=(a.o.es.blk 2 _ rfl).1.cell 6 _ rfl;have d7:=(a.o.es.blk 2 _ rfl).1.cell 7 _ rfl;have d8:=(a.o.es.blk 2 _ rfl).1.cell 8 _ rfl;have d9:=(a.o.es.blk 2 _ rfl).1.cell 9 _ rfl;have ad:=(a.o.es.blk 2 _ rfl).1.cell 10 _ rfl;have Y:ϡ (x.there (w.heap.size+1) 0 11):=(a.o.es.blk 1 _ rfl).1.there;have F:ϡ (RR (World.setCells x (w.heap.size+1) 0 (ν j z.l z.r [vS f m g,vS k q l])) R t3/\Ah R w (World.setCells x (w.heap.size+1) 0 (ν j z.l z.r [vS f m g,vS k q l]))/\OE1 ⟨z,f,g,M.map (·.1),k,l⟩ M su ⟨j,K,vs⟩ (World.setCells x (w.heap.size+1) 0 (ν j z.l z.r [vS f m g,vS k q l])) w.heap.size):=
  ⟨a.o.es.rr.sets ϣ _ _,Dd a.o.es.keep (PS _) _ _,(I8 _ _ _ _).sets (T:=42) Ϥ _ 0 x ⟨a.o.p.1.1.2,by dsimp only;rw[O.o];exact a.o.p.1.2,by dsimp only;rw[aa.o];exact a.o.p.2⟩ (a.o.es.blk 1 _ rfl).2⟩
 have U:ϡ ((World.setCells x (w.heap.size+1) 0 (ν j z.l z.r [vS f m g,vS k q l])).rangeAt (w.heap.size+1) 0 (ν j z.l z.r [vS f m g,vS k q l])):=Wf _ _ _ _ Y.o;go_wp2_with ((with_reducible refine Ft ?_ 42 (.tmp 4) (.tmp 18) ?_ (w.heap.size+1) 0 (ζ j z.l z.r [vS f m g,vS k q l]) ?_ ?_ ?_ ?_ ?_ ?_);exact rfl;exact rfl;exact rfl;exact rfl;exact Y.o;exact E9;exact Ϭ);generalize (World.setCells x (w.heap.size+1) 0 (ν j z.l z.r [vS f m g,vS k q l]))=W' at U F⊢;obtain⟨z0,z1,z2,z3,z4,z5,z6,z7,z8,z9,ac⟩:=TU U.o;exact CD (v:=.agg (ζ j z.l z.r [vS f m g,vS k q l])) (by simp[results,results35,go_sem,z0,z1,z2,z3,z4,z5,z6,z7,z8,z9,ac]) rfl ⟨F.o.2.1,.inl ⟨⟨j,K,vs⟩,t3,_,⟨G.o,HY.o,HZ.o⟩,by rw[NC];simp only[Vh,Vg,cat,Bx],rfl,⟨_,M,su,by unfold egV egC;dsimp only;rw[O.o,aa.o],rfl,F.o.2.2⟩,F.o.1⟩⟩
end cd
