import Derived.Test.YtfkihidbnfkbaaaGreatDoorPv44
set_option linter.all false
set_option maxHeartbeats 8000000
set_option maxRecDepth 100000
open List renaming length->ϲ
namespace Go.Proofs.YtfkihidbnfkbaaaGreatDoor
open ChangeShapes WideShapes ChangeAt RowKit List Proofs.Tryz
namespace cd
open vl bf bt
variable {m : Nat} {s : List UInt8} {b : Bool}
def LI.few{α:Type}{f:α->List UInt8}{ok:α->Prop}{l:List α}{u:List UInt8}(c:∀x,8<=ϲ (f x))(h:LI f ok m l s b u false)(i:ϲ s<=2000000):ϲ u<=2000000/\(ϲ l)<=1000000:=by
 have d:=h.1;have a:=Bk List.length (h.2.1 rfl).2.1;have g:=Ee c l;rw[lAp,lAp]at a;exact⟨ϣ,ϣ⟩
def LI.begin{α:Type}{f:α->List UInt8}{ok:α->Prop}{t:List UInt8}{a:Bool}(c:∀x,8<=ϲ (f x))(d:ϲ t<=ϲ s)(h:a=false->b=false/\s=AM m++t)(k:a=true->m=0/\(b=true\/E7 s)):LI f ok m [] s b t a:=LI.start (λx _=>by have:=c x;omega) d h k
def PGi(v:Value)(n:Nat)(r:List Cel)(hs:List (Option Addr×Nat×Nat))(bs:List (List Tal))(sl:Value)(w:World)(b:Nat):Prop:=(True/\w.ownsRow b 119 3 v n (celCells r))/\OL 117 1 hdC PBg hs bs sl w b
def Aea:List TypeId:=([]++[119])++(117::([]++[121]))
def Aeb(v:Value)(n:Nat)(r:List Cel)(c:List (Option Addr×Nat×Nat))(a:List (List Tal))(d:Value):Dt Aea (PGi v n r c a d):=((DG _).and (Cp 119 3 v _ _)).and (Bu Ew _ _ _)
theorem YZ(R:Nat)(s:List UInt8)(b:Bool)(w:ϟ)(h:EY w R s b)(hm:ϲ s<=2000000):
 χ 39 #[ω R] w (Ye (lst AX) (okL El) (VGs w.heap.size) R s b w):=by
 have KC:=hIz (λu bb (A:ϟ) (Q:EY A R u bb) (hl:ϲ u<=2000000)=>Gw R u bb A Q ϣ);have KR:=hIz (λu bb (A:ϟ) (Q:EY A R u bb) (hl:ϲ u<=2000000)=>LG R u bb A Q ϣ);have KN:=hIz (λu bb (A:ϟ) (Q:EY A R u bb) (hl:ϲ u<=2000000)=>Jm R u bb A Q ϣ);have KO:=hIz (λu bb (A:ϟ) (Q:EY A R u bb) (hl:ϲ u<=2000000)=>Ad9 R u bb A Q hl);have HM:=hV0 hm;have HW:=hV0 h;clear h hm;go_enter func39,ntmps39;go_wp2_with fail;refine(KC.o s b w HW.o HM.o).mono ?_;rintro e A ⟨bi,m,t,b1,rfl,bw,M,ag,K,L⟩;have HS:ϡ (LI AX El m [] s b t b1/\m<=2000000):=⟨LI.begin X4 M K L,by have:=HM.o;omega⟩;have bh:ϡ (EY A R t b1/\Ah R w A):=⟨bw,bi⟩;clear bi bw M ag K L;go_wp2
 go_loopw [3,4] (λv i wr=> ∃(j:Nat) (B:List gr.Grp) (st:List (gr.GX×gr.Grp)) (u:List UInt8) (bb:Bool),ϲ B+j=m/\i=vI j/\OL 102 3 P9 PGr st B v wr w.heap.size/\EY wr R u bb/\Ah R w wr/\LI AX El m B s b u bb) (λ_ i _=>(intOf i).toNat)
 case atStart=>exact⟨m,[],[],t,b1,Fr _,rfl,OL.nil ..,bh.o.1,bh.o.2,HS.o.1⟩
 case round=>
  obtain⟨j,B,st,u,bb,ck,rfl,ah,U,af,bp⟩:=hrel;obtain⟨X,rfl⟩:∃z,z=wr:=⟨_,rfl⟩;have l:ϡ (OL 102 3 P9 PGr st B u3 X w.heap.size/\EY X R u bb/\Ah R w X/\LI AX El m B s b u bb/\(ϲ B)+j=m):=⟨ah,U,af,bp,ck⟩;have c1:=U.c1;clear ah U af bp;by_cases az:0<j/\bb=false
  rotate_left
  ·have HT:ϡ (YP (lst AX) (okL El) B s b u bb):=l.o.2.2.2.1.done (by have:=HS.o.2;omega) (λe=>by
    have:¬0<j:=λk=>az ⟨k,e⟩;have:=l.o.2.2.2.2;omega)
   have ae:¬(j:Int)>0\/((j:Int)>0/\bb=true):=by
    by_cases h0:0<j
    ·exact .inr ⟨ϣ,by cases bb with
      |true=>rfl
      |false=>exact absurd ⟨h0,rfl⟩ az⟩
    ·exact .inl ϣ
   obtain⟨ad,cf,rfl⟩:=l.o.1.form;rcases ae with i1|⟨i1,rfl⟩
   all_goals
    go_wp2;go_ret;exact⟨l.o.2.2.1,B,_,u,_,rfl,⟨ad,cf,st,rfl,l.o.1⟩,l.o.2.1,HT.o⟩
  obtain⟨h0,rfl⟩:=az;have i1:(j:Int)>0:=ϣ;have av:=hy (l.o.2.2.2.1.few X4 HM.o);go_wp2_with fail;clear c1;refine(KR.o u false X l.o.2.1 av.o.1).mono ?_;rintro e w2 ⟨bj,r,v,t2,b2,rfl,⟨p,q,rfl,bu⟩,bx,a5⟩;have G:=hy (((YS.base l.o.2.1).call ϥ bj bx).add (Cp 119 3 (vS p (ϲ r) q) _ _) bu nR);have ar:ϡ (YP Ck rowOk r u false t2 b2/\(ϲ t2)<=2000000):=⟨a5,by have:=a5.1;have:=av.o.1;omega⟩;clear bj bu bx a5;go_wp2_with fail;refine(KN.o t2 b2 w2 G.o.ey ar.o.2).mono ?_;rintro e w3 ⟨bk,o,v3,t3,b3,rfl,rfl,bz,a6⟩;replace G:=hy ((G.o.call Ϥ bk bz).new [vS p (ϲ r) q,vI o,ώ] 102);have ak:ϡ (YP AM okN o t2 b2 t3 b3/\(ϲ t3)<=2000000):=⟨a6,by have:=a6.1;have:=ar.o.2;omega⟩;clear bk bz a6;obtain⟨N,hN⟩:=nM w3.heap.size;obtain⟨E,a9⟩:=nM (ϲ r);have bg:=hV0 a9;rw[hN,a9]at G;go_wp2_with fail;generalize World.alloc w3 _=V at G⊢;clear hN a9;refine(KC.o t3 b3 V G.o.ey ak.o.2).mono ?_;rintro e w4 ⟨bm,m2,t4,b4,rfl,b0,M,ag,K,L⟩;have al:ϡ (LI B6 Gx m2 [] t3 b3 t4 b4/\m2<=2000000):=⟨LI.begin WS M K L,by have:=ak.o.2;omega⟩;replace G:ϡ (YS Aea (PGi (vS p E q) E r [] [] (vS none 0 0)) X R t4 b4 w4 [(N,102,[vS p E q,vI o,ώ])]):=(G.o.call Ϥ bm b0).add (Bu Ew [] [] (vS none 0 0)) (OL.nil _ _ _ _ _ _) nR;clear bm b0 M ag K L;go_wp2
  go_loopw [6] (λi W=> ∃(C:Nat) (a:List (List Tal)) (hs:List (Option Addr×Nat×Nat)) (sl:Value) (u:List UInt8) (bb:Bool),ϲ a+C=m2/\i=vI C/\YS Aea (PGi (vS p E q) E r hs a sl) X R u bb W [(N,102,[vS p E q,vI o,sl])]/\LI B6 Gx m2 a t3 b3 u bb) (λi _=>(intOf i).toNat)
  case atStart=>exact⟨m2,[],[],_,t4,b4,Fr _,rfl,G.o,al.o.1⟩
  case round=>
   obtain⟨C,a,hs,sl,u2,P,cl,rfl,bc,bq⟩:=hrel;obtain⟨Y,rfl⟩:∃z,z=wr:=⟨_,rfl⟩;have d:ϡ (YS Aea (PGi (vS p E q) E r hs a sl) X R u2 P Y [(N,102,[vS p E q,vI o,sl])]/\LI B6 Gx m2 a t3 b3 u2 P/\(ϲ a)+C=m2):=⟨bc,bq,cl⟩;have c1:=bc.ey.c1;clear bc bq;by_cases a0:0<C/\P=false
   rotate_left
   ·have HT:ϡ (YP (lst B6) (okL Gx) a t3 b3 u2 P):=d.o.2.1.done (by have:=al.o.2;omega) (λe=>by
     have:¬0<C:=λk=>a0 ⟨k,e⟩;have:=d.o.2.2;omega)
    obtain⟨I,J,rfl⟩:=d.o.1.p.2.form;have cb:ϡ (YP AX El ⟨r,o,a⟩ u false u2 P):=YP.via (x:=(⟨r,o,a⟩:gr.Grp)) ptG (YP.cat D4 ar.o.1 (YP.cat Bn ak.o.1 HT.o)) P8 (λ_=>Iff.rfl);have ai:=hy ((Bu Gd st B u3).keptY Ϥ l.o.1 d.o.1.keep l.o.2.1.tb);have be:ϡ (Ah R w Y):=l.o.2.2.1.trans d.o.1.keep;have ae:¬(C:Int)>0\/((C:Int)>0/\P=true):=by
     by_cases h0:0<C
     ·exact .inr ⟨ϣ,by cases P with
       |true=>rfl
       |false=>exact absurd ⟨h0,rfl⟩ a0⟩
     ·exact .inl ϣ
    have z0:=(d.o.1.blk 0 _ rfl).2.1.cell 0 _ rfl;have z1:=(d.o.1.blk 0 _ rfl).2.1.cell 1 _ rfl;have z2:=(d.o.1.blk 0 _ rfl).2.1.cell 2 _ rfl;have cj:w.heap.size<=Y.heap.size:=be.o.1.size;have ap:w.heap.size<=X.heap.size:=l.o.2.2.1.1.size;have cn:ϲ B<=1000000:=av.o.2;have cs:IntKind.i64.wrap ((j:Int) - 1)=((j - 1:Nat):Int):=by have:=l.o.2.2.2.2;have:=HS.o.2;rw[RW];omega
    have bd:ϡ (P9 (⟨p,q,I,J,hs⟩,⟨r,o,a⟩)=[vS p E q,vI o,vS I (ϲ a) J]/\OG1 ⟨p,q,I,J,hs⟩ ⟨r,o,a⟩ Y w.heap.size):=by
     refine⟨by unfold P9;dsimp only;rw[bg.o],World.ownsRow.mono ?_ ap,(Bu Ew _ _ _).mono d.o.1.p.2 ap⟩;dsimp only;rw[bg.o];exact d.o.1.p.1.2
    rcases ae with i2|⟨i2,rfl⟩
    all_goals
     go_wp2_with (at_builtin;refine Dw rfl (.tmp 67) (.tmp 69) 102 39 rfl (.agg #[ώ,Ϗ,ώ]) 3 56 underlying39 Ad4 rfl Ϥ Ϥ w.heap.size u3 _ [vS p E q,vI o,vS I (ϲ a) J] Y (ϲ B) ai.o.own rfl Ϭ cn cj rfl rfl ?_;intro g ao w8 ab F);have ba:=OL.snoc Gd Ϥ (y:=(⟨p,q,I,J,hs⟩,⟨r,o,a⟩)) (x:=⟨r,o,a⟩) ai.o ⟨rfl,bd.o.2⟩ F (by rw[bd.o.1];exact ab);have a4:u3.ownBlock≠some R:=λe=>tyAt_apart d.o.1.ey.tb (Az ai.o.own e) Ϥ rfl;have a8:=d.o.1.ey.grown F a4;have a3:=Cy be.o F (λg e=>(AL ai.o.own e).1);go_wp2;go_roundw;exact⟨j - 1,B++[⟨r,o,a⟩],_,u2,_,by have:=l.o.2.2.2.2;rw[lAp,bV];omega,rfl,ba,a8,a3,l.o.2.2.2.1.step LY (by have:=HS.o.2;omega) (by have:=l.o.2.2.2.2;omega) cb.o⟩;simp[intOf];omega
   obtain⟨cq,rfl⟩:=a0;have i2:(C:Int)>0:=ϣ;have an:=hy (d.o.2.1.few WS ak.o.2);go_wp2_with fail;clear c1;refine(KC.o u2 false Y d.o.1.ey an.o.1).mono ?_;rintro e O ⟨bn,m3,t5,b5,rfl,b8,M,ag,K,L⟩;have am:ϡ (LI BC FW m3 [] u2 false t5 b5/\m3<=2000000):=⟨LI.begin Sq M K L,by have:=an.o.1;omega⟩;have ax:=hy (d.o.1.call Ϥ bn b8);clear bn b8 M ag K L;go_wp2
   go_loopw [7,8] (λv i W=> ∃(D:Nat) (f st3:List Tal) (u:List UInt8) (bb:Bool),ϲ f+D=m3/\i=vI D/\OL 121 4 Uq PTl st3 f v W O.heap.size/\EY W R u bb/\Ah R O W/\LI BC FW m3 f u2 false u bb) (λ_ i _=>(intOf i).toNat)
   case atStart=>exact⟨m3,[],[],t5,b5,Fr _,rfl,OL.nil ..,ax.o.ey,Ah.refl _ _,am.o.1⟩
   case round=>
    obtain⟨D,f,st3,u4,aa,cm,rfl,ah,U,af,br⟩:=hrel;obtain⟨Z,rfl⟩:∃z,z=wr:=⟨_,rfl⟩;have n:ϡ (OL 121 4 Uq PTl st3 f u7 Z O.heap.size/\EY Z R u4 aa/\Ah R O Z/\LI BC FW m3 f u2 false u4 aa/\(ϲ f)+D=m3):=⟨ah,U,af,br,cm⟩;have c1:=U.c1;clear ah U af br;by_cases a1:0<D/\aa=false
    rotate_left
    ·have HT:ϡ (YP B6 Gx f u2 false u4 aa):=n.o.2.2.2.1.done (by have:=am.o.2;omega) (λe=>by
      have:¬0<D:=λk=>a1 ⟨k,e⟩;have:=n.o.2.2.2.2;omega)
     obtain⟨I,J,rfl⟩:=n.o.1.form;have cc:=hy (AcL n.o.1);have H:=hy (ax.o.call Ϥ n.o.2.2.1 n.o.2.1);have ae:¬(D:Int)>0\/((D:Int)>0/\aa=true):=by
      by_cases h0:0<D
      ·exact .inr ⟨ϣ,by cases aa with
        |true=>rfl
        |false=>exact absurd ⟨h0,rfl⟩ a1⟩
      ·exact .inl ϣ
     have z2:=(H.o.blk 0 _ rfl).2.1.cell 2 _ rfl;have ap:X.heap.size<=Z.heap.size:=H.o.keep.1.size;have cg:X.heap.size<=O.heap.size:=ax.o.keep.1.size;have co:ϲ a<=1000000:=an.o.2;have ct:IntKind.i64.wrap ((C:Int) - 1)=((C - 1:Nat):Int):=by have:=d.o.2.2;have:=al.o.2;rw[RW];omega
     rcases ae with i3|⟨i3,rfl⟩
     all_goals
      go_wp2_with (at_builtin;refine Dw rfl (.tmp 62) (.tmp 64) 117 100 rfl (vS none 0 0) 1 24 underlying100 Ym rfl Ϥ Ϥ X.heap.size sl _ [vS I (ϲ f) J] Z (ϲ a) H.o.p.2.own rfl Ϭ co ap rfl rfl ?_;intro g ao w8 ab F;have ay:=hy (H.o.grown F 117 Ϥ (λg e=>⟨(AL H.o.p.2.own e).1,Az H.o.p.2.own e⟩) (λk c e=>by have:=eD e;simp at this;rcases this with rfl;exact(by decide:(102:TypeId)≠117)) (Aeb (vS p E q) E r (hs++[(I,ϲ f,J)]) (a++[f]) (vS (ϋ g) (ϲ a+1) ao)) ⟨⟨trivial,(Cp _ _ _ _ _).grown (T:=117) Ϥ H.o.p.1.2 F (λg e=>Az H.o.p.2.own e)⟩,OL.snoc Ew Ϥ (y:=(I,ϲ f,J)) (x:=f) H.o.p.2 ⟨rfl,World.ownsRow.mono cc.o cg⟩ F ab⟩);have z2:=(ay.o.blk 0 _ rfl).2.1.cell 2 _ rfl;have f2:=(ay.o.blk 0 _ rfl).2.1.frz 2;clear ab F);have cd:=hy (ay.o.put 0 (S:=w8.setCell ⟨N,2,none⟩ (vS (ϋ g) (ϲ a+1) ao)) rfl rfl Ϥ ϥ);generalize World.setCell w8 _ _=w9 at *;go_wp2;go_roundw;exact⟨C - 1,a++[f],_,_,u4,_,by have:=d.o.2.2;rw[lAp,bV];omega,rfl,cd.o,d.o.2.1.step Sr (by have:=al.o.2;omega) (by have:=d.o.2.2;omega) HT.o⟩;simp[intOf];omega
    obtain⟨cr,rfl⟩:=a1;have i3:(D:Int)>0:=ϣ;have aw:=hy (n.o.2.2.2.1.few Sq an.o.1);go_wp2_with fail;clear c1;refine(KO.o u4 false Z n.o.2.1 aw.o.1).mono ?_;rintro e w6 ⟨bo,c,v,t6,b6,rfl,rfl,b9,a7⟩;have ac:ϡ (Ah R Z w6/\EY w6 R t6 b6/\YP YC YD c u4 false t6 b6/\(ϲ t6)<=2000000):=⟨bo,b9,a7,by have:=a7.1;have:=aw.o.1;omega⟩;clear bo b9 a7;go_wp2_with fail;refine(KN.o t6 b6 w6 ac.o.2.1 ac.o.2.2.2).mono ?_;rintro e w7 ⟨a2,n7,v7,t7,b7,rfl,rfl,ca,bv⟩;have aq:ϡ (Ah R Z w7/\Ah R O w7):=⟨ac.o.1.trans a2,n.o.2.2.1.trans (ac.o.1.trans a2)⟩;have aj:=hy ((Bu LH st3 f u7).keptY Ϥ n.o.1 aq.o.1 n.o.2.1.tb);have au:ϡ (EY w7 R t7 b7/\YP BC FW (c,n7) u4 false t7 b7):=⟨ca,YP.cat Af1 ac.o.2.2.1 bv⟩;have ci:O.heap.size<=w7.heap.size:=aq.o.2.1.size;have cp:ϲ f<=1000000:=aw.o.2;have cu:IntKind.i64.wrap ((D:Int) - 1)=((D - 1:Nat):Int):=by have:=n.o.2.2.2.2;have:=am.o.2;rw[RW];omega
    clear a2 ca bv;go_wp2_with (at_builtin;refine Dw rfl (.tmp 53) (.tmp 59) 121 117 rfl (.agg #[Ϗ,Ϗ,ϐ,Ϗ]) 4 40 underlying117 AfN rfl Ϥ Ϥ O.heap.size u7 _ [vI c.k,vI c.n,.string c.s,vI n7] w7 (ϲ f) aj.o.own rfl Ϭ cp ci rfl rfl ?_;intro g ao w8 ab F);have ba:=OL.snoc LH Ϥ (y:=(c,n7)) (x:=(c,n7)) aj.o rfl F ab;have a4:u7.ownBlock≠some R:=λe=>tyAt_apart au.o.1.tb (Az aj.o.own e) Ϥ rfl;have a8:=au.o.1.grown F a4;have a3:=Cy aq.o.2 F (λg e=>(AL aj.o.own e).1);go_wp2;go_roundw;exact⟨D - 1,f++[(c,n7)],_,t7,b7,by rw[lAp,bV];omega,rfl,ba,a8,a3,n.o.2.2.2.1.step Sp (by have:=am.o.2;omega) (by have:=n.o.2.2.2.2;omega) au.o.2⟩;simp[intOf];omega
end cd
namespace cd
open vl bf bt jn
variable {lim : Int} {s u : List UInt8} {bb : Bool} {e : Egg}
theorem YP.eg{L a:Buf}{d g h:Int}{q:List gr.Grp}{p:List ch.Cnt}{r t v w i x:List UInt8}{b j k l n c o:Bool}(h1:YP BV (Ie lim) L s b r j)(y:YP BV (Ie lim) a r j t k)(z:YP AM okN d t k v l)(A:YP AM okN g v l w n)(B:YP AM okN h w n i c)(C:YP (lst AX) (okL El) q i c x o)(D:YP (lst Cf) (okL JU) p x o u bb):YP C0 (Fv lim) ⟨⟨L,a,d,g,h⟩,q,p⟩ s b u bb:=
 have E:YP GI (Vf lim) ⟨L,a,d,g,h⟩ s b i c:=YP.via (f:=AdB) (ok:=AgF lim) ptJ (YP.cat (Fu lim) h1 (YP.cat (Fu lim) y (YP.cat Bn z (YP.cat Bn A B)))) NA (λ_=>Iff.rfl)
 YP.via (f:=Vh) (ok:=AdD lim) Vg (YP.cat (SL lim) E (YP.cat LY.lst C D)) NC (λ_=>Iff.rfl)
theorem AfY(h:YP C0 (Fv lim) e s false u bb)(f:bb=true\/u≠[])(x:Egg)(c:Fv lim x)(a:s=C0 x):False:=by
 cases bb with
 |true=>exact(h.2.2 rfl).elim (λe=>by cases e) λk=>k x [] c (by rw[Nd];exact a)
 |false=>
  obtain⟨_,g,d⟩:=h.2.1 rfl;exact f.elim (λe=>by cases e) λi=>i (MH lim x e [] u c g (by rw[Nd,<-a,d])).2.symm
def XI{b:Buf}(h:Ie lim b)(z:Ent)(a:z∈Ab b):Dg z/\z.key.size<=ϲ (BV b):=by
 obtain⟨l,c,a⟩:=Th.1 a;have d:=JQ (f:=AD) a;have g:ϲ (lst AD l)=8+ϲ (l.flatMap AD):=by unfold lst;rw[lAp,As]
 have i:z.key.size<=ϲ (AD z):=by
  unfold AD;simp only[lAp,JA,A2];omega
 have j:ϲ (BV b)=ϲ (lst AD b.mem)+ϲ (lst (lst AD) b.runs):=by rw[Ju];unfold Ad6 ptB cat;rw[lAp]
 rcases E3.1 c with rfl|c
 ·exact⟨h.2.1.2 z a,ϣ⟩
 ·have k:=JQ (f:=lst AD) c;have n:ϲ (lst (lst AD) b.runs)=8+ϲ (b.runs.flatMap (lst AD)):=by unfold lst;rw[lAp,As]
  exact⟨(h.2.2.2 l c).2 z a,ϣ⟩
def Aby(h:Fv lim e)(c:ϲ (C0 e)<=1048576)(z:Ent)(a:z∈Ab e.j.L++Ab e.j.R):wfE z/\z.key.size<=140737488355328/\(ϲ z.row)<=2000000:=by
 have d:=GG h c;unfold C0 GI at c;simp only[lAp]at c;rcases Fk.1 a with a|a
 ·have k:=XI h.1.1 z a;exact⟨(d.j.l.ents z a).1,ϣ,by have:=k.1.2.2.2.1;omega⟩
 ·have k:=XI h.1.2.1 z a;exact⟨(d.j.r.ents z a).1,ϣ,by have:=k.1.2.2.2.1;omega⟩
end cd
