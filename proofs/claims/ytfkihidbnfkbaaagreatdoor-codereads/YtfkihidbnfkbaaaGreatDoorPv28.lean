import Derived.Test.YtfkihidbnfkbaaaGreatDoorPv27
set_option linter.all false
set_option maxHeartbeats 8000000
set_option maxRecDepth 100000
open List renaming length->ϲ
namespace Go.Proofs.YtfkihidbnfkbaaaGreatDoor
open ChangeShapes WideShapes ChangeAt RowKit List Proofs.Tryz
namespace jn
open vl bf
attribute [local go_sem] Oper.semAt_some
variable {side : Int} {p : pl.Pln}
def toldOf(p:pl.Pln)(v:Ev)(e:Ent):List ch.Chg:=if Eo p.mode (3 - v.side)=true/\e.met=false then [⟨3,Ce p (3 - v.side) e.row⟩,⟨4,DT v.side v.row e.row⟩]else [⟨1,DT v.side v.row e.row⟩]
def pairT(p:pl.Pln)(v:Ev)(l:List Ent):List ch.Chg:=l.flatMap (toldOf p v)++if l.isEmpty=true/\Eo p.mode v.side=true then [⟨1,Ce p v.side v.row⟩]else []
def Un(p:pl.Pln)(s:Jn)(v:Ev):DX p s v=pairT p v (DW p s v (Hg p v) (toJ p v)):=rfl
def WM(h:pl.Bw side=true):pl.Bw (3 - side)=true/\3 - (3 - side)=side:=by
 rcases side_is h with rfl|rfl<;>exact⟨Ϥ,Ϥ⟩
def DC{α β:Type}(f:α->List β){l:List α}{k:Nat}{d:α}(h:k<ϲ l):(l.take (k+1)).flatMap f=(l.take k).flatMap f++f (l.getD k d):=by
 rw[M1 h,SN,gDe,gEe h];simp
def QF{r:List Cel}(h:pl.Bm p side r=0):0<ϲ r/\(ϲ r)<=400:=by
 have a:=pl.F8 h;have b:=AcP a.1 side;rw[a.2.2.1];omega
def Uo{s:Jn}(h:goodJ p s)(d:pl.Bw side=true){y:Ent}(hy:y∈Ab (Ar s side)):pl.Bm p side y.row=0:=by
 have b:∀{c:Int},FZ p c y=true->pl.Bm p c y.row=0:=λa=>by
  unfold FZ at a;simp only[G3]at a;exact Fd a.1.1
 rcases side_is d with rfl|rfl
 ·exact b (h.ok.rowL y hy)
 ·exact b (h.ok.rowR y hy)
theorem AcG(b:Nat)(T:TypeId)(p:pl.Pln)(x:pl.PA)(s:Jn)(y:JX)(v:Ev)(G:Ϡ)(J:Nat)(fr u:Int)(D w:ϟ)(h:JSt D w b T p x s y (vS none 0 0) [])(hT:calmC T)(bi:T≠208)(hg:goodJ p s)(hs:pl.Bw v.side=true)(hv:vl.rowAt D G v.row)(he:pl.Bm p v.side v.row=0):
 χ 346 #[ω b,Ep p v G J,vI fr,vI u] w λe d=>e= .returned (.bool (!(DW p s v fr u).isEmpty))/\∃N M m,JSt D d b T p x (AP s (3 - v.side) (DL ((DW p s v fr u).map (·.seq)) (Ar s (3 - v.side)))) N M m/\m.map CO.chg=pairT p v (DW p s v fr u)/\Cv T w d:=by
 have hp:=(pl.F8 he).1;have ho:=WM hs;have ar:=QF he;have HJ:=hV0 h;have HG:ϡ (goodJ p s/\okB (Ar s (3 - v.side))/\∀z∈Ab (Ar s (3 - v.side)),wfE z/\wfP (AJ z)):=⟨hg,hg.of _⟩;have KO:=hIz (λ(c:ϟ)=>JM v.side c hs);have b2:∀c s y t L,JSt D c b T p x s y t L->bufAt c (Ar s (3 - v.side)) (BZ y (3 - v.side)):=λc s y t L hj=>by
  unfold Ar BZ;split
  ·exact hj.r.at
  ·exact hj.l.at
 have KW:ϡ (∀c,Ϣ w c->CT 352 #[ω b,Ep p v G J,vI fr,vI u] c λe d=>(∃hh Z,e= .returned (hdV hh)/\OE d c (hdV hh) Z (DW p s v fr u))/\Ϣ c d):=λc o=>Ux b p x s y _ v G J fr u c hs (HJ.o.below o).box (b2 _ _ _ _ _ (HJ.o.below o)) HG.o.2.1 HG.o.2.2;have KP:=hIz (λside (c:ϟ)=>AaJ p.mode side c);have KJ:=hIz (λ(q:List Cel) (qa:Ϡ) (qc:Nat) (c:ϟ) (h1:0<ϲ q) (h2:ϲ q<=400) (o:Ϣ D c) (hq:vl.rowAt c qa q)=>EJ v.side G qa J qc v.row q c ar.1 h1 ar.2 h2 (vl.Ac hv o) hq);have KA:=hIz (λ(q:List Cel) (qa:Ϡ) (qc:Nat) (c:ϟ) (h1:0<ϲ q) (h2:ϲ q<=400) (o:boxP c b p x) (hq:vl.rowAt c qa q)=>QL b p x (3 - v.side) qa qc q c hp ho.1 o hq h1 h2);have bd:=hIz (λ(c:ϟ) (o:boxP c b p x) (am:Ϣ D c)=>QL b p x v.side G J v.row c hp hs o (vl.Ac hv am) ar.1 ar.2);have bp:ϡ (∀k,k<ϲ (DW p s v fr u)->(0<ϲ ((DW p s v fr u).getD k default).row/\(ϲ ((DW p s v fr u).getD k default).row)<=400)):=λk hk=>QF (Uo hg ho.1 (Yr (Bc hk)));have HQ:ϡ (ϲ (DW p s v fr u)<=4096/\∀z∈DW p s v fr u,pl.i64 z.seq):=⟨Uw HG.o.2.1,λz g=>(HG.o.2.2 z (Yr g)).2.seq⟩;have HI:ϡ (∀z∈Ab (Ar s (3 - v.side)),pl.i64 z.seq):=λz g=>(HG.o.2.2 z g).2.seq;have a1:ϡ (∀e,toldOf p v e=if Eo p.mode (3 - v.side)=true/\e.met=false then [⟨3,Ce p (3 - v.side) e.row⟩,⟨4,DT v.side v.row e.row⟩]else [⟨1,DT v.side v.row e.row⟩]):=λe=>rfl;have ae:ϡ (pairT p v (DW p s v fr u)=(DW p s v fr u).flatMap (toldOf p v)++if (DW p s v fr u).isEmpty=true/\Eo p.mode v.side=true then [⟨1,Ce p v.side v.row⟩]else []):=rfl;have cf:=h.bl;obtain⟨f,bw⟩:=nM (DW p s v fr u);rw[bw]at KW bp HQ ae⊢;obtain⟨PT,bx⟩:=nM (pairT p v f);rw[bx]at ae⊢;unfold Ep at KW⊢;obtain⟨kb,h1⟩:=nM (pl.A0 p v.side v.row);obtain⟨kh,h2⟩:=nM (pl.hasB p v.side v.row);obtain⟨rl,a8⟩:=nM (ϲ v.row);have cd:=hV0 a8;rw[h1,h2,a8]at KW⊢;rw[a8]at KJ bd
 obtain⟨r,bn⟩:=nM (3 - v.side);have cc:=hV0 bn;rw[bn]at KO KA HI HG a1⊢;obtain⟨j,b3⟩:=nM v.side;obtain⟨md,a7⟩:=nM p.mode;have a9:ϡ (∀c s y t L,JSt D c b T p x s y t L->Δ c b 1 (vI md)):=λc s y t L hj=>by rw[<-a7];exact hj.box.plan.2.1
 obtain⟨c1,bj⟩:=nM (Eo p.mode r);obtain⟨c2,bk⟩:=nM (Eo p.mode v.side);have bh:ϡ (∀c,CT 354 #[vI md,vI r] c λe d=>e= .returned (.bool c1)/\d=c):=λc=>by rw[<-bj,<-a7];exact KP.o r c
 have bu:ϡ (∀c,CT 354 #[vI md,vI v.side] c λe d=>e= .returned (.bool c2)/\d=c):=λc=>by rw[<-bk,<-a7];exact KP.o v.side c
 rw[bj]at a1;rw[bk]at ae;rw[b3]at KO KJ bd KW bu a1 ae⊢;obtain⟨b5,b4⟩:=nM v.time;rw[b4]at KW⊢;clear h hg hs hv he hp ho ar bw h1 h2 a8 bn a7 bj bk b3 b4 b2 KP bx;obtain⟨n,hn⟩:=nM (ϲ f);have H:=hV0 hn;have ck:n<=4096:=by rw[<-hn];exact HQ.o.1
 clear hn;go_enter func346,ntmps346;go_wp2_with (first
  |(go_at_call 348;refine(KO.o _).mono ?_;rintro e w2 ⟨rfl,rfl⟩)
  |(go_at_call 352;refine(KW.o _ Ϯ).mono ?_;rintro e V ⟨⟨hh,Z,rfl,ho⟩,a4⟩;have q0:=cLz a4 (show Δ (ϊ w #[vI j,vI b5,vS G rl J,.string kb,.bool kh] 208) w 0 (vI j) by go_simp);have q2:=cLz a4 (show Δ (ϊ w #[vI j,vI b5,vS G rl J,.string kb,.bool kh] 208) w 2 (vS G rl J) by go_simp);have bb:ϡ (Am V w.heap.size 208):=Ak ⟨_,_,DE w _⟩ a4;have am:Ϣ w V:=Ϯ.trans (a4.mono ϥ);have ba:ϡ (OE V (w.heap.size+1) (hdV hh) Z f):=(by have:=ho;rw[D0]at this;exact this);clear ho;have ax:ϡ (hh.2.1=n):=(by show _=_;rw[<-H.o,<-ba.o.len];exact(GU (p:=(hh,Z)) ba.o).1.1);obtain⟨g1,g2,g3⟩:=hh;have ca:g2=n:=ax.o;subst ca;unfold hdV;dsimp only))
 go_loopw [24] (λi wr=> ∃(k:Nat) (M:Value) (m:List CO),k<=g2/\i=vI k/\ϡ (JSt D wr b T p x s y M m)/\ϡ (m.map CO.chg=(f.take k).flatMap (toldOf p v))/\(ϲ m)<=2 * k/\ϡ (EW T V wr)) (λi _=>g2 - (intOf i).toNat)
 case atStart=>exact⟨0,_,[],At _,rfl,HJ.o.below am,rfl,HU _,EW.refl _ _⟩
 case round=>
  obtain⟨k,M,m,hk,rfl,O,aw,cj,Q⟩:=hrel;have q0:=Q.o.cell bb.o bi.symm Ϥ q0;have q2:=Q.o.cell bb.o bi.symm Ϥ q2;have az:ϡ (Am wr w 208):=Q.o.ty bb.o bi.symm Ϥ;have ay:ϡ (OE wr (w.heap.size+1) (hdV (g1,g2,g3)) Z f):=Q.o.oe hT ba.o;have m1:=a9.o _ _ _ _ _ O.o;have lq:w.heap.size<wr.heap.size:=bLt _ _ q0;have lb:b<wr.heap.size:=O.o.box.lt;by_cases cb:k<g2
  ·have a6:k<ϲ f:=by rw[H.o];exact cb
   obtain⟨gb,cn,ea,x1,x2,x3,x4,x5⟩:=(GU (p:=((g1,g2,g3),Z)) ay.o).2 k (by rw[ay.o.len];exact a6);dsimp only at ea;subst ea;have af:=ay.o.ers.2 k a6;have ag:=bp.o k a6;have a0:ϡ ((f.take (k+1)).flatMap (toldOf p v)=(f.take k).flatMap (toldOf p v)++toldOf p v (f.getD k default)):=DC (toldOf p v) a6;have F:=a1.o (f.getD k default);obtain⟨E,hE⟩:=nM (f.getD k default);rw[hE]at af ag a0 F;obtain⟨⟨ek,et,a2,⟨I,r2,W⟩,em⟩,g⟩:∃z,Z.getD k default=z:=⟨_,rfl⟩;rw[g]at x1 x2 x3 x4 x5 af;unfold hdV at x4;dsimp only at x1 x2 x3 x4 x5;have b0:em=E.met:=af.met;have bo:r2=ϲ E.row:=af.len;have br:ϡ (vl.rowAt wr I E.row):=af.row;have aj:ϡ (∀c,Ϣ wr c->CT 353 (τ j G rl J I r2 W) c λe d=>(∃A B,e= .returned (vS A (ϲ (DT j v.row E.row)) B)/\AF d c (vS A (ϲ (DT j v.row E.row)) B) (DT j v.row E.row))/\Ϣ c d):=λc o=>by rw[bo];exact KJ.o E.row I W c ag.1 ag.2 (O.o.bl.trans (o.mono O.o.bl.size)) (vl.Ac br.o o)
   have bg:ϡ (∀c,Ϣ wr c->CT 356 #[ω b,vI r,vS I r2 W] c λe d=>(∃A B,e= .returned (vS A (ϲ (Ce p r E.row)) B)/\AF d c (vS A (ϲ (Ce p r E.row)) B) (Ce p r E.row))/\Ϣ c d):=λc o=>by rw[bo];exact KA.o E.row I W c ag.1 ag.2 (Af O.o.box.plan o) (vl.Ac br.o o)
   obtain⟨Y,bv⟩:=nM (DT j v.row E.row);obtain⟨AR,ak⟩:=nM (Ce p r E.row);rw[bv]at aj F;rw[ak]at bg F;obtain⟨jn,b1⟩:=nM (ϲ Y);obtain⟨an,al⟩:=nM (ϲ AR);rw[b1]at aj;rw[al]at bg;rw[<-b0]at F;have i1:=nn0 k;have i2:(k:Int)<(g2:Int):=ϣ;have bs:ϡ (toldOf p v E=if c1=true/\em=false then [⟨3,AR⟩,⟨4,Y⟩]else [⟨1,Y⟩]):=F;clear af ag hE g b0 bo bv ak b1 al F;have ap:ϲ m<=1000000:=ϣ;by_cases a5:c1=true/\em=false
   ·obtain⟨e1,e2⟩:=a5;have F:ϡ (toldOf p v E=[⟨3,AR⟩,⟨4,Y⟩]):=by show _=_;rw[bs.o,AE ⟨e1,e2⟩]
    subst e1 e2;go_wp2_with (first
     |(go_at_call 353;refine(aj.o _ Ϯ).mono ?_;rintro e w5 ⟨⟨A,B,rfl,aq⟩,R⟩;have C:Ϣ wr w5:=Ϯ.trans (R.mono ϥ);have z3:=cLz R (show Δ (ϊ wr (φ ek et a2 I r2 W false) 166) wr 3 (vS I r2 W) by go_simp);have z4:=cLz R (show Δ (ϊ wr (φ ek et a2 I r2 W false) 166) wr 4 (.bool false) by go_simp);have m5:=cLz C m1;have ai:ϡ (AF w5 wr.heap.size (vS A jn B) Y):=World.ownsRow.mono aq ϥ)
     |(go_at_call 354;refine(bh.o _).mono ?_;rintro e w6 ⟨rfl,rfl⟩)
     |(go_at_call 356;refine(bg.o _ C).mono ?_;rintro e w7 ⟨⟨b6,b7,rfl,bm⟩,a3⟩)
     |(go_at_call 355;refine(Afd O.o hT ap C ai.o a3 bm).mono ?_;rintro e w8 ⟨rfl,t8,ab,ac⟩))
    go_roundw;exact⟨k+1,t8,_,ϣ,by go_num,ab,by show _=_;rw[DQ,aw.o,a0.o,F.o];rfl,by rw[lAp];show _+2<=_;omega,Q.o.trans ((Jo (bT C a3)).trans ac)⟩;simp[intOf];omega
   ·have F:ϡ (toldOf p v E=[⟨1,Y⟩]):=by show _=_;rw[bs.o,AC a5]
    have b8:c1=false\/(c1=true/\em=true):=by
     cases c1<;>cases em<;>simp at a5⊢
    clear a5;rcases b8 with e1|⟨e1,e2⟩
    ·subst e1;go_wp2_with (first
      |(go_at_call 353;refine(aj.o _ Ϯ).mono ?_;rintro e w5 ⟨⟨A,B,rfl,aq⟩,R⟩;have C:Ϣ wr w5:=Ϯ.trans (R.mono ϥ);have z4:=cLz R (show Δ (ϊ wr (φ ek et a2 I r2 W em) 166) wr 4 (.bool em) by go_simp);have m5:=cLz C m1;have ai:ϡ (AF w5 wr.heap.size (vS A jn B) Y):=World.ownsRow.mono aq ϥ)
      |(go_at_call 354;refine(bh.o _).mono ?_;rintro e w6 ⟨rfl,rfl⟩)
      |(go_at_call 357;refine(M7 O.o hT ap C ai.o).mono ?_;rintro e w8 ⟨rfl,t8,ab,ac⟩))
     go_roundw;exact⟨k+1,t8,_,ϣ,by go_num,ab,by show _=_;rw[DQ,aw.o,a0.o,F.o];rfl,by rw[lAp];show _+1<=_;omega,Q.o.trans ((Jo C).trans ac)⟩;simp[intOf];omega
    ·subst e1 e2;go_wp2_with (first
      |(go_at_call 353;refine(aj.o _ Ϯ).mono ?_;rintro e w5 ⟨⟨A,B,rfl,aq⟩,R⟩;have C:Ϣ wr w5:=Ϯ.trans (R.mono ϥ);have z4:=cLz R (show Δ (ϊ wr (φ ek et a2 I r2 W true) 166) wr 4 (.bool true) by go_simp);have m5:=cLz C m1;have ai:ϡ (AF w5 wr.heap.size (vS A jn B) Y):=World.ownsRow.mono aq ϥ)
      |(go_at_call 354;refine(bh.o _).mono ?_;rintro e w6 ⟨rfl,rfl⟩)
      |(go_at_call 357;refine(M7 O.o hT ap C ai.o).mono ?_;rintro e w8 ⟨rfl,t8,ab,ac⟩))
     go_roundw;exact⟨k+1,t8,_,ϣ,by go_num,ab,by show _=_;rw[DQ,aw.o,a0.o,F.o];rfl,by rw[lAp];show _+1<=_;omega,Q.o.trans ((Jo C).trans ac)⟩;simp[intOf];omega
  ·have b9:k=g2:=ϣ;subst b9;have cg:¬((k:Int)<(k:Int)):=ϣ;have ax:ϡ (m.map CO.chg=f.flatMap (toldOf p v)):=by
    show _=_;rw[aw.o,<-H.o,Ok]
   have ap:ϲ m<=1000000:=ϣ;have KM:ϡ (CT 358 #[ω b,vI r,vS g1 k g3] wr λe d=>e= .returned (.tuple #[])/\∃N,JSt D d b T p x (AP s r (DL (f.map (·.seq)) (Ar s r))) N M m/\Nb wr d):=WZ b T p x s y M m r (g1,k,g3) Z f (w.heap.size+1) D wr O.o hT HG.o.2.1 HI.o ay.o (by have:=HQ.o.1;omega) HQ.o.2;have ci:¬((k:Int)<(k:Int)):=ϣ;by_cases g:k=0
   ·have ah:ϡ (PT=if c2=true then [⟨1,Ce p j v.row⟩]else []):=by
     show _=_;have:f=[]:=aL.1 (by rw[H.o,g]);rw[ae.o,this];simp
    have au:ϡ ((!f.isEmpty)=false):=by
     show _=_;have:f=[]:=aL.1 (by rw[H.o,g]);rw[this];rfl
    have bq:ϡ (m.map CO.chg=[]):=by
     show _=_;have:f=[]:=aL.1 (by rw[H.o,g]);rw[ax.o,this];rfl
    subst g;go_wp2_with (go_at_call 358;refine KM.o.mono ?_;rintro e X ⟨rfl,N,ao,U⟩;have P:ϡ (JSt D X b T p x (AP s r (DL (f.map (·.seq)) (Ar s r))) N M m):=ao;have n0:=U.cell az.o Ϥ q0;have n2:=U.cell az.o Ϥ q2;have nm:=a9.o _ _ _ _ _ P.o;have bc:ϡ (∀d,Ϣ X d->Δ d b 1 (vI md)/\Δ d w 0 (vI j)):=λd g=>⟨cLz g nm,cLz g n0⟩;have av:ϡ (Cv T w X):=((Bi am).trans Q.o.m).trans U.m;clear ao U);refine gr.CZ 13 rfl Ϧ (S:=λd=>Δ d b 1 (vI md)/\Δ d w 0 (vI j)) (bc.o _ bR.drew) (λaa=>?_)
    iterate 11 refine C9 13 aa ?_
    refine rD 11 λK hK=>?_;go_simp;go_at_call 354;refine(bu.o _).mono ?_;rintro e wk ⟨rfl,rfl⟩;go_wp2_with fail;refine hK.out _ _ aa (λaa=>?_);clear hK K
    try simp only[Act.put,sI,sZ,sSz]
    refine tkz 12 75 aa ?_;refine GT Ϧ ?_ _
    cases c2 with
    |true=>
     have be:ϡ (∀c,Ϣ X c->CT 356 #[ω b,vI j,vS G rl J] c λe d=>(∃A B,e= .returned (vS A (ϲ (Ce p j v.row)) B)/\AF d c (vS A (ϲ (Ce p j v.row)) B) (Ce p j v.row))/\Ϣ c d):=λc o=>bd.o c (Af P.o.box.plan o) (P.o.bl.trans (o.mono P.o.bl.size));obtain⟨AR,ak⟩:=nM (Ce p j v.row);rw[ak]at be ah;obtain⟨an,al⟩:=nM (ϲ AR);rw[al]at be;clear ak al;go_wp2_with (first
      |(go_at_call 356;refine(be.o _ bR.drew).mono ?_;rintro e w7 ⟨⟨b6,b7,rfl,bm⟩,a3⟩;have bz:Ϣ X w7:=bR.drew.trans a3)
      |(go_at_call 357;refine(M7 P.o hT ap bz bm).mono ?_;rintro e w8 ⟨rfl,t8,ab,ac⟩))
     go_ret;exact⟨Aa au.o.symm,N,t8,_,ab,by rw[DQ,bq.o,ah.o];rfl,av.o.trans ((Bi bz).trans ac.m)⟩
    |false=>
     go_wp2;go_ret;exact⟨Aa au.o.symm,N,M,m,P.o.below bR.drew,by rw[bq.o,ah.o];rfl,av.o.trans (Bi bR.drew)⟩
   ·have ah:ϡ (PT=f.flatMap (toldOf p v)):=by
     show _=_;have:f.isEmpty=false:=by
      cases hP:f with
      |nil=>rw[hP]at H;exact absurd H.o.symm g
      |cons a l=>rfl
     rw[ae.o,this];simp
    have au:ϡ ((!f.isEmpty)=true):=by
     show _=_
     cases hP:f with
     |nil=>rw[hP]at H;exact absurd H.o.symm g
     |cons a l=>rfl
    have cl:((k:Int)==0)=false:=by
     rw[K5];omega
    have cm:(0:Int)<(k:Int):=ϣ;go_wp2_with (go_at_call 358;refine KM.o.mono ?_;rintro e X ⟨rfl,N,ao,U⟩;have P:ϡ (JSt D X b T p x (AP s r (DL (f.map (·.seq)) (Ar s r))) N M m):=ao;have n0:=U.cell az.o Ϥ q0;have n2:=U.cell az.o Ϥ q2;have nm:=a9.o _ _ _ _ _ P.o;have bc:ϡ (∀d,Ϣ X d->Δ d b 1 (vI md)/\Δ d w 0 (vI j)):=λd g=>⟨cLz g nm,cLz g n0⟩;have av:ϡ (Cv T w X):=((Bi am).trans Q.o.m).trans U.m;clear ao U);refine gr.CZ 13 rfl Ϧ (S:=λd=>Δ d b 1 (vI md)/\Δ d w 0 (vI j)) (bc.o _ bR.drew) (λaa=>?_)
    iterate 13 first|refine C9 13 aa ?_|refine Hd 13 aa ?_
    refine GT Ϧ ?_ _;go_wp2;go_ret;exact⟨Aa (by rw[au.o];simp;omega),N,M,m,P.o.below bR.drew,by rw[ax.o,ah.o],av.o.trans (Bi bR.drew)⟩
def ON(h:pl.Ag p=0)(a:p.kind=1):(-1099511627776<=p.low/\p.low<=1099511627776)/\(-1099511627776<=p.high/\p.high<=1099511627776):=by
 have:=(pl.Bt h).2.1.1;rw[AE a]at this;exact this
def AcH{t:Int}(h:tm.Br t=true): -1099511627776<=t/\t<=1099511627776:=by
 unfold tm.Br at h;exact Fd h
theorem Aaa(b:Nat)(p:pl.Pln)(x:pl.PA)(s:Jn)(y:JX)(v:Ev)(i:Ϡ)(n:Nat)(I w:ϟ)(h:JSt I w b 270 p x s y (vS none 0 0) [])(L:p.kind=1)(hg:goodJ p s)(F:comeJ p s v)(hv:vl.rowAt I i v.row):
 χ 342 #[ω b,Ep p v i n] w λe f=>e= .returned (.bool (!(partners p s v).isEmpty))/\∃A u j,JSt I f b 270 p x (Dh p s v) A u j/\j.map CO.chg=DX p s v/\Cv 270 w f:=by
 have hT:calmC 270:=⟨⟨Ϥ,Ϥ,Ϥ⟩,Ϥ⟩;have r:ϡ (∀J,Ϣ w J->CT 346 #[ω b,Ep p v i n,vI (Hg p v),vI (toJ p v)] J λe f=>e= .returned (.bool (!(partners p s v).isEmpty))/\∃A u j,JSt I f b 270 p x (Dh p s v) A u j/\j.map CO.chg=DX p s v/\Cv 270 J f):=λJ hb=>AcG b _ p x s y v i n (Hg p v) (toJ p v) I J (h.below hb) hT Ϥ hg F.side hv F.err;have hf:=ON (pl.F8 F.err).1 L;have ht:=AcH F.time;have G:=h.box.plan.2.2.1;have H:=h.box.plan.2.2.2.1;have lb:=h.box.lt;have q:ϡ ((v.side=1->Hg p v=v.time+p.low/\toJ p v=v.time+p.high)/\(v.side≠1->Hg p v=v.time - p.high/\toJ p v=v.time - p.low)):=by
  unfold Hg toJ;rw[AE L,AE L];exact⟨λe=>by rw[AE e,AE e];exact⟨rfl,rfl⟩,λe=>by rw[AC e,AC e];exact⟨rfl,rfl⟩⟩
 clear h L hg F hv;unfold Ep at r⊢;obtain⟨C,Z⟩:=nM (pl.A0 p v.side v.row);obtain⟨D,h2⟩:=nM (pl.hasB p v.side v.row);obtain⟨E,ab⟩:=nM (ϲ v.row);obtain⟨R,hR⟩:=nM (!(partners p s v).isEmpty);obtain⟨m,O⟩:=nM p.low;obtain⟨l,M⟩:=nM p.high;have K:ϡ (p.low=m/\p.high=l):=⟨O,M⟩;rw[O]at hf G q;rw[M]at hf H q;rw[hR]at r⊢;rw[Z,h2,ab]at r⊢;obtain⟨o,ac⟩:=nM v.side;obtain⟨c,P⟩:=nM v.time;rw[ac,P]at r q⊢;rw[P]at ht;obtain⟨fr,aa⟩:=nM (Hg p v);obtain⟨tO,ad⟩:=nM (toJ p v);rw[aa,ad]at r q;clear Z h2 ab hR O M ac P aa ad;go_enter func342,ntmps342;by_cases B:o=1
 ·have e1:(o==1)=true:=by simpa using B
  obtain⟨Q,S⟩:=q.o.1 B;clear B q;subst Q S;have ae:IntKind.i64.wrap (c+m)=c+m:=by rw[ch.Cr];omega
  have af:IntKind.i64.wrap (c+l)=c+l:=by rw[ch.Cr];omega
  go_wp2;generalize a:(World.alloc w _)=V;have k:Ϣ w V:=by rw[<-a];exact Ϯ
  have T:Δ V w 0 (vI o):=by subst a;go_simp
  have U:Δ V w 1 (vI c):=by subst a;go_simp
  have W:Δ V w 2 (vS i E n):=by subst a;go_simp
  have X:Δ V w 3 (.string C):=by subst a;go_simp
  have Y:Δ V w 4 (.bool D):=by subst a;go_simp
  have g:ϡ (Am V w 208):=by subst a;exact⟨_,_,DE w _⟩
  replace G:=cLz k G;replace H:=cLz k H;clear a
  go_region_held3 (λf=>ϕ f w (vI o) (vI c) (vS i E n) (.string C) (.bool D) (Δ f b 2 (vI m)/\Δ f b 3 (vI l))) (first|exact hy|go_keep)
   (first
    |(go_at_call 346;refine(r.o _ k.drew).mono ?_;rintro e z ⟨rfl,A,u,j,t,N,d⟩;have hy:ϕ z w (vI o) (vI c) (vS i E n) (.string C) (.bool D) (Δ z b 2 (vI m)/\Δ z b 3 (vI l)):=⟨d.cell g.o Ϥ Ϥ Ϥ T,d.cell g.o Ϥ Ϥ Ϥ U,d.cell g.o Ϥ Ϥ Ϥ W,d.cell g.o Ϥ Ϥ Ϥ X,d.cell g.o Ϥ Ϥ Ϥ Y,K.o.1▸t.box.plan.2.2.1,K.o.2▸t.box.plan.2.2.2.1⟩))
  all_goals
   go_wp2;go_ret;exact⟨rfl,A,u,j,t,N,(Bi (k.drew)).trans d⟩
 ·have e1:(o==1)=false:=by simpa using B
  obtain⟨Q,S⟩:=q.o.2 B;clear B q;subst Q S;have ae:IntKind.i64.wrap (c - l)=c - l:=by rw[ch.Cr];omega
  have af:IntKind.i64.wrap (c - m)=c - m:=by rw[ch.Cr];omega
  go_wp2;generalize a:(World.alloc w _)=V;have k:Ϣ w V:=by rw[<-a];exact Ϯ
  have T:Δ V w 0 (vI o):=by subst a;go_simp
  have U:Δ V w 1 (vI c):=by subst a;go_simp
  have W:Δ V w 2 (vS i E n):=by subst a;go_simp
  have X:Δ V w 3 (.string C):=by subst a;go_simp
  have Y:Δ V w 4 (.bool D):=by subst a;go_simp
  have g:ϡ (Am V w 208):=by subst a;exact⟨_,_,DE w _⟩
  replace G:=cLz k G;replace H:=cLz k H;clear a
  go_region_held3 (λf=>ϕ f w (vI o) (vI c) (vS i E n) (.string C) (.bool D) (Δ f b 2 (vI m)/\Δ f b 3 (vI l))) (first|exact hy|go_keep)
   (first
    |(go_at_call 346;refine(r.o _ k.drew).mono ?_;rintro e z ⟨rfl,A,u,j,t,N,d⟩;have hy:ϕ z w (vI o) (vI c) (vS i E n) (.string C) (.bool D) (Δ z b 2 (vI m)/\Δ z b 3 (vI l)):=⟨d.cell g.o Ϥ Ϥ Ϥ T,d.cell g.o Ϥ Ϥ Ϥ U,d.cell g.o Ϥ Ϥ Ϥ W,d.cell g.o Ϥ Ϥ Ϥ X,d.cell g.o Ϥ Ϥ Ϥ Y,K.o.1▸t.box.plan.2.2.1,K.o.2▸t.box.plan.2.2.2.1⟩))
  all_goals
   go_wp2;go_ret;exact⟨rfl,A,u,j,t,N,(Bi (k.drew)).trans d⟩
def M5(p:pl.Pln)(s:Jn)(v:Ev):Jn:=if p.kind=3 then(if v.side=1 then s else AP s 1 (DL ((I6 p s v).map (·.seq)) s.L))else Dh p s v
def Sn(p:pl.Pln)(s:Jn)(v:Ev):Bool:=if p.kind=3 then(if v.side=1 then !(P5 p s v).isEmpty else false)else !(partners p s v).isEmpty
def PY(p:pl.Pln)(s:Jn)(v:Ev):List ch.Chg:=if p.kind=3 then(if v.side=1 then SA p s v else SD p s v)else DX p s v
def Yl(p:pl.Pln)(s:Jn)(v:Ev):IG p s v=(Fs p (M5 p s v) v (Sn p s v),PY p s v):=by
 unfold IG M5 Sn PY;by_cases a:p.kind=3
 ·rw[AE a,AE a,AE a,AE a];by_cases b:v.side=1
  ·rw[AE b,AE b,AE b,AE b]
  ·rw[AC b,AC b,AC b,AC b]
 ·rw[AC a,AC a,AC a,AC a]
end jn
namespace jn
open vl bf
structure KindK(p:pl.Pln)(T kp:TypeId)(ff fm:FuncId):Prop where
 calm:calmC T
 co:T≠208
 cj:T≠38
 cv:T≠90
 cp:T≠32
 go:∀(K:Nat) (w:ϟ),(method 533 kp (.pointer (ϋ K)) "meetwater/join.goOn").run prog w= .ok (339,.pointer (ϋ K)) w
 fo:∀(K:Nat) (w:ϟ),(method 533 kp (.pointer (ϋ K)) "meetwater/join.forget").run prog w= .ok (ff,.pointer (ϋ K)) w
 me:∀(K:Nat) (w:ϟ),(method 533 kp (.pointer (ϋ K)) "meetwater/join.meet").run prog w= .ok (fm,.pointer (ϋ K)) w
 ke:∀(K:Nat) (w:ϟ),(method 533 kp (.pointer (ϋ K)) "meetwater/join.keep").run prog w= .ok (340,.pointer (ϋ K)) w
 ma:∀(K:Nat) (w:ϟ),(method 533 kp (.pointer (ϋ K)) "meetwater/join.made").run prog w= .ok (341,.pointer (ϋ K)) w
 ni:∀(K:Nat) (w:ϟ),(nilAhead 533 kp (.pointer (ϋ K)) "meetwater/join.keep").run prog w= .ok (some false) w
 ef:∀args w,(callFunc ff args).run prog w= .ok (.enter ff args) w
 em:∀args w,(callFunc fm args).run prog w= .ok (.enter fm args) w
 cf:∀(b:Nat) (x:pl.PA) (s:Jn) (y:JX) (t:Value) (L:List CO) (w0 w:ϟ),JSt w0 w b T p x s y t L->pl.wfPlan p->pl.planAt w0 p x->goodJ p s->Calls prog ff #[ω b] w λe w'=>e= .returned (.tuple #[])/\∃y',JSt w0 w' b T p x (E8 p s) y' t L/\Cv T w w'
 cm:∀(b:Nat) (x:pl.PA) (s:Jn) (y:JX) (v:Ev) (ra:Ϡ) (rc:Nat) (w0 w:ϟ),JSt w0 w b T p x s y (vS none 0 0) []->goodJ p s->comeJ p s v->vl.rowAt w0 ra v.row->Calls prog fm #[ω b,Ep p v ra rc] w λe w'=>e= .returned (.bool (Sn p s v))/\∃y' t' L',JSt w0 w' b T p x (M5 p s v) y' t' L'/\L'.map CO.chg=PY p s v/\Cv T w w'
theorem kinds{p:pl.Pln}(d:p.kind=1):∃l m,KindK p (kindT p.kind) (kindP p.kind) l m:=by
 have k:kindT p.kind=270:=by unfold kindT;rw[AE d]
 have j:kindP p.kind=268:=by unfold kindP;rw[AE d]
 rw[k,j];refine⟨338,342,⟨⟨Ϥ,Ϥ,Ϥ⟩,Ϥ⟩,Ϥ,Ϥ,Ϥ,Ϥ,λK w=>by kernel_rfl,λK w=>by kernel_rfl,λK w=>by kernel_rfl,λK w=>by kernel_rfl,λK w=>by kernel_rfl,λK w=>by kernel_rfl,IB func338 Ϧ rfl,IB func342 Ϧ rfl,λb x s y t L f w c r o a=>?_,λb x s y v u z f w c a n q=>?_⟩
 ·have e:E8 p s=Nh p s:=by unfold E8;rw[AC ϣ]
  rw[e];exact Wv b _ p x s y t L f w c ⟨⟨Ϥ,Ϥ,Ϥ⟩,Ϥ⟩ Ϥ r o a
 ·have g:Sn p s v= !(partners p s v).isEmpty:=by unfold Sn;rw[AC ϣ]
  have h:M5 p s v=Dh p s v:=by unfold M5;rw[AC ϣ]
  have i:PY p s v=DX p s v:=by unfold PY;rw[AC ϣ]
  rw[g,h,i];exact Aaa b p x s y v u z f w c d a n q
attribute [local go_sem] Oper.semAt_some
theorem Na{n:Array Oper}{rest:List Oper}{o:Oper}{a:Act}{Q:Exit->Act->World->Prop}(t:o.guard=none)(s x:Operand)
 (z:o.op= .call {callee:=.builtin .append,args:=#[s,x],argTypes:=#[33,33]})
 (base:Nat) (v:Value) (L:List EM) (f:ByteArray) (k j:Int) (ad:Ϡ) (l cap:Nat) (i:Bool) (c:ϟ) (b:Nat) (K:ϲ L=b) (y:c.ownsRow base 166 5 v b (Ap L)) (J:b<=1000000) (I:base<=c.heap.size)
 (A:a.eval s=v) (B:a.eval x=vS (ϋ c) 1 1)
 (h:∀g e d,d.ownsRow base 166 5 (vS (ϋ g) (b+1) e) (b+1) (Ap L++[.string f,vI k,vI j,vS ad l cap,.bool i])->(c.alloc (.cells (φ f k j ad l cap i) 166)).grownBy d v.ownBlock->wpList prog n Q rest (a.put o.dst (vS (ϋ g) (b+1) e)) d):
 wpList prog n Q (o::rest) a (ϊ c (φ f k j ad l cap i) 166):=by
 obtain⟨F,w,C,D,E⟩:=IR Ul;refine wpList_append_lies _ t s x 33 z base 166 F (.agg #[ϐ,Ϗ,Ϗ,ώ,ϑ]) 5 64 underlying33 w C D E rfl Ϥ v b (Ap L) A
  (y.alloc _) ⟨c,0,none⟩ 1 1 [.string f,vI k,vI j,vS ad l cap,.bool i] B rfl (Eu _ _ _ _ _ _ _) (by intro u m;simp at m;rcases m with rfl|rfl|rfl|rfl|rfl<;>rfl) Ϥ ϭ ϣ Ϩ (c.heap.size+1) ϥ ?_
 intro g e d q r G H;exact h g e d q r
end jn
