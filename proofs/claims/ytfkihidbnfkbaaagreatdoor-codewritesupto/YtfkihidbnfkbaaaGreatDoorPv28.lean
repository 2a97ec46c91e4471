import Derived.Test.YtfkihidbnfkbaaaGreatDoorPv27
set_option linter.all false
set_option maxHeartbeats 8000000
set_option maxRecDepth 100000
open Go.ChangeShapes Go.WideShapes Go.ChangeAt Go.RowKit List
namespace Go.Proofs.YtfkihidbnfkbaaaGreatDoor
open Go.Proofs.Tryz
namespace jn
open vl bf
attribute [local go_sem] Oper.semAt_some
variable {side : Int} {p : pl.Pln}
def toldOf(p:pl.Pln)(v:Ev)(e:Ent):List ch.Chg:=if Ek p.mode (3 - v.side)=true/\e.met=false then [⟨3,Ch p (3 - v.side) e.row⟩,⟨4,DV v.side v.row e.row⟩]else [⟨1,DV v.side v.row e.row⟩]
def pairT(p:pl.Pln)(v:Ev)(l:List Ent):List ch.Chg:=l.flatMap (toldOf p v)++if l.isEmpty=true/\Ek p.mode v.side=true then [⟨1,Ch p v.side v.row⟩]else []
theorem TL(p:pl.Pln)(s:Jn)(v:Ev):DZ p s v=pairT p v (DX p s v (GN p v) (toJ p v)):=rfl
theorem Vw(h:pl.B8 side=true):pl.B8 (3 - side)=true/\3 - (3 - side)=side:=by
 rcases side_is h with rfl|rfl<;>exact⟨ϥ,ϥ⟩
theorem Jd{α β:Type}(f:α->List β){l:List α}{k:Nat}{d:α}(h:k<l.length):(l.take (k+1)).flatMap f=(l.take k).flatMap f++f (l.getD k d):=by
 rw[take_succ_eq_append_getElem h,flatMap_append,gDe,gEe h];simp
theorem Ql{r:List Cel}(h:pl.Bn p side r=0):0<r.length/\r.length<=400:=by
 have a:=pl.Fv h;have b:=AbO a.1 side;rw[a.2.2.1];omega
theorem TN{s:Jn}(h:goodJ p s)(d:pl.B8 side=true){y:Ent}(hy:y∈Ab (Av s side)):pl.Bn p side y.row=0:=by
 have b:∀{c:Int},FT p c y=true->pl.Bn p c y.row=0:=λa=>by
  unfold FT at a;simp only[Bool.and_eq_true]at a;exact of_decide_eq_true a.1.1
 rcases side_is d with rfl|rfl
 ·exact b (h.ok.rowL y hy)
 ·exact b (h.ok.rowR y hy)
theorem AbL(b:Nat)(T:TypeId)(p:pl.Pln)(x:pl.PA)(s:Jn)(y:JX)(v:Ev)(G:ϡ)(J:Nat)(fr u:Int)(D w:Ϡ)(h:JSt D w b T p x s y (vS none 0 0) [])(hT:calmC T)(bi:T≠208)(hg:goodJ p s)(hs:pl.B8 v.side=true)(hv:vl.rowAt D G v.row)(he:pl.Bn p v.side v.row=0):
 χ 346 #[ω b,El p v G J,vI fr,vI u] w λe d=>e= .returned (.bool (!(DX p s v fr u).isEmpty))/\∃N M m,JSt D d b T p x (AU s (3 - v.side) (DL ((DX p s v fr u).map (·.seq)) (Av s (3 - v.side)))) N M m/\m.map CO.chg=pairT p v (DX p s v fr u)/\Cy T w d:=by
 have hp:=(pl.Fv he).1;have ho:=Vw hs;have ar:=Ql he;have HJ:=hV0 h;have HG:Ϣ (goodJ p s/\okB (Av s (3 - v.side))/\∀z∈Ab (Av s (3 - v.side)),wfE z/\wfP (AK z)):=⟨hg,hg.of _⟩;have KO:=hIz (λ(c:Ϡ)=>Ju v.side c hs);have b2:∀c s y t L,JSt D c b T p x s y t L->bufAt c (Av s (3 - v.side)) (Cf y (3 - v.side)):=λc s y t L hj=>by
  unfold Av Cf;split
  ·exact hj.r.at
  ·exact hj.l.at
 have KW:Ϣ (∀c,ϣ w c->CT 352 #[ω b,El p v G J,vI fr,vI u] c λe d=>(∃hh Z,e= .returned (hdV hh)/\OE d c (hdV hh) Z (DX p s v fr u))/\ϣ c d):=λc o=>TU b p x s y _ v G J fr u c hs (HJ.o.below o).box (b2 _ _ _ _ _ (HJ.o.below o)) HG.o.2.1 HG.o.2.2;have KP:=hIz (λside (c:Ϡ)=>ZF p.mode side c);have KJ:=hIz (λ(q:List Cel) (qa:ϡ) (qc:Nat) (c:Ϡ) (h1:0<q.length) (h2:q.length<=400) (o:ϣ D c) (hq:vl.rowAt c qa q)=>Ew v.side G qa J qc v.row q c ar.1 h1 ar.2 h2 (vl.Ac hv o) hq);have KA:=hIz (λ(q:List Cel) (qa:ϡ) (qc:Nat) (c:Ϡ) (h1:0<q.length) (h2:q.length<=400) (o:boxP c b p x) (hq:vl.rowAt c qa q)=>Qn b p x (3 - v.side) qa qc q c hp ho.1 o hq h1 h2);have bd:=hIz (λ(c:Ϡ) (o:boxP c b p x) (am:ϣ D c)=>Qn b p x v.side G J v.row c hp hs o (vl.Ac hv am) ar.1 ar.2);have bp:Ϣ (∀k,k<(DX p s v fr u).length->(0<((DX p s v fr u).getD k default).row.length/\((DX p s v fr u).getD k default).row.length<=400)):=λk hk=>Ql (TN hg ho.1 (Xt (AN hk)));have HQ:Ϣ ((DX p s v fr u).length<=4096/\∀z∈DX p s v fr u,pl.i64 z.seq):=⟨TT HG.o.2.1,λz g=>(HG.o.2.2 z (Xt g)).2.seq⟩;have HI:Ϣ (∀z∈Ab (Av s (3 - v.side)),pl.i64 z.seq):=λz g=>(HG.o.2.2 z g).2.seq;have a1:Ϣ (∀e,toldOf p v e=if Ek p.mode (3 - v.side)=true/\e.met=false then [⟨3,Ch p (3 - v.side) e.row⟩,⟨4,DV v.side v.row e.row⟩]else [⟨1,DV v.side v.row e.row⟩]):=λe=>rfl;have ae:Ϣ (pairT p v (DX p s v fr u)=(DX p s v fr u).flatMap (toldOf p v)++if (DX p s v fr u).isEmpty=true/\Ek p.mode v.side=true then [⟨1,Ch p v.side v.row⟩]else []):=rfl;have cf:=h.bl;obtain⟨f,bw⟩:=nM (DX p s v fr u);rw[bw]at KW bp HQ ae⊢;obtain⟨PT,bx⟩:=nM (pairT p v f);rw[bx]at ae⊢;unfold El at KW⊢;obtain⟨kb,h1⟩:=nM (pl.A6 p v.side v.row);obtain⟨kh,h2⟩:=nM (pl.hasB p v.side v.row);obtain⟨rl,a8⟩:=nM v.row.length;have cd:=hV0 a8;rw[h1,h2,a8]at KW⊢;rw[a8]at KJ bd;obtain⟨r,bn⟩:=nM (3 - v.side)
 have cc:=hV0 bn;rw[bn]at KO KA HI HG a1⊢;obtain⟨j,b3⟩:=nM v.side;obtain⟨md,a7⟩:=nM p.mode;have a9:Ϣ (∀c s y t L,JSt D c b T p x s y t L->Δ c b 1 (vI md)):=λc s y t L hj=>by rw[<-a7];exact hj.box.plan.2.1
 obtain⟨c1,bj⟩:=nM (Ek p.mode r);obtain⟨c2,bk⟩:=nM (Ek p.mode v.side);have bh:Ϣ (∀c,CT 354 #[vI md,vI r] c λe d=>e= .returned (.bool c1)/\d=c):=λc=>by rw[<-bj,<-a7];exact KP.o r c
 have bu:Ϣ (∀c,CT 354 #[vI md,vI v.side] c λe d=>e= .returned (.bool c2)/\d=c):=λc=>by rw[<-bk,<-a7];exact KP.o v.side c
 rw[bj]at a1;rw[bk]at ae;rw[b3]at KO KJ bd KW bu a1 ae⊢;obtain⟨b5,b4⟩:=nM v.time;rw[b4]at KW⊢;clear h hg hs hv he hp ho ar bw h1 h2 a8 bn a7 bj bk b3 b4 b2 KP bx;obtain⟨n,hn⟩:=nM f.length;have H:=hV0 hn;have ck:n<=4096:=by rw[<-hn];exact HQ.o.1
 clear hn;go_enter func346,ntmps346;go_wp2_with (first
  |(go_at_call 348;refine(KO.o _).mono ?_;rintro e w2 ⟨rfl,rfl⟩)
  |(go_at_call 352;refine(KW.o _ ϯ).mono ?_;rintro e V ⟨⟨hh,Z,rfl,ho⟩,a4⟩;have q0:=cLz a4 (show Δ (ϊ w #[vI j,vI b5,vS G rl J,.string kb,.bool kh] 208) w 0 (vI j) by go_simp);have q2:=cLz a4 (show Δ (ϊ w #[vI j,vI b5,vS G rl J,.string kb,.bool kh] 208) w 2 (vS G rl J) by go_simp);have bb:Ϣ (Ah V w.heap.size 208):=Ak ⟨_,_,World.alloc_heap_new w _⟩ a4;have am:ϣ w V:=ϯ.trans (a4.mono Ϧ);have ba:Ϣ (OE V (w.heap.size+1) (hdV hh) Z f):=(by have:=ho;rw[World.size_alloc]at this;exact this);clear ho;have ax:Ϣ (hh.2.1=n):=(by show _=_;rw[<-H.o,<-ba.o.len];exact(GA (p:=(hh,Z)) ba.o).1.1);obtain⟨g1,g2,g3⟩:=hh;have ca:g2=n:=ax.o;subst ca;unfold hdV;dsimp only))
 go_loopw [24] (λi wr=> ∃(k:Nat) (M:Value) (m:List CO),k<=g2/\i=vI k/\Ϣ (JSt D wr b T p x s y M m)/\Ϣ (m.map CO.chg=(f.take k).flatMap (toldOf p v))/\m.length<=2 * k/\Ϣ (EG T V wr)) (λi _=>g2 - (intOf i).toNat)
 case atStart=>exact⟨0,_,[],Nat.zero_le _,rfl,HJ.o.below am,rfl,Nat.le_refl _,EG.refl _ _⟩
 case round=>
  obtain⟨k,M,m,hk,rfl,O,aw,cj,Q⟩:=hrel;have q0:=Q.o.cell bb.o bi.symm ϥ q0;have q2:=Q.o.cell bb.o bi.symm ϥ q2;have az:Ϣ (Ah wr w 208):=Q.o.ty bb.o bi.symm ϥ;have ay:Ϣ (OE wr (w.heap.size+1) (hdV (g1,g2,g3)) Z f):=Q.o.oe hT ba.o;have m1:=a9.o _ _ _ _ _ O.o;have lq:w.heap.size<wr.heap.size:=bLt _ _ q0;have lb:b<wr.heap.size:=O.o.box.lt;by_cases cb:k<g2
  ·have a6:k<f.length:=by rw[H.o];exact cb
   obtain⟨gb,cn,ea,x1,x2,x3,x4,x5⟩:=(GA (p:=((g1,g2,g3),Z)) ay.o).2 k (by rw[ay.o.len];exact a6);dsimp only at ea;subst ea;have af:=ay.o.ers.2 k a6;have ag:=bp.o k a6;have a0:Ϣ ((f.take (k+1)).flatMap (toldOf p v)=(f.take k).flatMap (toldOf p v)++toldOf p v (f.getD k default)):=Jd (toldOf p v) a6;have F:=a1.o (f.getD k default);obtain⟨E,hE⟩:=nM (f.getD k default);rw[hE]at af ag a0 F;obtain⟨⟨ek,et,a2,⟨I,r2,W⟩,em⟩,g⟩:∃z,Z.getD k default=z:=⟨_,rfl⟩;rw[g]at x1 x2 x3 x4 x5 af;unfold hdV at x4;dsimp only at x1 x2 x3 x4 x5;have b0:em=E.met:=af.met;have bo:r2=E.row.length:=af.len;have br:Ϣ (vl.rowAt wr I E.row):=af.row;have aj:Ϣ (∀c,ϣ wr c->CT 353 (τ j G rl J I r2 W) c λe d=>(∃A B,e= .returned (vS A (DV j v.row E.row).length B)/\AM d c (vS A (DV j v.row E.row).length B) (DV j v.row E.row))/\ϣ c d):=λc o=>by rw[bo];exact KJ.o E.row I W c ag.1 ag.2 (O.o.bl.trans (o.mono O.o.bl.size)) (vl.Ac br.o o)
   have bg:Ϣ (∀c,ϣ wr c->CT 356 #[ω b,vI r,vS I r2 W] c λe d=>(∃A B,e= .returned (vS A (Ch p r E.row).length B)/\AM d c (vS A (Ch p r E.row).length B) (Ch p r E.row))/\ϣ c d):=λc o=>by rw[bo];exact KA.o E.row I W c ag.1 ag.2 (Af O.o.box.plan o) (vl.Ac br.o o)
   obtain⟨Y,bv⟩:=nM (DV j v.row E.row);obtain⟨AR,ak⟩:=nM (Ch p r E.row);rw[bv]at aj F;rw[ak]at bg F;obtain⟨jn,b1⟩:=nM Y.length;obtain⟨an,al⟩:=nM AR.length;rw[b1]at aj;rw[al]at bg;rw[<-b0]at F;have i1:=nn0 k;have i2:(k:Int)<(g2:Int):=Ϥ;have bs:Ϣ (toldOf p v E=if c1=true/\em=false then [⟨3,AR⟩,⟨4,Y⟩]else [⟨1,Y⟩]):=F;clear af ag hE g b0 bo bv ak b1 al F;have ap:m.length<=1000000:=Ϥ;by_cases a5:c1=true/\em=false
   ·obtain⟨e1,e2⟩:=a5;have F:Ϣ (toldOf p v E=[⟨3,AR⟩,⟨4,Y⟩]):=by show _=_;rw[bs.o,if_pos ⟨e1,e2⟩]
    subst e1 e2;go_wp2_with (first
     |(go_at_call 353;refine(aj.o _ ϯ).mono ?_;rintro e w5 ⟨⟨A,B,rfl,aq⟩,R⟩;have C:ϣ wr w5:=ϯ.trans (R.mono Ϧ);have z3:=cLz R (show Δ (ϊ wr (φ ek et a2 I r2 W false) 166) wr 3 (vS I r2 W) by go_simp);have z4:=cLz R (show Δ (ϊ wr (φ ek et a2 I r2 W false) 166) wr 4 (.bool false) by go_simp);have m5:=cLz C m1;have ai:Ϣ (AM w5 wr.heap.size (vS A jn B) Y):=World.ownsRow.mono aq Ϧ)
     |(go_at_call 354;refine(bh.o _).mono ?_;rintro e w6 ⟨rfl,rfl⟩)
     |(go_at_call 356;refine(bg.o _ C).mono ?_;rintro e w7 ⟨⟨b6,b7,rfl,bm⟩,a3⟩)
     |(go_at_call 355;refine(Aeg O.o hT ap C ai.o a3 bm).mono ?_;rintro e w8 ⟨rfl,t8,ab,ac⟩))
    go_roundw;exact⟨k+1,t8,_,Ϥ,by go_num,ab,by show _=_;rw[map_append,aw.o,a0.o,F.o];rfl,by rw[lAp];show _+2<=_;omega,Q.o.trans ((II (bT C a3)).trans ac)⟩;simp[intOf];omega
   ·have F:Ϣ (toldOf p v E=[⟨1,Y⟩]):=by show _=_;rw[bs.o,if_neg a5]
    have b8:c1=false\/(c1=true/\em=true):=by
     cases c1<;>cases em<;>simp at a5⊢
    clear a5;rcases b8 with e1|⟨e1,e2⟩
    ·subst e1;go_wp2_with (first
      |(go_at_call 353;refine(aj.o _ ϯ).mono ?_;rintro e w5 ⟨⟨A,B,rfl,aq⟩,R⟩;have C:ϣ wr w5:=ϯ.trans (R.mono Ϧ);have z4:=cLz R (show Δ (ϊ wr (φ ek et a2 I r2 W em) 166) wr 4 (.bool em) by go_simp);have m5:=cLz C m1;have ai:Ϣ (AM w5 wr.heap.size (vS A jn B) Y):=World.ownsRow.mono aq Ϧ)
      |(go_at_call 354;refine(bh.o _).mono ?_;rintro e w6 ⟨rfl,rfl⟩)
      |(go_at_call 357;refine(Mb O.o hT ap C ai.o).mono ?_;rintro e w8 ⟨rfl,t8,ab,ac⟩))
     go_roundw;exact⟨k+1,t8,_,Ϥ,by go_num,ab,by show _=_;rw[map_append,aw.o,a0.o,F.o];rfl,by rw[lAp];show _+1<=_;omega,Q.o.trans ((II C).trans ac)⟩;simp[intOf];omega
    ·subst e1 e2;go_wp2_with (first
      |(go_at_call 353;refine(aj.o _ ϯ).mono ?_;rintro e w5 ⟨⟨A,B,rfl,aq⟩,R⟩;have C:ϣ wr w5:=ϯ.trans (R.mono Ϧ);have z4:=cLz R (show Δ (ϊ wr (φ ek et a2 I r2 W true) 166) wr 4 (.bool true) by go_simp);have m5:=cLz C m1;have ai:Ϣ (AM w5 wr.heap.size (vS A jn B) Y):=World.ownsRow.mono aq Ϧ)
      |(go_at_call 354;refine(bh.o _).mono ?_;rintro e w6 ⟨rfl,rfl⟩)
      |(go_at_call 357;refine(Mb O.o hT ap C ai.o).mono ?_;rintro e w8 ⟨rfl,t8,ab,ac⟩))
     go_roundw;exact⟨k+1,t8,_,Ϥ,by go_num,ab,by show _=_;rw[map_append,aw.o,a0.o,F.o];rfl,by rw[lAp];show _+1<=_;omega,Q.o.trans ((II C).trans ac)⟩;simp[intOf];omega
  ·have b9:k=g2:=Ϥ;subst b9;have cg:¬((k:Int)<(k:Int)):=Ϥ;have ax:Ϣ (m.map CO.chg=f.flatMap (toldOf p v)):=by
    show _=_;rw[aw.o,<-H.o,take_length]
   have ap:m.length<=1000000:=Ϥ;have KM:Ϣ (CT 358 #[ω b,vI r,vS g1 k g3] wr λe d=>e= .returned (.tuple #[])/\∃N,JSt D d b T p x (AU s r (DL (f.map (·.seq)) (Av s r))) N M m/\My wr d):=VD b T p x s y M m r (g1,k,g3) Z f (w.heap.size+1) D wr O.o hT HG.o.2.1 HI.o ay.o (by have:=HQ.o.1;omega) HQ.o.2;have ci:¬((k:Int)<(k:Int)):=Ϥ;by_cases g:k=0
   ·have ah:Ϣ (PT=if c2=true then [⟨1,Ch p j v.row⟩]else []):=by
     show _=_;have:f=[]:=length_eq_zero_iff.1 (by rw[H.o,g]);rw[ae.o,this];simp
    have au:Ϣ ((!f.isEmpty)=false):=by
     show _=_;have:f=[]:=length_eq_zero_iff.1 (by rw[H.o,g]);rw[this];rfl
    have bq:Ϣ (m.map CO.chg=[]):=by
     show _=_;have:f=[]:=length_eq_zero_iff.1 (by rw[H.o,g]);rw[ax.o,this];rfl
    subst g;go_wp2_with (go_at_call 358;refine KM.o.mono ?_;rintro e X ⟨rfl,N,ao,U⟩;have P:Ϣ (JSt D X b T p x (AU s r (DL (f.map (·.seq)) (Av s r))) N M m):=ao;have n0:=U.cell az.o ϥ q0;have n2:=U.cell az.o ϥ q2;have nm:=a9.o _ _ _ _ _ P.o;have bc:Ϣ (∀d,ϣ X d->Δ d b 1 (vI md)/\Δ d w 0 (vI j)):=λd g=>⟨cLz g nm,cLz g n0⟩;have av:Ϣ (Cy T w X):=((Bl am).trans Q.o.m).trans U.m;clear ao U);refine gr.Dm 13 rfl ϧ (S:=λd=>Δ d b 1 (vI md)/\Δ d w 0 (vI j)) (bc.o _ bR.drew) (λaa=>?_)
    iterate 11 refine CE 13 aa ?_
    refine rD 11 λK hK=>?_;go_simp;go_at_call 354;refine(bu.o _).mono ?_;rintro e wk ⟨rfl,rfl⟩;go_wp2_with fail;refine hK.out _ _ aa (λaa=>?_);clear hK K
    try simp only[Act.put,sI,sZ,sSz]
    refine tkz 12 75 aa ?_;refine wpAnyH_done ϧ ?_ _
    cases c2 with
    |true=>
     have be:Ϣ (∀c,ϣ X c->CT 356 #[ω b,vI j,vS G rl J] c λe d=>(∃A B,e= .returned (vS A (Ch p j v.row).length B)/\AM d c (vS A (Ch p j v.row).length B) (Ch p j v.row))/\ϣ c d):=λc o=>bd.o c (Af P.o.box.plan o) (P.o.bl.trans (o.mono P.o.bl.size));obtain⟨AR,ak⟩:=nM (Ch p j v.row);rw[ak]at be ah;obtain⟨an,al⟩:=nM AR.length;rw[al]at be;clear ak al;go_wp2_with (first
      |(go_at_call 356;refine(be.o _ bR.drew).mono ?_;rintro e w7 ⟨⟨b6,b7,rfl,bm⟩,a3⟩;have bz:ϣ X w7:=bR.drew.trans a3)
      |(go_at_call 357;refine(Mb P.o hT ap bz bm).mono ?_;rintro e w8 ⟨rfl,t8,ab,ac⟩))
     go_ret;exact⟨Aa au.o.symm,N,t8,_,ab,by rw[map_append,bq.o,ah.o];rfl,av.o.trans ((Bl bz).trans ac.m)⟩
    |false=>
     go_wp2;go_ret;exact⟨Aa au.o.symm,N,M,m,P.o.below bR.drew,by rw[bq.o,ah.o];rfl,av.o.trans (Bl bR.drew)⟩
   ·have ah:Ϣ (PT=f.flatMap (toldOf p v)):=by
     show _=_;have:f.isEmpty=false:=by
      cases hP:f with
      |nil=>rw[hP]at H;exact absurd H.o.symm g
      |cons a l=>rfl
     rw[ae.o,this];simp
    have au:Ϣ ((!f.isEmpty)=true):=by
     show _=_
     cases hP:f with
     |nil=>rw[hP]at H;exact absurd H.o.symm g
     |cons a l=>rfl
    have cl:((k:Int)==0)=false:=by
     rw[beq_eq_false_iff_ne];omega
    have cm:(0:Int)<(k:Int):=Ϥ;go_wp2_with (go_at_call 358;refine KM.o.mono ?_;rintro e X ⟨rfl,N,ao,U⟩;have P:Ϣ (JSt D X b T p x (AU s r (DL (f.map (·.seq)) (Av s r))) N M m):=ao;have n0:=U.cell az.o ϥ q0;have n2:=U.cell az.o ϥ q2;have nm:=a9.o _ _ _ _ _ P.o;have bc:Ϣ (∀d,ϣ X d->Δ d b 1 (vI md)/\Δ d w 0 (vI j)):=λd g=>⟨cLz g nm,cLz g n0⟩;have av:Ϣ (Cy T w X):=((Bl am).trans Q.o.m).trans U.m;clear ao U);refine gr.Dm 13 rfl ϧ (S:=λd=>Δ d b 1 (vI md)/\Δ d w 0 (vI j)) (bc.o _ bR.drew) (λaa=>?_)
    iterate 13 first|refine CE 13 aa ?_|refine GI 13 aa ?_
    refine wpAnyH_done ϧ ?_ _;go_wp2;go_ret;exact⟨Aa (by rw[au.o];simp;omega),N,M,m,P.o.below bR.drew,by rw[ax.o,ah.o],av.o.trans (Bl bR.drew)⟩
theorem N8(h:pl.Ag p=0)(a:p.kind=1):(-1099511627776<=p.low/\p.low<=1099511627776)/\(-1099511627776<=p.high/\p.high<=1099511627776):=by
 have:=(pl.Bv h).2.1.1;rw[if_pos a]at this;exact this
theorem AbM{t:Int}(h:tm.Bt t=true): -1099511627776<=t/\t<=1099511627776:=by
 unfold tm.Bt at h;exact of_decide_eq_true h
theorem YY(b:Nat)(p:pl.Pln)(x:pl.PA)(s:Jn)(y:JX)(v:Ev)(i:ϡ)(n:Nat)(I w:Ϡ)(h:JSt I w b 270 p x s y (vS none 0 0) [])(L:p.kind=1)(hg:goodJ p s)(F:comeJ p s v)(hv:vl.rowAt I i v.row):
 χ 342 #[ω b,El p v i n] w λe f=>e= .returned (.bool (!(partners p s v).isEmpty))/\∃A u j,JSt I f b 270 p x (Dj p s v) A u j/\j.map CO.chg=DZ p s v/\Cy 270 w f:=by
 have hT:calmC 270:=⟨⟨ϥ,ϥ,ϥ⟩,ϥ⟩;have r:Ϣ (∀J,ϣ w J->CT 346 #[ω b,El p v i n,vI (GN p v),vI (toJ p v)] J λe f=>e= .returned (.bool (!(partners p s v).isEmpty))/\∃A u j,JSt I f b 270 p x (Dj p s v) A u j/\j.map CO.chg=DZ p s v/\Cy 270 J f):=λJ hb=>AbL b _ p x s y v i n (GN p v) (toJ p v) I J (h.below hb) hT ϥ hg F.side hv F.err;have hf:=N8 (pl.Fv F.err).1 L;have ht:=AbM F.time;have G:=h.box.plan.2.2.1;have H:=h.box.plan.2.2.2.1;have lb:=h.box.lt;have q:Ϣ ((v.side=1->GN p v=v.time+p.low/\toJ p v=v.time+p.high)/\(v.side≠1->GN p v=v.time - p.high/\toJ p v=v.time - p.low)):=by
  unfold GN toJ;rw[if_pos L,if_pos L];exact⟨λe=>by rw[if_pos e,if_pos e];exact⟨rfl,rfl⟩,λe=>by rw[if_neg e,if_neg e];exact⟨rfl,rfl⟩⟩
 clear h L hg F hv;unfold El at r⊢;obtain⟨C,Z⟩:=nM (pl.A6 p v.side v.row);obtain⟨D,h2⟩:=nM (pl.hasB p v.side v.row);obtain⟨E,ab⟩:=nM v.row.length;obtain⟨R,hR⟩:=nM (!(partners p s v).isEmpty);obtain⟨m,O⟩:=nM p.low;obtain⟨l,M⟩:=nM p.high;have K:Ϣ (p.low=m/\p.high=l):=⟨O,M⟩;rw[O]at hf G q;rw[M]at hf H q;rw[hR]at r⊢;rw[Z,h2,ab]at r⊢;obtain⟨o,ac⟩:=nM v.side;obtain⟨c,P⟩:=nM v.time;rw[ac,P]at r q⊢;rw[P]at ht;obtain⟨fr,aa⟩:=nM (GN p v);obtain⟨tO,ad⟩:=nM (toJ p v);rw[aa,ad]at r q;clear Z h2 ab hR O M ac P aa ad;go_enter func342,ntmps342;by_cases B:o=1
 ·have e1:(o==1)=true:=by simpa using B
  obtain⟨Q,S⟩:=q.o.1 B;clear B q;subst Q S;have ae:IntKind.i64.wrap (c+m)=c+m:=by rw[ch.Cq];omega
  have af:IntKind.i64.wrap (c+l)=c+l:=by rw[ch.Cq];omega
  go_wp2;generalize a:(World.alloc w _)=V;have k:ϣ w V:=by rw[<-a];exact ϯ
  have T:Δ V w 0 (vI o):=by subst a;go_simp
  have U:Δ V w 1 (vI c):=by subst a;go_simp
  have W:Δ V w 2 (vS i E n):=by subst a;go_simp
  have X:Δ V w 3 (.string C):=by subst a;go_simp
  have Y:Δ V w 4 (.bool D):=by subst a;go_simp
  have g:Ϣ (Ah V w 208):=by subst a;exact⟨_,_,World.alloc_heap_new w _⟩
  replace G:=cLz k G;replace H:=cLz k H;clear a
  go_region_held3 (λf=>ϛ f w (vI o) (vI c) (vS i E n) (.string C) (.bool D) (Δ f b 2 (vI m)/\Δ f b 3 (vI l))) (first|exact hy|go_keep)
   (first
    |(go_at_call 346;refine(r.o _ k.drew).mono ?_;rintro e z ⟨rfl,A,u,j,t,N,d⟩;have hy:ϛ z w (vI o) (vI c) (vS i E n) (.string C) (.bool D) (Δ z b 2 (vI m)/\Δ z b 3 (vI l)):=⟨d.cell g.o ϥ ϥ ϥ T,d.cell g.o ϥ ϥ ϥ U,d.cell g.o ϥ ϥ ϥ W,d.cell g.o ϥ ϥ ϥ X,d.cell g.o ϥ ϥ ϥ Y,K.o.1▸t.box.plan.2.2.1,K.o.2▸t.box.plan.2.2.2.1⟩))
  all_goals
   go_wp2;go_ret;exact⟨rfl,A,u,j,t,N,(Bl (k.drew)).trans d⟩
 ·have e1:(o==1)=false:=by simpa using B
  obtain⟨Q,S⟩:=q.o.2 B;clear B q;subst Q S;have ae:IntKind.i64.wrap (c - l)=c - l:=by rw[ch.Cq];omega
  have af:IntKind.i64.wrap (c - m)=c - m:=by rw[ch.Cq];omega
  go_wp2;generalize a:(World.alloc w _)=V;have k:ϣ w V:=by rw[<-a];exact ϯ
  have T:Δ V w 0 (vI o):=by subst a;go_simp
  have U:Δ V w 1 (vI c):=by subst a;go_simp
  have W:Δ V w 2 (vS i E n):=by subst a;go_simp
  have X:Δ V w 3 (.string C):=by subst a;go_simp
  have Y:Δ V w 4 (.bool D):=by subst a;go_simp
  have g:Ϣ (Ah V w 208):=by subst a;exact⟨_,_,World.alloc_heap_new w _⟩
  replace G:=cLz k G;replace H:=cLz k H;clear a
  go_region_held3 (λf=>ϛ f w (vI o) (vI c) (vS i E n) (.string C) (.bool D) (Δ f b 2 (vI m)/\Δ f b 3 (vI l))) (first|exact hy|go_keep)
   (first
    |(go_at_call 346;refine(r.o _ k.drew).mono ?_;rintro e z ⟨rfl,A,u,j,t,N,d⟩;have hy:ϛ z w (vI o) (vI c) (vS i E n) (.string C) (.bool D) (Δ z b 2 (vI m)/\Δ z b 3 (vI l)):=⟨d.cell g.o ϥ ϥ ϥ T,d.cell g.o ϥ ϥ ϥ U,d.cell g.o ϥ ϥ ϥ W,d.cell g.o ϥ ϥ ϥ X,d.cell g.o ϥ ϥ ϥ Y,K.o.1▸t.box.plan.2.2.1,K.o.2▸t.box.plan.2.2.2.1⟩))
  all_goals
   go_wp2;go_ret;exact⟨rfl,A,u,j,t,N,(Bl (k.drew)).trans d⟩
def LZ(p:pl.Pln)(s:Jn)(v:Ev):Jn:=if p.kind=3 then(if v.side=1 then s else AU s 1 (DL ((Ik p s v).map (·.seq)) s.L))else Dj p s v
def Rv(p:pl.Pln)(s:Jn)(v:Ev):Bool:=if p.kind=3 then(if v.side=1 then !(OQ p s v).isEmpty else false)else !(partners p s v).isEmpty
def Ps(p:pl.Pln)(s:Jn)(v:Ev):List ch.Chg:=if p.kind=3 then(if v.side=1 then RL p s v else RO p s v)else DZ p s v
theorem Xo(p:pl.Pln)(s:Jn)(v:Ev):Iv p s v=(Fc p (LZ p s v) v (Rv p s v),Ps p s v):=by
 unfold Iv LZ Rv Ps;by_cases a:p.kind=3
 ·rw[if_pos a,if_pos a,if_pos a,if_pos a];by_cases b:v.side=1
  ·rw[if_pos b,if_pos b,if_pos b,if_pos b]
  ·rw[if_neg b,if_neg b,if_neg b,if_neg b]
 ·rw[if_neg a,if_neg a,if_neg a,if_neg a]
end jn
namespace jn
open vl bf
structure KindK(p:pl.Pln)(T kp:TypeId)(ff fm:FuncId):Prop where
 calm:calmC T
 co:T≠208
 cj:T≠38
 cv:T≠90
 cp:T≠32
 go:∀(K:Nat) (w:Ϡ),(method 533 kp (.pointer (ϋ K)) "meetwater/join.goOn").run Tryz.prog w= .ok (339,.pointer (ϋ K)) w
 fo:∀(K:Nat) (w:Ϡ),(method 533 kp (.pointer (ϋ K)) "meetwater/join.forget").run Tryz.prog w= .ok (ff,.pointer (ϋ K)) w
 me:∀(K:Nat) (w:Ϡ),(method 533 kp (.pointer (ϋ K)) "meetwater/join.meet").run Tryz.prog w= .ok (fm,.pointer (ϋ K)) w
 ke:∀(K:Nat) (w:Ϡ),(method 533 kp (.pointer (ϋ K)) "meetwater/join.keep").run Tryz.prog w= .ok (340,.pointer (ϋ K)) w
 ma:∀(K:Nat) (w:Ϡ),(method 533 kp (.pointer (ϋ K)) "meetwater/join.made").run Tryz.prog w= .ok (341,.pointer (ϋ K)) w
 ni:∀(K:Nat) (w:Ϡ),(nilAhead 533 kp (.pointer (ϋ K)) "meetwater/join.keep").run Tryz.prog w= .ok (some false) w
 ef:∀args w,(callFunc ff args).run Tryz.prog w= .ok (.enter ff args) w
 em:∀args w,(callFunc fm args).run Tryz.prog w= .ok (.enter fm args) w
 cf:∀(b:Nat) (x:pl.PA) (s:Jn) (y:JX) (t:Value) (L:List CO) (w0 w:Ϡ),JSt w0 w b T p x s y t L->pl.wfPlan p->pl.planAt w0 p x->goodJ p s->Calls Tryz.prog ff #[ω b] w λe w'=>e= .returned (.tuple #[])/\∃y',JSt w0 w' b T p x (Eu p s) y' t L/\Cy T w w'
 cm:∀(b:Nat) (x:pl.PA) (s:Jn) (y:JX) (v:Ev) (ra:ϡ) (rc:Nat) (w0 w:Ϡ),JSt w0 w b T p x s y (vS none 0 0) []->goodJ p s->comeJ p s v->vl.rowAt w0 ra v.row->Calls Tryz.prog fm #[ω b,El p v ra rc] w λe w'=>e= .returned (.bool (Rv p s v))/\∃y' t' L',JSt w0 w' b T p x (LZ p s v) y' t' L'/\L'.map CO.chg=Ps p s v/\Cy T w w'
theorem kinds{p:pl.Pln}(d:p.kind=1):∃l m,KindK p (kindT p.kind) (kindP p.kind) l m:=by
 have k:kindT p.kind=270:=by unfold kindT;rw[if_pos d]
 have j:kindP p.kind=268:=by unfold kindP;rw[if_pos d]
 rw[k,j];refine⟨338,342,⟨⟨ϥ,ϥ,ϥ⟩,ϥ⟩,ϥ,ϥ,ϥ,ϥ,λK w=>by kernel_rfl,λK w=>by kernel_rfl,λK w=>by kernel_rfl,λK w=>by kernel_rfl,λK w=>by kernel_rfl,λK w=>by kernel_rfl,enters_of func338 ϧ rfl,enters_of func342 ϧ rfl,λb x s y t L f w c r o a=>?_,λb x s y v u z f w c a n q=>?_⟩
 ·have e:Eu p s=M4 p s:=by unfold Eu;rw[if_neg Ϥ]
  rw[e];exact UZ b _ p x s y t L f w c ⟨⟨ϥ,ϥ,ϥ⟩,ϥ⟩ ϥ r o a
 ·have g:Rv p s v= !(partners p s v).isEmpty:=by unfold Rv;rw[if_neg Ϥ]
  have h:LZ p s v=Dj p s v:=by unfold LZ;rw[if_neg Ϥ]
  have i:Ps p s v=DZ p s v:=by unfold Ps;rw[if_neg Ϥ]
  rw[g,h,i];exact YY b p x s y v u z f w c d a n q
end jn
namespace jn
open vl bf
attribute [local go_sem] Oper.semAt_some
theorem TO{n:Array Oper}{rest:List Oper}{o:Oper}{a:Act}{Q:Exit->Act->World->Prop}(t:o.guard=none)(s x:Operand)
 (z:o.op= .call {callee:=.builtin .append,args:=#[s,x],argTypes:=#[33,33]})
 (base:Nat) (v:Value) (L:List EM) (f:ByteArray) (k j:Int) (ad:ϡ) (l cap:Nat) (i:Bool) (c:Ϡ) (b:Nat) (K:L.length=b) (y:c.ownsRow base 166 5 v b (Aw L)) (J:b<=1000000) (I:base<=c.heap.size)
 (A:a.eval s=v) (B:a.eval x=vS (ϋ c) 1 1)
 (h:∀g e d,d.ownsRow base 166 5 (vS (ϋ g) (b+1) e) (b+1) (Aw L++[.string f,vI k,vI j,vS ad l cap,.bool i])->(c.alloc (.cells (φ f k j ad l cap i) 166)).grownBy d v.ownBlock->wpList Tryz.prog n Q rest (a.put o.dst (vS (ϋ g) (b+1) e)) d):
 wpList Tryz.prog n Q (o::rest) a (ϊ c (φ f k j ad l cap i) 166):=by
 obtain⟨F,w,C,D,E⟩:=info_parts Ue;refine wpList_append_lies _ t s x 33 z base 166 F (.agg #[ϐ,Ϗ,Ϗ,ώ,ϑ]) 5 64 underlying33 w C D E rfl ϥ v b (Aw L) A
  (y.alloc _) ⟨c,0,none⟩ 1 1 [.string f,vI k,vI j,vS ad l cap,.bool i] B rfl (Er _ _ _ _ _ _ _) (by intro u m;simp at m;rcases m with rfl|rfl|rfl|rfl|rfl<;>rfl) ϥ Ϯ Ϥ ϩ (c.heap.size+1) Ϧ ?_
 intro g e d q r G H;exact h g e d q r
end jn
end Go.Proofs.YtfkihidbnfkbaaaGreatDoor
