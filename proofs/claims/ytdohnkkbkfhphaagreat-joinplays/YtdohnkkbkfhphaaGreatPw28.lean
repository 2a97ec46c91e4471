import Derived.Test.YtdohnkkbkfhphaaGreatPw27
set_option linter.all false
set_option maxHeartbeats 8000000
set_option maxRecDepth 100000
open Go.ChangeShapes Go.WideShapes Go.ChangeAt Go.RowKit List
open Inhabited renaming default->ϰ
namespace Go.Proofs.YtdohnkkbkfhphaaGreat
open Go.Proofs.Tryz
namespace jn
open vl bf
attribute [local go_sem] Oper.semAt_some
variable {side : Int} {k m q : Nat} {p : pl.Pln} {r : Option Nat} {s : Jn} {l ml : List Ent} {v : Value} {X w' w2 w3 wr : ϛ} {T : TypeId} {o : Obj}
def toldOf(p:pl.Pln)(v:Ev)(e:Ent):List ch.Chg:=if keepsJ p.mode (3 - v.side)=true/\e.met=false then [⟨3,AN p (3 - v.side) e.row⟩,⟨4,AJ v.side v.row e.row⟩]else [⟨1,AJ v.side v.row e.row⟩]
def pairT(p:pl.Pln)(v:Ev)(l:List Ent):List ch.Chg:=l.flatMap (toldOf p v)++if l.isEmpty=true/\keepsJ p.mode v.side=true then [⟨1,AN p v.side v.row⟩]else []
theorem LV(p:pl.Pln)(s:Jn)(v:Ev):Ck p s v=pairT p v (Cv p s v (DX p v) (toJ p v)):=rfl
theorem Hl(h:pl.Bz side=true):pl.Bz (3 - side)=true/\3 - (3 - side)=side:=by
 rcases side_is h with rfl|rfl<;>exact⟨Ϡ,Ϡ⟩
theorem L0{α β:Type}(f:α->List β){l:List α}{d:α}(h:k<l.length):(l.take (k+1)).flatMap f=(l.take k).flatMap f++f (l.getD k d):=by
 rw[take_succ_eq_append_getElem h,flatMap_append,gDe,gEe h];simp
theorem Bp{r:List Cel}(h:pl.Be p side r=0):0<r.length/\r.length<=400:=by
 have a:=pl.D7 h;have b:=Z5 a.1 side;rw[a.2.2.1];omega
theorem C8(h:goodJ p s)(d:pl.Bz side=true){y:Ent}(hy:y∈Aa (bufOf s side)):pl.Be p side y.row=0:=by
 have b:∀{c:Int},EW p c y=true->pl.Be p c y.row=0:=λa=>by
  unfold EW at a;simp only[Bool.and_eq_true]at a;exact of_decide_eq_true a.1.1
 rcases side_is d with rfl|rfl
 ·exact b (h.ok.rowL y hy)
 ·exact b (h.ok.rowR y hy)
theorem Td(b:Nat)(T:TypeId)(p:pl.Pln)(x:pl.PA)(s:Jn)(y:JX)(v:Ev)(J:Ϝ)(O:Nat)(fr C:Int)(H w:ϛ)(h:JSt H w b T p x s y (vS none 0 0) [])(hT:calmC T)(bh:T≠92)(hg:goodJ p s)(hs:pl.Bz v.side=true)(hv:vl.rowAt H J v.row)(he:pl.Be p v.side v.row=0):
 η 262 #[μ b,Cg p v J O,vI fr,vI C] w λe w'=>e= .returned (.bool (!(Cv p s v fr C).isEmpty))/\∃Q P u,JSt H w' b T p x (Av s (3 - v.side) (Cb ((Cv p s v fr C).map (·.seq)) (bufOf s (3 - v.side)))) Q P u/\u.map CO.chg=pairT p v (Cv p s v fr C)/\BQ T w w':=by
 have hp:=(pl.D7 he).1;have ho:=Hl hs;have aq:=Bp he;have HJ:=hV0 h;have HG:ϝ (goodJ p s/\okB (bufOf s (3 - v.side))/\∀z∈Aa (bufOf s (3 - v.side)),wfE z/\wfP (Az z)):=⟨hg,hg.of _⟩;have KO:=hIz (λ(c:ϛ)=>IK v.side c hs);have b1:∀c s y t L,JSt H c b T p x s y t L->bufAt c (bufOf s (3 - v.side)) (Bl y (3 - v.side)):=λc s y t L hj=>by
  unfold bufOf Bl;split
  ·exact hj.r.at
  ·exact hj.l.at
 have KW:ϝ (∀c,Ϟ w c->CT 266 #[μ b,Cg p v J O,vI fr,vI C] c λe w'=>(∃hh es,e= .returned (hdV hh)/\OE w' c (hdV hh) es (Cv p s v fr C))/\Ϟ c w'):=λc A=>Ih b p x s y _ v J O fr C c hs (HJ.o.below A).box (b1 _ _ _ _ _ (HJ.o.below A)) HG.o.2.1 HG.o.2.2;have KP:=hIz (λside (c:ϛ)=>Ll p.mode side c);have KJ:=hIz (λ(q:List Cel) (qa:Ϝ) (qc:Nat) (c:ϛ) (h1:0<q.length) (h2:q.length<=400) (A:Ϟ H c) (hq:vl.rowAt c qa q)=>DK v.side J qa O qc v.row q c aq.1 h1 aq.2 h2 (vl.Ac hv A) hq);have KA:=hIz (λ(q:List Cel) (qa:Ϝ) (qc:Nat) (c:ϛ) (h1:0<q.length) (h2:q.length<=400) (A:boxP c b p x) (hq:vl.rowAt c qa q)=>IE b p x (3 - v.side) qa qc q c hp ho.1 A hq h1 h2);have bc:=hIz (λ(c:ϛ) (A:boxP c b p x) (al:Ϟ H c)=>IE b p x v.side J O v.row c hp hs A (vl.Ac hv al) aq.1 aq.2);have bo:ϝ (∀k,k<(Cv p s v fr C).length->(0<((Cv p s v fr C).getD k ϰ).row.length/\((Cv p s v fr C).getD k ϰ).row.length<=400)):=λk hk=>Bp (C8 hg ho.1 (Kd (AD hk)));have HQ:ϝ ((Cv p s v fr C).length<=4096/\∀z∈Cv p s v fr C,pl.i64 z.seq):=⟨Kc HG.o.2.1,λz g=>(HG.o.2.2 z (Kd g)).2.seq⟩;have HI:ϝ (∀z∈Aa (bufOf s (3 - v.side)),pl.i64 z.seq):=λz g=>(HG.o.2.2 z g).2.seq;have a0:ϝ (∀e,toldOf p v e=if keepsJ p.mode (3 - v.side)=true/\e.met=false then [⟨3,AN p (3 - v.side) e.row⟩,⟨4,AJ v.side v.row e.row⟩]else [⟨1,AJ v.side v.row e.row⟩]):=λe=>rfl;have ac:ϝ (pairT p v (Cv p s v fr C)=(Cv p s v fr C).flatMap (toldOf p v)++if (Cv p s v fr C).isEmpty=true/\keepsJ p.mode v.side=true then [⟨1,AN p v.side v.row⟩]else []):=rfl;have cd:=h.bl;obtain⟨f,bv⟩:=nM (Cv p s v fr C);rw[bv]at KW bo HQ ac⊢;obtain⟨PT,bw⟩:=nM (pairT p v f);rw[bw]at ac⊢;unfold Cg at KW⊢;obtain⟨kb,h1⟩:=nM (pl.Ap p v.side v.row);obtain⟨kh,h2⟩:=nM (pl.hasB p v.side v.row);obtain⟨rl,a7⟩:=nM v.row.length;have cc:=hV0 a7;rw[h1,h2,a7]at KW⊢;rw[a7]at KJ bc
 obtain⟨B,bm⟩:=nM (3 - v.side);have cb:=hV0 bm;rw[bm]at KO KA HI HG a0⊢;obtain⟨j,b2⟩:=nM v.side;obtain⟨md,a6⟩:=nM p.mode;have a8:ϝ (∀c s y t L,JSt H c b T p x s y t L->Δ c b 1 (vI md)):=λc s y t L hj=>by rw[<-a6];exact hj.box.plan.2.1
 obtain⟨c1,bi⟩:=nM (keepsJ p.mode B);obtain⟨c2,bj⟩:=nM (keepsJ p.mode v.side);have bg:ϝ (∀c,CT 268 #[vI md,vI B] c λe w'=>e= .returned (.bool c1)/\w'=c):=λc=>by rw[<-bi,<-a6];exact KP.o B c
 have bs:ϝ (∀c,CT 268 #[vI md,vI v.side] c λe w'=>e= .returned (.bool c2)/\w'=c):=λc=>by rw[<-bj,<-a6];exact KP.o v.side c
 rw[bi]at a0;rw[bj]at ac;rw[b2]at KO KJ bc KW bs a0 ac⊢;obtain⟨b4,b3⟩:=nM v.time;rw[b3]at KW⊢;clear h hg hs hv he hp ho aq bv h1 h2 a7 bm a6 bi bj b2 b3 b1 KP bw;obtain⟨n,hn⟩:=nM f.length;have M:=hV0 hn;have cj:n<=4096:=by rw[<-hn];exact HQ.o.1
 clear hn;go_enter func262,ntmps262;go_wp2_with (first
  |(go_at_call 264;refine(KO.o _).mono ?_;rintro e w2 ⟨rfl,rfl⟩)
  |(go_at_call 266;refine(KW.o _ Ϫ).mono ?_;rintro e V ⟨⟨hh,es,rfl,ho⟩,a3⟩;have q0:=cLz a3 (show Δ (ξ w #[vI j,vI b4,vS J rl O,.string kb,.bool kh] 92) w 0 (vI j) by go_simp);have q2:=cLz a3 (show Δ (ξ w #[vI j,vI b4,vS J rl O,.string kb,.bool kh] 92) w 2 (vS J rl O) by go_simp);have ba:ϝ (An V w.heap.size 92):=Ae ⟨_,_,World.alloc_heap_new w _⟩ a3;have al:Ϟ w V:=Ϫ.trans (a3.mono ϡ);have a9:ϝ (OE V (w.heap.size+1) (hdV hh) es f):=(by have:=ho;rw[World.size_alloc]at this;exact this);clear ho;have aw:ϝ (hh.2.1=n):=(by show _=_;rw[<-M.o,<-a9.o.len];exact(Dq (p:=(hh,es)) a9.o).1.1);obtain⟨g1,g2,g3⟩:=hh;have b9:g2=n:=aw.o;subst b9;unfold hdV;dsimp only))
 go_loopw [24] (λi wr=> ∃(k:Nat) (P:Value) (u:List CO),k<=g2/\i=vI k/\ϝ (JSt H wr b T p x s y P u)/\ϝ (u.map CO.chg=(f.take k).flatMap (toldOf p v))/\u.length<=2 * k/\ϝ (Cs T V wr)) (λi _=>g2 - (intOf i).toNat)
 case atStart=>exact⟨0,_,[],Nat.zero_le _,rfl,HJ.o.below al,rfl,Nat.le_refl _,Cs.refl _ _⟩
 case round=>
  obtain⟨k,P,u,hk,rfl,R,av,ci,W⟩:=hrel;have q0:=W.o.cell ba.o bh.symm Ϡ q0;have q2:=W.o.cell ba.o bh.symm Ϡ q2;have ay:ϝ (An wr w 92):=W.o.ty ba.o bh.symm Ϡ;have ax:ϝ (OE wr (w.heap.size+1) (hdV (g1,g2,g3)) es f):=W.o.oe hT a9.o;have m1:=a8.o _ _ _ _ _ R.o;have lq:w.heap.size<wr.heap.size:=bLt _ _ q0;have lb:b<wr.heap.size:=R.o.box.lt;by_cases ca:k<g2
  ·have a5:k<f.length:=by rw[M.o];exact ca
   obtain⟨gb,cm,ea,x1,x2,x3,x4,x5⟩:=(Dq (p:=((g1,g2,g3),es)) ax.o).2 k (by rw[ax.o.len];exact a5);dsimp only at ea;subst ea;have ae:=ax.o.ers.2 k a5;have af:=bo.o k a5;have az:ϝ ((f.take (k+1)).flatMap (toldOf p v)=(f.take k).flatMap (toldOf p v)++toldOf p v (f.getD k ϰ)):=L0 (toldOf p v) a5;have I:=a0.o (f.getD k ϰ);obtain⟨E,hE⟩:=nM (f.getD k ϰ);rw[hE]at ae af az I;obtain⟨⟨ek,et,a1,⟨N,r2,r3⟩,em⟩,g⟩:∃z,es.getD k ϰ=z:=⟨_,rfl⟩;rw[g]at x1 x2 x3 x4 x5 ae;unfold hdV at x4;dsimp only at x1 x2 x3 x4 x5;have bz:em=E.met:=ae.met;have bn:r2=E.row.length:=ae.len;have bq:ϝ (vl.rowAt wr N E.row):=ae.row;have ai:ϝ (∀c,Ϟ wr c->CT 267 (ν j J rl O N r2 r3) c λe w'=>(∃D F,e= .returned (vS D (AJ j v.row E.row).length F)/\A4 w' c (vS D (AJ j v.row E.row).length F) (AJ j v.row E.row))/\Ϟ c w'):=λc A=>by rw[bn];exact KJ.o E.row N r3 c af.1 af.2 (R.o.bl.trans (A.mono R.o.bl.size)) (vl.Ac bq.o A)
   have be:ϝ (∀c,Ϟ wr c->CT 270 #[μ b,vI B,vS N r2 r3] c λe w'=>(∃D F,e= .returned (vS D (AN p B E.row).length F)/\A4 w' c (vS D (AN p B E.row).length F) (AN p B E.row))/\Ϟ c w'):=λc A=>by rw[bn];exact KA.o E.row N r3 c af.1 af.2 (Ad R.o.box.plan A) (vl.Ac bq.o A)
   obtain⟨JR,bu⟩:=nM (AJ j v.row E.row);obtain⟨AR,aj⟩:=nM (AN p B E.row);rw[bu]at ai I;rw[aj]at be I;obtain⟨jn,b0⟩:=nM JR.length;obtain⟨an,ak⟩:=nM AR.length;rw[b0]at ai;rw[ak]at be;rw[<-bz]at I;have i1:(0:Int)<=(k:Int):=ϟ;have i2:(k:Int)<(g2:Int):=ϟ;have br:ϝ (toldOf p v E=if c1=true/\em=false then [⟨3,AR⟩,⟨4,JR⟩]else [⟨1,JR⟩]):=I;clear ae af hE g bz bn bu aj b0 ak I;have ao:u.length<=1000000:=ϟ;by_cases a4:c1=true/\em=false
   ·obtain⟨e1,e2⟩:=a4;have I:ϝ (toldOf p v E=[⟨3,AR⟩,⟨4,JR⟩]):=by show _=_;rw[br.o,if_pos ⟨e1,e2⟩]
    subst e1 e2;go_wp2_with (first
     |(go_at_call 267;refine(ai.o _ Ϫ).mono ?_;rintro e w5 ⟨⟨D,F,rfl,ap⟩,Y⟩;have G:Ϟ wr w5:=Ϫ.trans (Y.mono ϡ);have z3:=cLz Y (show Δ (ξ wr (ζ ek et a1 N r2 r3 false) 63) wr 3 (vS N r2 r3) by go_simp);have z4:=cLz Y (show Δ (ξ wr (ζ ek et a1 N r2 r3 false) 63) wr 4 (.bool false) by go_simp);have m5:=cLz G m1;have ah:ϝ (A4 w5 wr.heap.size (vS D jn F) JR):=World.ownsRow.mono ap ϡ)
     |(go_at_call 268;refine(bg.o _).mono ?_;rintro e w6 ⟨rfl,rfl⟩)
     |(go_at_call 270;refine(be.o _ G).mono ?_;rintro e w7 ⟨⟨b5,b6,rfl,bk⟩,a2⟩)
     |(go_at_call 269;refine(Qu R.o hT ao G ah.o a2 bk).mono ?_;rintro e w8 ⟨rfl,t8,aa,ab⟩))
    go_roundw
    case rel=>exact⟨k+1,t8,_,ϟ,by go_num,aa,by show _=_;rw[map_append,av.o,az.o,I.o];rfl,by rw[lAp];show _+2<=_;omega,W.o.trans ((Cf (bT G a2)).trans ab)⟩
    case measure=>simp[intOf];omega
   ·have I:ϝ (toldOf p v E=[⟨1,JR⟩]):=by show _=_;rw[br.o,if_neg a4]
    have b7:c1=false\/(c1=true/\em=true):=by
     cases c1<;>cases em<;>simp at a4⊢
    clear a4;rcases b7 with e1|⟨e1,e2⟩
    ·subst e1;go_wp2_with (first
      |(go_at_call 267;refine(ai.o _ Ϫ).mono ?_;rintro e w5 ⟨⟨D,F,rfl,ap⟩,Y⟩;have G:Ϟ wr w5:=Ϫ.trans (Y.mono ϡ);have z4:=cLz Y (show Δ (ξ wr (ζ ek et a1 N r2 r3 em) 63) wr 4 (.bool em) by go_simp);have m5:=cLz G m1;have ah:ϝ (A4 w5 wr.heap.size (vS D jn F) JR):=World.ownsRow.mono ap ϡ)
      |(go_at_call 268;refine(bg.o _).mono ?_;rintro e w6 ⟨rfl,rfl⟩)
      |(go_at_call 271;refine(Fz R.o hT ao G ah.o).mono ?_;rintro e w8 ⟨rfl,t8,aa,ab⟩))
     go_roundw
     case rel=>exact⟨k+1,t8,_,ϟ,by go_num,aa,by show _=_;rw[map_append,av.o,az.o,I.o];rfl,by rw[lAp];show _+1<=_;omega,W.o.trans ((Cf G).trans ab)⟩
     case measure=>simp[intOf];omega
    ·subst e1 e2;go_wp2_with (first
      |(go_at_call 267;refine(ai.o _ Ϫ).mono ?_;rintro e w5 ⟨⟨D,F,rfl,ap⟩,Y⟩;have G:Ϟ wr w5:=Ϫ.trans (Y.mono ϡ);have z4:=cLz Y (show Δ (ξ wr (ζ ek et a1 N r2 r3 true) 63) wr 4 (.bool true) by go_simp);have m5:=cLz G m1;have ah:ϝ (A4 w5 wr.heap.size (vS D jn F) JR):=World.ownsRow.mono ap ϡ)
      |(go_at_call 268;refine(bg.o _).mono ?_;rintro e w6 ⟨rfl,rfl⟩)
      |(go_at_call 271;refine(Fz R.o hT ao G ah.o).mono ?_;rintro e w8 ⟨rfl,t8,aa,ab⟩))
     go_roundw
     case rel=>exact⟨k+1,t8,_,ϟ,by go_num,aa,by show _=_;rw[map_append,av.o,az.o,I.o];rfl,by rw[lAp];show _+1<=_;omega,W.o.trans ((Cf G).trans ab)⟩
     case measure=>simp[intOf];omega
  ·have b8:k=g2:=ϟ;subst b8;have cf:¬((k:Int)<(k:Int)):=ϟ;have aw:ϝ (u.map CO.chg=f.flatMap (toldOf p v)):=by
    show _=_;rw[av.o,<-M.o,take_length]
   have ao:u.length<=1000000:=ϟ;have KM:ϝ (CT 272 #[μ b,vI B,vS g1 k g3] wr λe w'=>e= .returned (.tuple #[])/\∃Q,JSt H w' b T p x (Av s B (Cb (f.map (·.seq)) (bufOf s B))) Q P u/\JO wr w'):=Uj b T p x s y P u B (g1,k,g3) es f (w.heap.size+1) H wr R.o hT HG.o.2.1 HI.o ax.o (by have:=HQ.o.1;omega) HQ.o.2;have cg:¬((k:Int)<(k:Int)):=ϟ;by_cases g:k=0
   ·have ag:ϝ (PT=if c2=true then [⟨1,AN p j v.row⟩]else []):=by
     show _=_;have:f=[]:=length_eq_zero_iff.1 (by rw[M.o,g]);rw[ac.o,this];simp
    have ar:ϝ ((!f.isEmpty)=false):=by
     show _=_;have:f=[]:=length_eq_zero_iff.1 (by rw[M.o,g]);rw[this];rfl
    have bp:ϝ (u.map CO.chg=[]):=by
     show _=_;have:f=[]:=length_eq_zero_iff.1 (by rw[M.o,g]);rw[aw.o,this];rfl
    subst g;go_wp2_with (go_at_call 272;refine KM.o.mono ?_;rintro e X ⟨rfl,Q,am,Z⟩;have U:ϝ (JSt H X b T p x (Av s B (Cb (f.map (·.seq)) (bufOf s B))) Q P u):=am;have n0:=Z.cell ay.o Ϡ q0;have n2:=Z.cell ay.o Ϡ q2;have nm:=a8.o _ _ _ _ _ U.o;have bb:ϝ (∀w',Ϟ X w'->Δ w' b 1 (vI md)/\Δ w' w 0 (vI j)):=λw' g=>⟨cLz g nm,cLz g n0⟩;have au:ϝ (BQ T w X):=((A7 al).trans W.o.m).trans Z.m;clear am Z);refine gr.AQ 13 rfl Ϣ (S:=λw'=>Δ w' b 1 (vI md)/\Δ w' w 0 (vI j)) (bb.o _ bR.drew) (λd=>?_);refine tkz 0 63 d ?_;refine tkz 1 64 d ?_;refine tkz 2 65 d ?_;refine tkz 3 66 d ?_;refine tkz 4 67 d ?_;refine tkz 5 68 d ?_;refine tkz 6 69 d ?_;refine tkz 7 70 d ?_;refine tkz 8 71 d ?_;refine tkz 9 72 d ?_;refine tkz 10 73 d ?_;refine rD 11 λK hK=>?_;go_simp;go_at_call 268;refine(bs.o _).mono ?_;rintro e wk ⟨rfl,rfl⟩;go_wp2_with fail;refine hK.out _ _ d (λd=>?_);clear hK K
    try simp only[Act.put,sI,sZ,sSz]
    refine tkz 12 75 d ?_;refine wpAnyH_done Ϣ ?_ _
    cases c2 with
    |true=>
     have bd:ϝ (∀c,Ϟ X c->CT 270 #[μ b,vI j,vS J rl O] c λe w'=>(∃D F,e= .returned (vS D (AN p j v.row).length F)/\A4 w' c (vS D (AN p j v.row).length F) (AN p j v.row))/\Ϟ c w'):=λc A=>bc.o c (Ad U.o.box.plan A) (U.o.bl.trans (A.mono U.o.bl.size));obtain⟨AR,aj⟩:=nM (AN p j v.row);rw[aj]at bd ag;obtain⟨an,ak⟩:=nM AR.length;rw[ak]at bd;clear aj ak;go_wp2_with (first
      |(go_at_call 270;refine(bd.o _ bR.drew).mono ?_;rintro e w7 ⟨⟨b5,b6,rfl,bk⟩,a2⟩;have bx:Ϟ X w7:=bR.drew.trans a2)
      |(go_at_call 271;refine(Fz U.o hT ao bx bk).mono ?_;rintro e w8 ⟨rfl,t8,aa,ab⟩))
     go_ret;exact⟨Ab ar.o.symm,Q,t8,_,aa,by rw[map_append,bp.o,ag.o];rfl,au.o.trans ((A7 bx).trans ab.m)⟩
    |false=>
     go_wp2;go_ret;exact⟨Ab ar.o.symm,Q,P,u,U.o.below bR.drew,by rw[bp.o,ag.o];rfl,au.o.trans (A7 bR.drew)⟩
   ·have ag:ϝ (PT=f.flatMap (toldOf p v)):=by
     show _=_;have:f.isEmpty=false:=by
      cases hP:f with
      |nil=>rw[hP]at M;exact absurd M.o.symm g
      |cons a l=>rfl
     rw[ac.o,this];simp
    have ar:ϝ ((!f.isEmpty)=true):=by
     show _=_
     cases hP:f with
     |nil=>rw[hP]at M;exact absurd M.o.symm g
     |cons a l=>rfl
    have ck:((k:Int)==0)=false:=by
     rw[beq_eq_false_iff_ne];omega
    have cl:(0:Int)<(k:Int):=ϟ;go_wp2_with (go_at_call 272;refine KM.o.mono ?_;rintro e X ⟨rfl,Q,am,Z⟩;have U:ϝ (JSt H X b T p x (Av s B (Cb (f.map (·.seq)) (bufOf s B))) Q P u):=am;have n0:=Z.cell ay.o Ϡ q0;have n2:=Z.cell ay.o Ϡ q2;have nm:=a8.o _ _ _ _ _ U.o;have bb:ϝ (∀w',Ϟ X w'->Δ w' b 1 (vI md)/\Δ w' w 0 (vI j)):=λw' g=>⟨cLz g nm,cLz g n0⟩;have au:ϝ (BQ T w X):=((A7 al).trans W.o.m).trans Z.m;clear am Z);refine gr.AQ 13 rfl Ϣ (S:=λw'=>Δ w' b 1 (vI md)/\Δ w' w 0 (vI j)) (bb.o _ bR.drew) (λd=>?_);refine tkz 0 63 d ?_;refine tkz 1 64 d ?_;refine tkz 2 65 d ?_;refine tkz 3 66 d ?_;refine sk 4 67 d ?_;refine sk 5 68 d ?_;refine sk 6 69 d ?_;refine sk 7 70 d ?_;refine sk 8 71 d ?_;refine sk 9 72 d ?_;refine sk 10 73 d ?_;refine sk 11 74 d ?_;refine tkz 12 75 d ?_;refine wpAnyH_done Ϣ ?_ _;go_wp2;go_ret;exact⟨Ab (by rw[ar.o];simp;omega),Q,P,u,U.o.below bR.drew,by rw[aw.o,ag.o],au.o.trans (A7 bR.drew)⟩
theorem GU(h:pl.Al p=0)(a:p.kind=1):(-1099511627776<=p.low/\p.low<=1099511627776)/\(-1099511627776<=p.high/\p.high<=1099511627776):=by
 have:=(pl.Bj h).2.1.1;rw[if_pos a]at this;exact this
theorem Te{t:Int}(h:tm.Bc t=true): -1099511627776<=t/\t<=1099511627776:=by
 unfold tm.Bc at h;exact of_decide_eq_true h
theorem Y3(b:Nat)(p:pl.Pln)(x:pl.PA)(s:Jn)(y:JX)(v:Ev)(g:Ϝ)(u:Nat)(N w:ϛ)(h:JSt N w b 139 p x s y (vS none 0 0) [])(Q:p.kind=1)(hg:goodJ p s)(K:comeJ p s v)(hv:vl.rowAt N g v.row):
 η 258 #[μ b,Cg p v g u] w λe w'=>e= .returned (.bool (!(partners p s v).isEmpty))/\∃F D i,JSt N w' b 139 p x (CQ p s v) F D i/\i.map CO.chg=Ck p s v/\BQ 139 w w':=by
 have hT:calmC 139:=⟨⟨Ϡ,Ϡ,Ϡ⟩,Ϡ⟩;have B:ϝ (∀O,Ϟ w O->CT 262 #[μ b,Cg p v g u,vI (DX p v),vI (toJ p v)] O λe w'=>e= .returned (.bool (!(partners p s v).isEmpty))/\∃F D i,JSt N w' b 139 p x (CQ p s v) F D i/\i.map CO.chg=Ck p s v/\BQ 139 O w'):=λO hb=>Td b _ p x s y v g u (DX p v) (toJ p v) N O (h.below hb) hT Ϡ hg K.side hv K.err;have hf:=GU (pl.D7 K.err).1 Q;have ht:=Te K.time;have L:=h.box.plan.2.2.1;have M:=h.box.plan.2.2.2.1;have lb:=h.box.lt;have A:ϝ ((v.side=1->DX p v=v.time+p.low/\toJ p v=v.time+p.high)/\(v.side≠1->DX p v=v.time - p.high/\toJ p v=v.time - p.low)):=by
  unfold DX toJ;rw[if_pos Q,if_pos Q];exact⟨λe=>by rw[if_pos e,if_pos e];exact⟨rfl,rfl⟩,λe=>by rw[if_neg e,if_neg e];exact⟨rfl,rfl⟩⟩
 clear h Q hg K hv;unfold Cg at B⊢;obtain⟨H,h1⟩:=nM (pl.Ap p v.side v.row);obtain⟨I,h2⟩:=nM (pl.hasB p v.side v.row);obtain⟨J,ab⟩:=nM v.row.length;obtain⟨R,hR⟩:=nM (!(partners p s v).isEmpty);obtain⟨t,W⟩:=nM p.low;obtain⟨n,S⟩:=nM p.high;have P:ϝ (p.low=t/\p.high=n):=⟨W,S⟩;rw[W]at hf L A;rw[S]at hf M A;rw[hR]at B⊢;rw[h1,h2,ab]at B⊢;obtain⟨z,ac⟩:=nM v.side;obtain⟨c,Y⟩:=nM v.time;rw[ac,Y]at B A⊢;rw[Y]at ht;obtain⟨fr,aa⟩:=nM (DX p v);obtain⟨tO,ad⟩:=nM (toJ p v);rw[aa,ad]at B A;clear h1 h2 ab hR W S ac Y aa ad;go_enter func258,ntmps258;by_cases G:z=1
 ·have e1:(z==1)=true:=by simpa using G
  obtain⟨q1,q2⟩:=A.o.1 G;clear G A;subst q1 q2;have ae:IntKind.i64.wrap (c+t)=c+t:=by rw[ch.BA];omega
  have af:IntKind.i64.wrap (c+n)=c+n:=by rw[ch.BA];omega
  go_wp2;generalize a:(World.alloc w _)=V;have j:Ϟ w V:=by rw[<-a];exact Ϫ
  have s0:Δ V w 0 (vI z):=by subst a;go_simp
  have s1:Δ V w 1 (vI c):=by subst a;go_simp
  have s2:Δ V w 2 (vS g J u):=by subst a;go_simp
  have s3:Δ V w 3 (.string H):=by subst a;go_simp
  have s4:Δ V w 4 (.bool I):=by subst a;go_simp
  have f:ϝ (An V w 92):=by subst a;exact⟨_,_,World.alloc_heap_new w _⟩
  replace L:=cLz j L;replace M:=cLz j M;clear a
  go_region_held3 (λw'=>ϗ w' w (vI z) (vI c) (vS g J u) (.string H) (.bool I) (Δ w' b 2 (vI t)/\Δ w' b 3 (vI n))) (first|exact Z|go_keep)
   (first
    |(go_at_call 262;refine(B.o _ j.drew).mono ?_;rintro e E ⟨rfl,F,D,i,C,U,d⟩;have Z:ϗ E w (vI z) (vI c) (vS g J u) (.string H) (.bool I) (Δ E b 2 (vI t)/\Δ E b 3 (vI n)):=⟨d.cell f.o Ϡ Ϡ Ϡ s0,d.cell f.o Ϡ Ϡ Ϡ s1,d.cell f.o Ϡ Ϡ Ϡ s2,d.cell f.o Ϡ Ϡ Ϡ s3,d.cell f.o Ϡ Ϡ Ϡ s4,P.o.1▸C.box.plan.2.2.1,P.o.2▸C.box.plan.2.2.2.1⟩))
  all_goals
   go_wp2;go_ret;exact⟨rfl,F,D,i,C,U,(A7 (j.drew)).trans d⟩
 ·have e1:(z==1)=false:=by simpa using G
  obtain⟨q1,q2⟩:=A.o.2 G;clear G A;subst q1 q2;have ae:IntKind.i64.wrap (c - n)=c - n:=by rw[ch.BA];omega
  have af:IntKind.i64.wrap (c - t)=c - t:=by rw[ch.BA];omega
  go_wp2;generalize a:(World.alloc w _)=V;have j:Ϟ w V:=by rw[<-a];exact Ϫ
  have s0:Δ V w 0 (vI z):=by subst a;go_simp
  have s1:Δ V w 1 (vI c):=by subst a;go_simp
  have s2:Δ V w 2 (vS g J u):=by subst a;go_simp
  have s3:Δ V w 3 (.string H):=by subst a;go_simp
  have s4:Δ V w 4 (.bool I):=by subst a;go_simp
  have f:ϝ (An V w 92):=by subst a;exact⟨_,_,World.alloc_heap_new w _⟩
  replace L:=cLz j L;replace M:=cLz j M;clear a
  go_region_held3 (λw'=>ϗ w' w (vI z) (vI c) (vS g J u) (.string H) (.bool I) (Δ w' b 2 (vI t)/\Δ w' b 3 (vI n))) (first|exact Z|go_keep)
   (first
    |(go_at_call 262;refine(B.o _ j.drew).mono ?_;rintro e E ⟨rfl,F,D,i,C,U,d⟩;have Z:ϗ E w (vI z) (vI c) (vS g J u) (.string H) (.bool I) (Δ E b 2 (vI t)/\Δ E b 3 (vI n)):=⟨d.cell f.o Ϡ Ϡ Ϡ s0,d.cell f.o Ϡ Ϡ Ϡ s1,d.cell f.o Ϡ Ϡ Ϡ s2,d.cell f.o Ϡ Ϡ Ϡ s3,d.cell f.o Ϡ Ϡ Ϡ s4,P.o.1▸C.box.plan.2.2.1,P.o.2▸C.box.plan.2.2.2.1⟩))
  all_goals
   go_wp2;go_ret;exact⟨rfl,F,D,i,C,U,(A7 (j.drew)).trans d⟩
theorem Y4(b:Nat)(p:pl.Pln)(x:pl.PA)(s:Jn)(y:JX)(v:Ev)(f:Ϝ)(n:Nat)(u w:ϛ)(h:JSt u w b 141 p x s y (vS none 0 0) [])(Z:p.kind=2)(Y:goodJ p s)(i:comeJ p s v)(hv:vl.rowAt u f v.row):
 η 278 #[μ b,Cg p v f n] w λe w'=>e= .returned (.bool (!(partners p s v).isEmpty))/\∃B A d,JSt u w' b 141 p x (CQ p s v) B A d/\d.map CO.chg=Ck p s v/\BQ 141 w w':=by
 have hT:calmC 141:=⟨⟨Ϡ,Ϡ,Ϡ⟩,Ϡ⟩;have g:ϝ (∀a,Ϟ w a->CT 262 #[μ b,Cg p v f n,vI (DX p v),vI (toJ p v)] a λe w'=>e= .returned (.bool (!(partners p s v).isEmpty))/\∃B A d,JSt u w' b 141 p x (CQ p s v) B A d/\d.map CO.chg=Ck p s v/\BQ 141 a w'):=λa hb=>Td b _ p x s y v f n (DX p v) (toJ p v) u a (h.below hb) hT Ϡ Y i.side hv i.err;have M:1<=p.size/\p.size<=1099511627776:=by
  have:=(pl.Bj (pl.D7 i.err).1).2.1.2.1;rw[if_pos Z]at this;exact this
 have ht:=Te i.time;have C:ϝ (∀a,CT 160 #[vI v.time,vI p.size] a λe w'=>e= .returned (.tuple #[vI (DX p v),vI (toJ p v+1),ω])/\w'=a):=λa=>by
  have:=tm.Nc v.time p.size a i.time M.1 M.2;have e1:DX p v=tm.start v.time p.size:=by unfold DX tm.start;rw[if_neg ϟ]
  have e2:toJ p v+1=tm.start v.time p.size+p.size:=by unfold toJ tm.start;rw[if_neg ϟ];omega
  rw[e1,e2];exact this
 have ae: -4398046511104<=toJ p v/\toJ p v<=4398046511104:=by
  unfold toJ;rw[if_neg ϟ];have F:=Int.emod_nonneg v.time (show p.size≠0 by omega);have G:=Int.emod_lt_of_pos v.time (show 0<p.size by omega);omega
 have P:=h.box.plan.2.2.2.2.1;have lb:=h.box.lt;have ad:ϝ (∀a s y t L,JSt u a b 141 p x s y t L->Δ a b 4 (vI p.size)):=λa s y t L I=>I.box.plan.2.2.2.2.1;clear h Z Y i hv M ht;unfold Cg at g⊢;obtain⟨N,F⟩:=nM (pl.Ap p v.side v.row);obtain⟨O,G⟩:=nM (pl.hasB p v.side v.row);obtain⟨Q,aa⟩:=nM v.row.length;obtain⟨R,U⟩:=nM (!(partners p s v).isEmpty);obtain⟨sz,ac⟩:=nM p.size;rw[ac]at P C ad;rw[U]at g⊢;rw[F,G,aa]at g⊢;obtain⟨S,ab⟩:=nM v.side;obtain⟨E,K⟩:=nM v.time;rw[ab,K]at g⊢;rw[K]at C;obtain⟨fr,W⟩:=nM (DX p v);obtain⟨D,J⟩:=nM (toJ p v);rw[W,J]at g C;rw[J]at ae;clear F G aa U ac ab K W J;have af:IntKind.i64.wrap (D+1 - 1)=D:=by rw[ch.BA];omega
 have ag:IntKind.i64.wrap D=D:=by rw[ch.BA];omega
 go_enter func278,ntmps278;go_wp2;generalize c:(World.alloc w _)=V;have H:Ϟ w V:=by rw[<-c];exact Ϫ
 have s0:Δ V w 0 (vI S):=by subst c;go_simp
 have s1:Δ V w 1 (vI E):=by subst c;go_simp
 have s2:Δ V w 2 (vS f Q n):=by subst c;go_simp
 have s3:Δ V w 3 (.string N):=by subst c;go_simp
 have s4:Δ V w 4 (.bool O):=by subst c;go_simp
 have z:ϝ (An V w 92):=by subst c;exact⟨_,_,World.alloc_heap_new w _⟩
 replace P:=cLz H P;clear c
 go_region_held3 (λw'=>Δ w' w 1 (vI E)/\Δ w' b 4 (vI sz)) (first|go_keep)
  (first
   |(go_at_call 160;refine(C.o _).mono ?_;rintro e w2 ⟨rfl,rfl⟩))
 go_wp2
 go_region_held3 (λw'=>Ϗ w' w (vI S) (vI E) (vS f Q n) (.string N) (.bool O)) (first|exact hy|go_keep)
  (first
   |(go_at_call 262;refine(g.o _ H.drew.drew).mono ?_;rintro e wn ⟨rfl,B,A,d,I,hl,j⟩;have hy:Ϗ wn w (vI S) (vI E) (vS f Q n) (.string N) (.bool O):=⟨j.cell z.o Ϡ Ϡ Ϡ s0,j.cell z.o Ϡ Ϡ Ϡ s1,j.cell z.o Ϡ Ϡ Ϡ s2,j.cell z.o Ϡ Ϡ Ϡ s3,j.cell z.o Ϡ Ϡ Ϡ s4⟩))
 all_goals
  go_wp2;go_ret;exact⟨rfl,B,A,d,I,hl,(A7 (H.drew.drew)).trans j⟩
theorem last_at(h:l.length=m+1):l.getLast? =some (l.getD m ϰ):=by
 rw[getLast?_eq_getElem?,h,gDe,Nat.add_sub_cancel,gEe ϟ];rfl
theorem Acg(b:Nat)(p:pl.Pln)(x:pl.PA)(s:Jn)(y:JX)(v:Ev)(f:Ϝ)(g:Nat)(O w:ϛ)(h:JSt O w b 143 p x s y (vS none 0 0) [])(U:goodJ p s)(L:comeJ p s v)(ak:v.side=1)(hv:vl.rowAt O f v.row):
 η 282 #[μ b,Cg p v f g] w λe w'=>e= .returned (.bool (!(Cc p s v).isEmpty))/\∃t' L',JSt O w' b 143 p x s y t' L'/\L'.map CO.chg=Gk p s v/\BQ 143 w w':=by
 have hT:calmC 143:=⟨⟨Ϡ,Ϡ,Ϡ⟩,Ϡ⟩;have H:=hV0 h;have J:bufOf s (3 - v.side)=s.R:=by rw[ak];rfl
 have ex:Bl y (3 - v.side)=y.r:=by rw[ak];rfl
 have Y:=Bp L.err;have hp:=(pl.D7 L.err).1;have a6:∀z∈Aa s.R,wfE z/\wfP (Az z):=λz j=>U.wf z (mem_append.2 (.inr j));have ev:Cv p s v (-1099511627776) v.time=Cc p s v:=by unfold Cv Cc;rw[J]
 have D:ϝ (∀a,Ϟ w a->CT 266 #[μ b,Cg p v f g,vI (-1099511627776),vI v.time] a λe w'=>(∃W K,e= .returned (hdV W)/\OE w' a (hdV W) K (Cc p s v))/\Ϟ a w'):=λa i=>by
  have:=Ih b p x s y _ v f g (-1099511627776) v.time a L.side (H.o.below i).box (by rw[J,ex];exact(H.o.below i).r.at) (by rw[J];exact U.ok.R) (by rw[J];exact a6);rw[ev]at this;exact this
 have KJ:=hIz (λ(q:List Cel) (qa:Ϝ) (qc:Nat) (a:ϛ) (h1:0<q.length) (h2:q.length<=400) (i:Ϟ O a) (hq:vl.rowAt a qa q)=>DK v.side f qa g qc v.row q a Y.1 h1 Y.2 h2 (vl.Ac hv i) hq);have Q:=hIz (λ(a:ϛ) (i:Ϟ w a)=>IE b p x v.side f g v.row a hp L.side (H.o.below i).box.plan (vl.Ac hv (H.o.bl.trans (i.mono H.o.bl.size))) Y.1 Y.2);have KP:=hIz (λ(a:ϛ)=>Ll p.mode 1 a);have ap:ϝ (∀k,k<(Cc p s v).length->(0<((Cc p s v).getD k ϰ).row.length/\((Cc p s v).getD k ϰ).row.length<=400)):=λk hk=>by
  rw[<-ev]at hk⊢;exact Bp (C8 U (Hl L.side).1 (Kd (AD hk)))
 have bh:(Cc p s v).length<=4096:=by rw[<-ev];exact Kc (by rw[J];exact U.ok.R)
 have G:ϝ (Gk p s v=match (Cc p s v).getLast? with
  |some e=>[⟨1,AJ v.side v.row e.row⟩]
  |none=>if keepsJ p.mode 1=true then [⟨1,AN p v.side v.row⟩]else []):=rfl
 have pm:=h.box.plan.2.1;have lb:=h.box.lt;obtain⟨t,ax⟩:=nM (Cc p s v);obtain⟨AT,av⟩:=nM (Gk p s v);rw[ax]at D ap G bh⊢;rw[av]at G⊢;unfold Cg at D⊢;obtain⟨kb,h1⟩:=nM (pl.Ap p v.side v.row);obtain⟨kh,h2⟩:=nM (pl.hasB p v.side v.row);obtain⟨n,aj⟩:=nM v.row.length;obtain⟨c2,a0⟩:=nM (keepsJ p.mode 1);obtain⟨md,a2⟩:=nM p.mode;rw[a0]at KP G;rw[a2]at KP pm;rw[h1,h2,aj]at D⊢;rw[aj]at KJ Q;obtain⟨d,a4⟩:=nM v.side;obtain⟨am,a5⟩:=nM v.time;rw[a4]at D KJ Q G⊢;rw[a5]at D⊢;have a8:ϝ (∀w',Ϟ w w'->Ϟ O w'):=λw' i=>h.bl.trans (i.mono h.bl.size);clear h U L hv Y hp a6 ev J ex ax av h1 h2 aj a0 a2 a4 a5 ak;go_enter func282,ntmps282;go_wp2;generalize u:(World.alloc w _)=V;have az:Ϟ w V:=by rw[<-u];exact Ϫ
 have s0:Δ V w 0 (vI d):=by subst u;go_simp
 have s1:Δ V w 1 (vI am):=by subst u;go_simp
 have s2:Δ V w 2 (vS f n g):=by subst u;go_simp
 have s3:Δ V w 3 (.string kb):=by subst u;go_simp
 have s4:Δ V w 4 (.bool kh):=by subst u;go_simp
 have bc:ϝ (An V w 92):=by subst u;exact⟨_,_,World.alloc_heap_new w _⟩
 clear u;have SK:ϝ (∀w',Ϟ V w'->Ϗ w' w (vI d) (vI am) (vS f n g) (.string kb) (.bool kh)):=λw' j=>⟨cLz j s0,cLz j s1,cLz j s2,cLz j s3,cLz j s4⟩
 go_region_held3 (λw'=>Ϗ w' w (vI d) (vI am) (vS f n g) (.string kb) (.bool kh)) (first|exact SK.o _ M|exact SK.o _ bR.drew|go_keep)
  (first
   |(go_at_call 266;refine(D.o _ az.drew).mono ?_;rintro e X ⟨⟨W,K,rfl,ho⟩,bg⟩;have M:Ϟ V X:=bR.drew.trans bg;have I:ϝ (OE X V.heap.size (hdV W) K t):=ho;clear ho;obtain⟨g1,g2,g3⟩:=W;unfold hdV;dsimp only))
 have aq:ϝ (g2=t.length):=by
  show _=_;rw[<-I.o.len];exact(Dq (p:=((g1,g2,g3),K)) I.o).1.1
 have F:Ϟ w X:=bT az M;have ae:ϝ (JSt O X b 143 p x s y (vS none 0 0) []):=H.o.below F;have t0:=cLz M s0;have t1:=cLz M s1;have t2:=cLz M s2;have bm:=cLz F pm;have aa:ϝ (An X w 92):=Ae bc.o M;clear s0 s1 s2 s3 s4 SK D
 cases hP:t with
 |nil=>
  have ao:ϝ (false= !t.isEmpty):=by show _=_;rw[hP];rfl
  have j:g2=0:=by rw[aq.o,hP];rfl
  subst j;have C:ϝ (AT=if c2=true then [⟨1,AN p d v.row⟩]else []):=by show _=_;rw[G.o,hP];rfl
  cases c2 with
  |true=>
   obtain⟨AR,au⟩:=nM (AN p d v.row);rw[au]at Q C;obtain⟨an,ay⟩:=nM AR.length;rw[ay]at Q;clear au ay;go_wp2_with (go_at_call 268;refine(KP.o _).mono ?_;rintro e X ⟨rfl,rfl⟩);have ah:=ae.o.below bR.drew
   go_region_held3 (λw'=>Δ w' w 0 (vI d)/\Δ w' w 2 (vS f n g)) (first|exact Z|go_keep)
    (first
     |(go_at_call 271;refine(Fz ah hT (Nat.zero_le _) R ai).mono ?_;rintro e P ⟨rfl,t8,ag,A⟩;have Z:Δ P w 0 (vI d)/\Δ P w 2 (vS f n g):=⟨A.cell (Ae aa.o c) Ϡ Ϡ (cLz c t0),A.cell (Ae aa.o c) Ϡ Ϡ (cLz c t2)⟩)
     |(go_at_call 270;refine(Q.o _ F.drew).mono ?_;rintro e B ⟨⟨bd,be,rfl,ai⟩,R⟩;have c:Ϟ X B:=bR.drew.trans R;have Z:Δ B w 0 (vI d)/\Δ B w 2 (vS f n g):=⟨cLz c t0,cLz c t2⟩))
   all_goals
    go_wp2;go_ret;exact⟨Ab ao.o,t8,_,ag,by rw[C.o];rfl,((A7 F).trans (A7 c)).trans A.m⟩
  |false=>
   go_wp2_with (go_at_call 268;refine(KP.o _).mono ?_;rintro e X ⟨rfl,rfl⟩);go_ret;exact⟨Ab ao.o,_,[],ae.o,by rw[C.o];rfl,A7 F⟩
 |cons z0 zl=>
  obtain⟨m,hm⟩:∃m,t.length=m+1:=⟨zl.length,by rw[hP];rfl⟩;have HM:=hV0 hm;have a9:ϝ (true= !t.isEmpty):=by show _=_;rw[hP];rfl
  have j:g2=m+1:=by rw[aq.o,hm]
  subst j;have ac:m<t.length:=ϟ;obtain⟨gb,al,ea,x1,x2,x3,x4,x5⟩:=(Dq (p:=((g1,m+1,g3),K)) I.o).2 m (by rw[I.o.len];exact ac);dsimp only at ea;subst ea;have S:=I.o.ers.2 m ac;have ab:=ap.o m ac;have C:ϝ (AT=[⟨1,AJ d v.row (t.getD m ϰ).row⟩]):=by show _=_;rw[G.o,last_at hm]
  obtain⟨E,hE⟩:=nM (t.getD m ϰ);rw[hE]at S ab C;obtain⟨⟨ek,et,bi,⟨N,r2,r3⟩,em⟩,a7⟩:∃z,K.getD m ϰ=z:=⟨_,rfl⟩;rw[a7]at x4 S;unfold hdV at x4;dsimp only at x4;have a3:r2=E.row.length:=S.len;have ba:ϝ (vl.rowAt X N E.row):=S.row;have af:ϝ (∀a,Ϟ X a->CT 267 (ν d f n g N r2 r3) a λe w'=>(∃ad ar,e= .returned (vS ad (AJ d v.row E.row).length ar)/\A4 w' a (vS ad (AJ d v.row E.row).length ar) (AJ d v.row E.row))/\Ϟ a w'):=λa i=>by rw[a3];exact KJ.o E.row N r3 a ab.1 ab.2 (a8.o _ (bT F i)) (vl.Ac ba.o i)
  obtain⟨JR,aw⟩:=nM (AJ d v.row E.row);rw[aw]at af C;obtain⟨jn,a1⟩:=nM JR.length;rw[a1]at af;have bb:ϝ (An X gb 63):=A6 I.o.own rfl;have i0:(0:Int)<(m:Int)+1:=ϟ;have i1:(0:Int)<=(m:Int):=ϟ;have i2:(m:Int)<(m:Int)+1:=ϟ;have bj:IntKind.i64.wrap ((m:Int)+1 - 1)=(m:Int):=by rw[ch.BA];omega
  have bk:IntKind.i64.wrap (m:Int)=(m:Int):=by rw[ch.BA];omega
  have ah:=ae.o.below bR.drew;clear hP S ab hE a7 a3 aw a1 x1 x2 x3 x5 hm ac;go_wp2
  go_region_held3 (λw'=>Δ w' w 0 (vI d)/\Δ w' w 2 (vS f n g)/\Δ w' gb (al+m * 5+1+1+1) (vS N r2 r3)) (first|exact Z|go_keep)
   (first
    |(go_at_call 271;refine(Fz ah hT (Nat.zero_le _) R ai).mono ?_;rintro e P ⟨rfl,t8,ag,A⟩;have Z:Δ P w 0 (vI d)/\Δ P w 2 (vS f n g)/\Δ P gb (al+m * 5+1+1+1) (vS N r2 r3):=⟨A.cell (Ae aa.o c) Ϡ Ϡ (cLz c t0),A.cell (Ae aa.o c) Ϡ Ϡ (cLz c t2),A.cell (Ae bb.o c) Ϡ Ϡ (cLz c x4)⟩)
    |(go_at_call 267;refine(af.o _ bR.drew).mono ?_;rintro e B ⟨⟨bd,be,rfl,ai⟩,R⟩;have c:Ϟ X B:=bR.drew.trans R;have Z:Δ B w 0 (vI d)/\Δ B w 2 (vS f n g)/\Δ B gb (al+m * 5+1+1+1) (vS N r2 r3):=⟨cLz c t0,cLz c t2,cLz c x4⟩))
  all_goals
   go_wp2;go_ret;exact⟨Ab a9.o,t8,_,ag,by rw[C.o];rfl,((A7 F).trans (A7 c)).trans A.m⟩
def KY(vs:List Ent)(e:Ent):Option Ent:=(vs.filter λy=>decide (y.time<=e.time)).getLast?
def Hw(vs:List Ent)(t:Int)(e:Ent):Bool:=match KY vs e with
 |some o=>decide (o.time<=t)
 |none=>true
def LW(p:pl.Pln)(v:Ev)(vs:List Ent)(e:Ent):List ch.Chg:=match KY vs e with
 |some o=>[⟨3,AJ 1 e.row o.row⟩,⟨4,AJ v.side v.row e.row⟩]
 |none=>if keepsJ p.mode 1=true then [⟨3,AN p 1 e.row⟩,⟨4,AJ v.side v.row e.row⟩]else [⟨1,AJ v.side v.row e.row⟩]
def GQ(p:pl.Pln)(s:Jn)(v:Ev):List Ent:=Cx s.R (pl.Ap p v.side v.row) (-1099511627776) 1099511627776
theorem Y5{v:Ev}(h:v.side=2):Cq p s v=(Cv p s v v.time 1099511627776).filter (Hw (GQ p s v) v.time):=by
 unfold Cq Cv;have e:bufOf s (3 - v.side)=s.L:=by rw[h];rfl
 rw[e];rfl
theorem LY(h:k<l.length):l.take (k+1)=l.take k++[l.getD k ϰ]:=by
 rw[take_succ_eq_append_getElem h,gDe,gEe h];rfl
theorem Y6(f:Ent->Bool)(h:k<l.length):(l.take (k+1)).filter f=(l.take k).filter f++(if f (l.getD k ϰ)=true then [l.getD k ϰ]else []):=by
 rw[LY h,filter_append]
 congr 1
 obtain⟨z,a⟩:=nM (l.getD k ϰ);rw[a]
 cases e:f z<;>simp[e]
theorem Ach(b:Buf)(k:ByteArray)(a z:Int):Qv (Cx b k a z):=by
 intro i j g c;rcases Nat.eq_or_lt_of_le g with rfl|h
 ·exact Int.le_refl _
 ·have e:=Iw ((Aa b).filter λy=>decide (y.key=k)&&decide (a<=y.time)&&decide (y.time<=z)) i j h c;have d:∀i,i<(Cx b k a z).length->((Cx b k a z).getD i ϰ).key=k:=λi f=>by
   have t:(Cx b k a z).getD i ϰ∈Cx b k a z:=AD f;have:=(mem_filter.1 ((A9 _).mem_iff.1 t)).2;simp only[Bool.and_eq_true]at this;exact of_decide_eq_true this.1.1
  have u:=d i ϟ;have w:=d j c;unfold Cx at *;refine Int.not_lt.1 (λn=>e ?_)
  right
  exact⟨by rw[u,w],.inl n⟩
theorem Oc{u:ϛ}{b:Nat}{x:pl.PA}{y:JX}{O t:Value}{J L:List CO}(d:JSt u X b T p x s y O J)(w:calmC T)(f:JSt u w2 b T p x s y t L)(i:Cs T X w2)(n:(w2.alloc o).grownBy w3 r)(H:∀g,r=some g->X.heap.size<=g/\An w2 g 63):JSt u w3 b T p x s y t L/\Cs T X w3:=by
 have I:w2.heap.size<=w3.heap.size:=by have:=n.size;rw[World.size_alloc]at this;omega
 have D:∀g,g<w2.heap.size->r≠some g->w3.heap[g]? =w2.heap[g]? :=λg a j=>(n.block g (by rw[World.size_alloc];omega) (λe=>j e.symm)).trans (Below.heap_alloc _ _ _ a);have A:∀g e,An w2 g e->e≠63->w3.heap[g]? =w2.heap[g]? :=λg e a j=>D g (AX a) (λK=>tyAt_apart a (H g K).2 j rfl);have F:∀g,g<X.heap.size->w3.heap[g]? =w2.heap[g]? :=λg a=>D g (Nat.lt_of_lt_of_le a i.1.size) (λe=>by have:=(H g e).1;omega);have c:Cs T X w3:=⟨⟨n.os.trans i.1.os,n.tape.trans i.1.tape,n.output.trans i.1.output,Nat.le_trans i.1.size I,λk h=>absurd h (Nat.not_lt_zero k)⟩,λg e a j M=>(F g (AX a)).trans (i.2 g e a j M)⟩;have C:w3.heap[b]? =w2.heap[b]? :=A b T f.ty w.t.e;have G:∀{Z:BX} {B:Buf},OB X u Z B->OB w3 u Z B:=λN=>OB.other N c.1.size (λg z=>z.elim (λq=>c.2 g _ q w.t.e.symm Ϡ) (λq=>c.2 g _ q w.t.v.symm Ϡ)) (λg q=>c.2 g _ q w.t.h.symm Ϡ);refine⟨⟨IM f.box C,AW f.ty C,f.up,G d.l,G d.r,d.ap,CG.other f.cg I (λg z=>z.elim (λq=>A g _ q Ϡ) (λq=>A g _ q Ϡ)),?_⟩,c⟩;exact⟨c.1.os.trans d.bl.os,c.1.tape.trans d.bl.tape,c.1.output.trans d.bl.output,Nat.le_trans d.bl.size c.1.size,λk E=>((F k (Nat.lt_of_lt_of_le E d.bl.size)).trans ((f.bl.block k E))).trans rfl⟩
structure MetL(X wr:World)(v:Value)(ems:List EM)(ml:List Ent):Prop where
 own:wr.ownsRow X.heap.size 63 5 v ems.length (Aq ems)
 len:ems.length=ml.length
 seq:∀k,k<ml.length->(ems.getD k ϰ).seq=(ml.getD k ϰ).seq
theorem MetL.keep{ems:List EM}(h:MetL X wr v ems ml)(a:calmC T)(c:Cs T wr w'):MetL X w' v ems ml:=⟨A2 h.own (λg b=>c.2 g _ (A6 h.own b) a.t.e.symm Ϡ),h.len,h.seq⟩
theorem MetL.below{ems:List EM}(h:MetL X wr v ems ml)(a:Ϟ wr w'):MetL X w' v ems ml:=⟨own_below h.own a,h.len,h.seq⟩
theorem MetL.snoc{v':Value}{ems:List EM}{e:EM}{z:Ent}(h:MetL X w2 v ems ml)(d:e.seq=z.seq)(c:w3.ownsRow X 63 5 v' (ems.length+1) (Aq ems++[.string e.key,vI e.time,vI e.seq,hdV e.row,.bool e.met])):MetL X w3 v' (ems++[e]) (ml++[z]):=by
 refine⟨by rw[lAp,ET];exact c,by rw[lAp,lAp,h.len];rfl,λk b=>?_⟩;rw[lAp]at b;by_cases a:k<ml.length
 ·rw[AS a,AS (by rw[h.len];exact a)];exact h.seq k a
 ·have:k=ml.length:=by simp at b;omega
  subst this;rw[AH nR,AH (by rw[h.len];exact Nat.le_refl _),h.len,Nat.sub_self];exact d
theorem MetL.at{ems:List EM}(h:MetL X wr v ems ml):∃a c,v=vS a ml.length c/\BG wr a ems:=by
 have d:=h.own;have e:=J6 d;rw[h.len]at e;refine⟨Mg v,Oz v,e,?_⟩;intro i C;rcases d.2 with⟨f,F⟩|⟨g,D,E,f,G⟩
 ·omega
 ·have b:=World.ownsRow.cells d (g:=g) (by rw[f];rfl);obtain⟨x,y,z,A,B⟩:=Fb ems i C;have j:=b _ _ x;have n:=b _ _ y;have t:=b _ _ z;have u:=b _ _ A;have w:=b _ _ B;rw[bf.Ch]at j n t u w;exact⟨g,0,by rw[f];rfl,j,n,t,u,w⟩
theorem wpList_appE{w:Array Oper}{rest:List Oper}{o:Oper}{a:Act}{Q:Exit->Act->World->Prop}(A:o.guard=none)(s x:Operand)
 (D:o.op= .call {callee:=.builtin .append,args:=#[s,x],argTypes:=#[26,26]})
 (base:Nat) (v:Value) (L:List EM) (e:ByteArray) (j i:Int) (ad:Ϝ) (n cap:Nat) (f:Bool) (c:ϛ) (b:Nat) (P:L.length=b) (C:c.ownsRow base 63 5 v b (Aq L)) (O:b<=1000000) (N:base<=c.heap.size)
 (E:a.eval s=v) (F:a.eval x=vS (τ c) 1 1)
 (h:∀g d w2,w2.ownsRow base 63 5 (vS (τ g) (b+1) d) (b+1) (Aq L++[.string e,vI j,vI i,vS ad n cap,.bool f])->(c.alloc (.cells (ζ e j i ad n cap f) 63)).grownBy w2 v.ownBlock->wpList Tryz.prog w Q rest (a.put o.dst (vS (τ g) (b+1) d)) w2):
 wpList Tryz.prog w Q (o::rest) a (ξ c (ζ e j i ad n cap f) 63):=by
 obtain⟨J,B,G,H,I⟩:=info_parts Nk;refine wpList_append_lies _ A s x 26 D base 63 J (.agg #[ϊ,ω,ω,ψ,ϋ]) 5 64 underlying26 B G H I rfl Ϡ v b (Aq L) E
  (C.alloc _) ⟨c,0,none⟩ 1 1 [.string e,vI j,vI i,vS ad n cap,.bool f] F rfl (Dd _ _ _ _ _ _ _) (by intro u t;simp at t;rcases t with rfl|rfl|rfl|rfl|rfl<;>rfl) Ϡ ϩ ϟ Ϥ (c.heap.size+1) ϡ ?_
 intro g d w2 y z K M;exact h g d w2 y z
theorem Od{α β:Type}(f:α->List β)(a:α):[a].flatMap f=f a:=ϡ
theorem Y7(h:m<l.length):(l.take (m+1)).getLast? =some (l.getD m ϰ):=by
 rw[LY h,getLast?_append];rfl
theorem Cr{i:Nat}(c:(w2.alloc o).grownBy w3 r)(f:∀g,r=some g->g≠q)(b:Δ w2 q i v):Δ w3 q i v:=by
 have d:q<w2.heap.size:=bLt _ _ b;exact(cOb (w:=w2) (a:=⟨q,i,none⟩) ((c.block q (by rw[World.size_alloc];omega) (λe=>f q e.symm rfl)).trans (Below.heap_alloc _ _ _ d))).trans b
theorem Oe{t:TypeId}(b:(w2.alloc o).grownBy w3 r)(d:∀g,r=some g->g≠q)(a:An w2 q t):An w3 q t:=by
 have c:=AX a;exact AW a ((b.block q (by rw[World.size_alloc];omega) (λe=>d q e.symm rfl)).trans (Below.heap_alloc _ _ _ c))
end jn
end Go.Proofs.YtdohnkkbkfhphaaGreat
