import Derived.Test.YtfkihidbnfkbaaaGreatDoorPv18
import Derived.Test.YtfkihidbnfkbaaaGreatDoorPv19
set_option linter.all false
set_option maxHeartbeats 32000000
set_option maxRecDepth 100000
open Inhabited renaming default->ϰ
open List renaming length->ϲ
namespace Go.Proofs.YtfkihidbnfkbaaaGreatDoor
open ChangeShapes WideShapes ChangeAt RowKit List
namespace gr
open vl pl bt jn
attribute [local go_sem] Oper.semAt_some
def Qg{p:Prop}(h:p):ϡ p:=h
def Abb{U a:ϟ}{b N:Nat}{p:pl.Pln}{x:pl.PA}(h:boxP U b p x)(d:b<N)(c:Below N U a):boxP a b p x:=by
 have f:∀o,a.cell? ⟨b,o,none⟩=U.cell? ⟨b,o,none⟩:=λo=>c.cell (p:=⟨b,o,none⟩) d;unfold boxP;simp only[f];exact h
def getD_in{α:Type}{l:List α}{d:α}{j:Nat}(h:j<ϲ l):l.getD j d∈l:=by
 rw[gDe,gEe h];exact GE h
def XC(p:Pln)(gs:List Grp)(i:Nat):Bool:=
 decide (ϲ (gs.getD i ϰ).row=ϲ (AW p))&&decide (Aq (gs.getD i ϰ).row=0)&&decide (Ds (AW p) (gs.getD i ϰ).row=0)&&A8 (gs.getD i ϰ).n 1 1073741824&&decide (ϲ (gs.getD i ϰ).bags=ϲ p.aggs)&&(decide (i=0)||decide (AH (gs.getD (i - 1) ϰ).row (gs.getD i ϰ).row<0))
theorem YN(c:List Int)(r:List Cel):decide (Ds c r=0)=BQ r c:=by
 unfold Ds;by_cases h:ϲ r=ϲ c
 ·rw[AC (by simpa using h)]
  cases h2:BQ r c with
  |true=>simp
  |false=>simp
 ·rw[AE h];unfold BQ;simp[h]
def YO{r:List Cel}{c:List Int}(h:BQ r c=true):ϲ r=ϲ c:=by
 unfold BQ at h;simp at h;exact h.1
def AdK(p:Pln)(a:List Grp)(i:Nat):Gb p a i=(XC p a i&&allB (ϲ p.aggs) (λj=>Jh (A5 p) (p.aggs.getD j (0,0)) (a.getD i ϰ).n ((a.getD i ϰ).bags.getD j []))):=by
 unfold Gb XC Kd;rw[YN];by_cases b:BQ (a.getD i ϰ).row (AW p)=true
 ·rw[b,DB (YO b)];by_cases c:ϲ (a.getD i ϰ).bags=ϲ p.aggs
  ·rw[c];unfold A8;simp[Bool.and_assoc,Bool.and_comm,Bool.and_left_comm]
  ·rw[BP c];simp
 ·have d:BQ (a.getD i ϰ).row (AW p)=false:=by simpa using b
  rw[d];simp
theorem NI(p:Pln)(x:PA)(a:Ϡ)(cap:Nat)(u:List GX)(m:List Grp)(w:ϟ)(hw:wfPlan p)(hp:planAt w p x)(ak:gsAt w a u m)(an:∀g∈m,wfG g)(cs:ϲ m<=4096)(h0:Ag p=0)(bs:p.grouped=true):
 χ 62 #[Ai p x,vS a (ϲ m) cap] w (ψ w (vI (if allB (ϲ m) (Gb p m)=false then 1 else 0))):=by
 have hf:=Acm h0;have dz:=J9 h0 bs;have al:∀i,i<ϲ m->m.getD i ϰ∈m:=λi A=>by rw[gDe,gEe A];exact GE A
 have bo:ϲ (A5 p)<=800:=by unfold A5;rw[lAp];omega
 have KP:ϡ (∀c,Ϣ w c->CT 36 #[Ai p x] c (ψ c (vI 0))):=λc n=>by
  have:=FF p x c hw (Ae hp n);rwa[h0]at this
 have KT:ϡ (∀c,Ϣ w c->CT 87 #[Ai p x] c λe s=>(∃ad cp,e= .returned (vS ad (ϲ (A5 p)) cp)/\Au s ad (A5 p))/\Ϣ c s):=λc n=>
  (Gr p x c (Ae hp n) hf.1.1 hf.2.1 ϣ ϣ).mono (λe s ⟨⟨ad,cp,h1,F⟩,M⟩=>⟨⟨ad,cp,h1,(Eg F).1⟩,M⟩)
 have HG:ϡ (∀k,k<ϲ p.group->∃b o,x.g=some ⟨b,o,none⟩/\Δ w b (o+k) (vI (p.group.getD k 0))/\0<=p.group.getD k 0/\(p.group.getD k 0).toNat<ϲ (A5 p)):=λk O=>by
  obtain⟨b,o,e,y⟩:=hp.g k O;have hm:p.group.getD k 0∈p.group:=by rw[gDe,gEe O];exact GE O
  have:=TO h0 _ hm;exact⟨b,o,e,y,this.1,ϣ⟩
 have HT:ϡ (∀k,k<ϲ p.group->(AW p).take (k+1)=(AW p).take k++[(A5 p).getD (p.group.getD k 0).toNat 0]):=λk O=>L0 p k O;have be:ϡ (∀k,k<=ϲ p.group->ϲ ((AW p).take k)=k):=λk O=>by show _=_;rw[DA,CM];omega
 have cb:ϡ ((AW p).take (ϲ p.group)=AW p):=by show _=_;rw[<-CM,Ok]
 have bd:ϡ (ϲ (AW p)=ϲ p.group):=CM p;have ba:ϡ (∀j,j<ϲ p.aggs->∃b b3,x.a=some ⟨b,b3,none⟩/\Δ w b (b3+j * 2) (vI (p.aggs.getD j (0,0)).1)/\Δ w b (b3+j * 2+1) (vI (p.aggs.getD j (0,0)).2)):=hp.a;have a1:ϡ (∀i,i<ϲ m->∃b o,a=some ⟨b,o,none⟩/\Δ w b (o+i * 3) (vS (u.getD i ϰ).r (ϲ (m.getD i ϰ).row) (u.getD i ϰ).rc)/\Δ w b (o+i * 3+1) (vI (m.getD i ϰ).n)/\Δ w b (o+i * 3+2) (vS (u.getD i ϰ).b (ϲ (m.getD i ϰ).bags) (u.getD i ϰ).bc)):=ak.cells;have KK:ϡ (∀i c,i<ϲ m->Ϣ w c->CT 119 #[vS (u.getD i ϰ).r (ϲ (m.getD i ϰ).row) (u.getD i ϰ).rc] c (ψ c (vI (Aq (m.getD i ϰ).row)))):=λi c A n=>Cq _ _ _ c (vl.Ac (ak.each i A).row n) (an _ (al i A)).row (an _ (al i A)).rl;have KF:ϡ (∀i ta tc c,i<ϲ m->Ϣ w c->Au c ta (AW p)->CT 65 #[vS ta (ϲ (AW p)) tc,vS (u.getD i ϰ).r (ϲ (m.getD i ϰ).row) (u.getD i ϰ).rc] c (ψ c (vI (Ds (AW p) (m.getD i ϰ).row)))):=λi ta tc c A n ht=>Hl _ _ _ _ _ _ c (an _ (al i A)).rl (by rw[CM];omega) (vl.Ac (ak.each i A).row n) ht;have KR:ϡ (∀i j c,i<ϲ m->j<ϲ m->Ϣ w c->CT 120 #[vS (u.getD j ϰ).r (ϲ (m.getD j ϰ).row) (u.getD j ϰ).rc,vS (u.getD i ϰ).r (ϲ (m.getD i ϰ).row) (u.getD i ϰ).rc] c (ψ c (vI (AH (m.getD j ϰ).row (m.getD i ϰ).row)))):=λi j c A I n=>Ql _ _ _ _ _ _ c (vl.Ac (ak.each j I).row n) (vl.Ac (ak.each i A).row n) (an _ (al j I)).rl (an _ (al i A)).rl
 have KB:ϡ (∀i j c,i<ϲ m->j<ϲ p.aggs->ϲ (m.getD i ϰ).bags=ϲ p.aggs->Ϣ w c->∃n ho,(u.getD i ϰ).b=some ⟨n,ho,none⟩/\Δ c n (ho+j) (vS ((u.getD i ϰ).hs.getD j (none,0,0)).1 (ϲ ((m.getD i ϰ).bags.getD j [])) ((u.getD i ϰ).hs.getD j (none,0,0)).2.2)/\∀w2,Ϣ c w2->CT 121 #[Ai p x,.agg #[vI (p.aggs.getD j (0,0)).1,vI (p.aggs.getD j (0,0)).2],vI (m.getD i ϰ).n,vS ((u.getD i ϰ).hs.getD j (none,0,0)).1 (ϲ ((m.getD i ϰ).bags.getD j [])) ((u.getD i ϰ).hs.getD j (none,0,0)).2.2] w2 (ψ w2 (.bool (Jh (A5 p) (p.aggs.getD j (0,0)) (m.getD i ϰ).n ((m.getD i ϰ).bags.getD j []))))):=λi j c A I ai n=>by
  have a8:j<ϲ (m.getD i ϰ).bags:=by rw[ai];exact I
  have a7:=ak.each i A;have b0:=an _ (al i A);obtain⟨b1,o1,e1,z1⟩:=a7.hs j (by rw[a7.len];exact a8);rw[a7.hl j a8]at z1;have hm:(m.getD i ϰ).bags.getD j []∈(m.getD i ϰ).bags:=getD_in a8;have ha:p.aggs.getD j (0,0)∈p.aggs:=by rw[gDe,gEe I];exact GE I
  exact⟨b1,o1,e1,cLz n z1,λw2 F=>by
   have cq:=bT n F;exact TT p x _ _ _ _ _ w2 (Ae hp cq) hf.1.1 hf.2.1 ϣ ϣ (Yd h0 ha) (b0.tl _ hm).1 (GY (a7.bag j a8) cq) b0.n (b0.tl _ hm).2⟩
 have ag:ϡ (∀i,Gb p m i=(XC p m i&&allB (ϲ p.aggs) (λj=>Jh (A5 p) (p.aggs.getD j (0,0)) (m.getD i ϰ).n ((m.getD i ϰ).bags.getD j [])))):=λi=>AdK p m i;obtain⟨R,hR⟩:∃z:Int,(if allB (ϲ m) (Gb p m)=false then 1 else 0)=z:=⟨_,rfl⟩;have HR:=hV0 hR;rw[hR];unfold XC at ag;obtain⟨GB,ck⟩:∃f:Nat->Bool,Gb p m=f:=⟨_,rfl⟩;rw[ck]at HR ag;obtain⟨Y,hY⟩:∃f:Nat->GX,∀i,u.getD i ϰ=f i:=⟨_,λ_=>rfl⟩;obtain⟨G,hG⟩:∃f:Nat->Grp,∀i,m.getD i ϰ=f i:=⟨_,λ_=>rfl⟩;obtain⟨AG,ci⟩:∃f:Nat->Int×Int,∀j,p.aggs.getD j (0,0)=f j:=⟨_,λ_=>rfl⟩;obtain⟨OC,bi⟩:=nM (AW p);obtain⟨CO,a5⟩:=nM (A5 p);simp only[hY,hG]at a1 KK KF KR KB;simp only[hG]at ag;simp only[ci]at ba KB ag;rw[bi]at HT be cb bd KF;simp only[bi,a5]at ag;simp only[a5]at KT HG HT KB;rw[a5]at bo;obtain⟨gn,ct⟩:=nM (ϲ m);rw[ct]at a1 KK KF KR KB HR cs⊢;clear hR ck hY hG ci bi a5 ct hw hp ak an h0 al;obtain⟨U,W,rr,rc,X,Z,rk,ae,aa,L,P,E⟩:=x;unfold Ai at KP KT KB⊢;dsimp only at KP KT KB HG ba ag⊢;clear hf;obtain⟨cn,bp⟩:=nM (ϲ CO);have c8:=hV0 bp;rw[bp]at KT HG bo;rw[bd.o]at KF;clear bp;have d0:¬((gn:Int)>4096):=ϣ;have c9:=hV0 bs;clear bs cs bo;go_enter Tryz.func62,Tryz.ntmps62;go_wp2_with fail;generalize hV:(World.alloc w _)=V;have bj:Ϣ w V:=by rw[<-hV];exact Ϯ
 have cc:ϡ (boxP V w p ⟨U,W,rr,rc,X,Z,rk,ae,aa,L,P,E⟩):=by subst hV;exact BF w p ⟨U,W,rr,rc,X,Z,rk,ae,aa,L,P,E⟩ _
 clear hV;refine(KP.o _ bj).mono ?_;rintro e c ⟨rfl,bk⟩;have cr:Ϣ w c:=bT bj bk;have a0:ϡ (boxP c w p ⟨U,W,rr,rc,X,Z,rk,ae,aa,L,P,E⟩):=Af cc.o bk;have du:Δ c w 10 (.bool true):=by rw[<-c9.o];exact a0.o.2.2.2.2.2.2.2.2.2.2.1
 have dv:Δ c w 11 (vS aa (ϲ p.group) L):=a0.o.2.2.2.2.2.2.2.2.2.2.2.1;have dr:w.heap.size<c.heap.size:=Le a0.o;clear bk bj KP cc;go_wp2;clear du
 go_loopw [6,7] (λv t wr=> ∃k:Nat,k<=ϲ p.group/\t=vI k/\Cm wr c.heap.size v (OC.take k)/\Ϣ c wr) (λ_ t _=>ϲ p.group - (intOf t).toNat)
 case atStart=>exact⟨0,At _,rfl,KX _ _ _ _,bR⟩
 case round=>
  obtain⟨k,O,rfl,cv,ay⟩:=hrel;have a2:=hV0 cv;have bm:Ϣ w wr:=bT cr ay;have bb:ϡ (boxP wr w p ⟨U,W,rr,rc,X,Z,rk,ae,aa,L,P,E⟩):=Af a0.o ay;have de:=cLz ay dv;clear cv;by_cases T:k<ϲ p.group
  case pos=>
   obtain⟨b,o,e,C,Q,J⟩:=HG.o k T;have a4:ϡ (OC.take (k+1)=OC.take k++[CO.getD (p.group.getD k 0).toNat 0]):=HT.o k T;have db:ϡ (ϲ (OC.take k)=k):=be.o k O;obtain⟨z,hz⟩:=nM (p.group.getD k 0);rw[hz]at C Q J a4;obtain⟨zn,rfl⟩:=SK Q;simp only[SM]at J a4;obtain⟨cg,bq⟩:=nM (CO.getD zn 0);have b9:ϡ (CO.getD zn 0=cg/\zn<ϲ CO):=⟨bq,by rw[c8.o];exact J⟩;rw[bq]at a4;subst e;have q1:=cLz bm C;have i1:=nn0 k;have i2:(k:Int)<(ϲ p.group:Int):=ϣ;have j1:=nn0 zn;have j2:(zn:Int)<(cn:Int):=ϣ;have a3:ϡ (c.heap.size<=wr.heap.size):=ay.size;have dq:b<c.heap.size:=NE (bLt _ _ C) cr.size;clear hz bq C Q;go_wp2;refine CZ (S:=λs=>boxP s w p ⟨U,W,rr,rc,X,Z,rk,ae,(some ⟨b,o,none⟩),L,P,E⟩/\Δ s b (o+k) (vI (zn:Int))) 13 rfl Ϧ ⟨Af bb.o bR.drew,ϧ⟩ (λd=>?_)
   iterate 2 refine C9 13 d ?_
   iterate 5 refine C9 14 d ?_
   refine rD 2 λK r=>?_;go_simp;refine(KT.o _ bm.drew).mono ?_;rintro e y1 ⟨⟨d1,d2,rfl,cz⟩,b2⟩;have N:Ϣ wr y1:=bR.drew.trans b2;obtain⟨tb,d3,et,tz⟩:=cz zn b9.o.2;subst et;rw[b9.o.1]at tz;clear cz;go_wp2_with fail;refine r.out _ _ ⟨Af d.1 b2,cLz b2 d.2⟩ (λd=>?_);clear r K
   try simp only[Act.put,sI,sZ,sSz]
   refine C9 13 d ?_;refine rD 9 λK r=>?_;go_simp;refine r.out _ _ d (λd=>?_);clear r K
   try simp only[Act.put,sI,sZ,sSz]
   refine rD 10 λK r=>?_;go_simp;refine r.out _ _ ⟨Af d.1 Ϯ,cLz Ϯ d.2⟩ (λd=>?_);clear r K
   try simp only[Act.put,sI,sZ,sSz]
   refine rD 11 λK r=>?_;refine Q5 (by rfl) (.tmp 28) (.tmp 38) (by rfl) c.heap.size u6 (OC.take k) cg y1 k db.o (Pj a2.o N) ϣ (B0 a3.o N.size) (by simp[Act.eval,Act.put]) (by simp[Act.eval,Act.put]) ?_;intro g9 df w2 dp dl;have bg:Below c.heap.size y1 w2:=(bR.alloc (B0 a3.o N.size) _).grown dl (by simp;exact B0 a3.o (B0 N.size (PS _))) (λk O=>(aB a2.o k O).1);refine r.out _ _ ⟨Abb (Af bb.o N) dr bg,(bg.cell (p:=⟨_,_,none⟩) dq).trans (cLz N q1)⟩ (λd=>?_);clear r K
   try simp only[Act.put,sI,sZ,sSz]
   refine C9 13 d ?_;refine GT Ϧ ?_ _;have dh:Cm w2 c.heap.size (vS (ϋ g9) (k+1) df) (OC.take (k+1)):=by rw[a4.o];exact dp
   have dg:Ϣ c w2:=(ay.trans (N.mono a3.o)).trans bg;go_wp2;go_roundw;exact⟨k+1,ϣ,by go_num,dh,dg⟩;simp[intOf];omega
  obtain rfl:k=ϲ p.group:=ϣ;obtain⟨va,vc,c1,_⟩:=Bo a2.o;rw[be.o _ nR]at c1;subst c1;have dc:ϡ (Au wr va OC):=by have:=(Eg a2.o).1;rw[cb.o]at this;exact this
  generalize di:wr=W2 at *;clear di;go_wp2;clear de
  go_loopw [8] (λt wr=> ∃i:Nat,i<=gn/\t=vI i/\Ϣ W2 wr/\∀l,l<i->GB l=true) (λt _=>gn - (intOf t).toNat)
  case atStart=>exact⟨0,At _,rfl,bR,λi A=>absurd A (CA i)⟩
  case round=>
   obtain⟨i,A,rfl,a9,cm⟩:=hrel;have b4:=hV0 cm;have aj:Ϣ w wr:=bT bm a9;have b7:ϡ (boxP wr w p ⟨U,W,rr,rc,X,Z,rk,ae,aa,L,P,E⟩):=Af bb.o a9;clear cm;by_cases T:i<gn
   case neg=>
    have HE:ϡ (0=R):=by show _=_;rw[<-HR.o,AC (by rw[AA.2 (λl hl=>b4.o l ϣ)];simp)]
    go_wp2;go_ret;exact⟨Ad HE.o,aj⟩
   obtain⟨j,I⟩:∃j,j=i - 1:=⟨_,rfl⟩;obtain⟨b,o,e,C,Q,J⟩:=a1.o i T;obtain⟨b',o',e',x4,_,_⟩:=a1.o j ϣ;subst e;injection e' with e'
   injection e' with e1 e2
   subst e1 e2;have ah:=ag.o i;rw[<-I]at ah;have ca:ϡ (GB i=false->1=R):=λh=>by rw[<-HR.o,CK T h];rfl
   have ax:=Qg (λc (n:Ϣ w c)=>KK.o i c T n);have aw:=Qg (λc (n:Ϣ wr c)=>KF.o i va vc c T (bT aj n) (Al (Al dc.o a9) n));have au:=Qg (λc (n:Ϣ w c)=>KR.o i j c T ϣ n);have ar:=Qg (λj c ai I (n:Ϣ w c)=>KB.o i j c T I ai n);have zz:=lk4 aj C Q J x4;clear C Q J x4;obtain⟨C,Q,J,x4⟩:=zz;have i1:=nn0 i;have i2:(i:Int)<(gn:Int):=ϣ;have i3:=nn0 j;have i4:(j:Int)<(gn:Int):=ϣ;obtain⟨g,hg⟩:=nM (G i);obtain⟨⟨yr,dx,yb,c4,yh⟩,c3⟩:∃z,Y i=z:=⟨_,rfl⟩;rw[hg,c3]at C J ax aw au ar;rw[hg]at Q ah;dsimp only at C J ax aw au ar;obtain⟨rl,bz⟩:=nM (ϲ g.row);obtain⟨ke,bw⟩:=nM (Aq g.row);obtain⟨fe,br⟩:=nM (Ds OC g.row);obtain⟨nn,bx⟩:=nM g.n;obtain⟨bl,ai⟩:=nM (ϲ g.bags);obtain⟨CV,bh⟩:=nM (AH (G j).row g.row);obtain⟨pr,cw⟩:=nM ((Y j).r);obtain⟨ds,cx⟩:=nM ((Y j).rc);obtain⟨dt,cy⟩:=nM (ϲ (G j).row);rw[bz]at C ax aw au;rw[bw]at ax;rw[br]at aw;rw[bx]at Q ar;rw[ai]at J ar;rw[cw,cx,cy]at x4 au;rw[bh]at au;rw[bz,bw,br,bx,ai,bd.o,bh]at ah;obtain⟨az,cj⟩:∃f:Nat->Bool,∀j,Jh CO (AG j) nn (g.bags.getD j [])=f j:=⟨_,λ_=>rfl⟩;simp only[cj]at ar ah;obtain⟨D,H⟩:=nM (decide (rl=ϲ p.group)&&decide (ke=0)&&decide (fe=0)&&A8 nn 1 1073741824&&decide (bl=ϲ p.aggs)&&(decide (i=0)||decide (CV<0)));rw[H]at ah;have bc:ϡ (GB i=(D&&allB (ϲ p.aggs) az)):=ah;have aq:ϡ (D=false->1=R):=λh=>ca.o (by rw[bc.o,h];rfl);have cf:=Qg (λc=>An nn 1 1073741824 c);obtain⟨wb,c2⟩:=nM (A8 nn 1 1073741824);rw[c2]at cf H;have dw:Δ wr w 12 (vS P (ϲ p.aggs) E):=b7.o.2.2.2.2.2.2.2.2.2.2.2.2;clear ah cj bz bw br bx ai c3 hg bh cw cx cy c2;by_cases h1:rl=ϲ p.group
   case' neg=>
    have HF:ϡ (1=R):=aq.o (by rw[<-H];simp[h1]);have N1:=Fg (x:=(rl:Int)) (y:=(ϲ p.group:Int)) true Ϩ
   case' pos=>
    have N1:=Fg (x:=(rl:Int)) (y:=(ϲ p.group:Int)) false Ϩ;by_cases F:ke=0
    case' neg=>
     have HF:ϡ (1=R):=aq.o (by rw[<-H];simp[F]);have N2:=Fg (x:=ke) (y:=0) true (by simpa using F)
    case' pos=>
     have N2:=Fg (x:=ke) (y:=0) false (by simpa using F);by_cases M:fe=0
     case' neg=>
      have HF:ϡ (1=R):=aq.o (by rw[<-H];simp[M]);have N3:=Fg (x:=fe) (y:=0) true (by simpa using M)
     case' pos=>
      have N3:=Fg (x:=fe) (y:=0) false (by simpa using M);by_cases h4:wb=true
      case' neg=>
       have HF:ϡ (1=R):=aq.o (by rw[<-H];simp[h4]);obtain rfl:wb=false:=by simpa using h4
      case' pos=>
       subst h4;by_cases h5:bl=ϲ p.aggs
       case' neg=>
        have HF:ϡ (1=R):=aq.o (by rw[<-H];simp[h5]);have N5:=Fg (x:=(bl:Int)) (y:=(ϲ p.aggs:Int)) true Ϩ
       case' pos=>
        have N5:=Fg (x:=(bl:Int)) (y:=(ϲ p.aggs:Int)) false Ϩ;have b6:=hV0 h5;by_cases h6:i=0
        case' pos=>
         have HD:ϡ (D=true):=by show _=_;rw[<-H];simp[h1,F,M,h5,h6]
         have N6:=EH (x:=(i:Int)) (y:=0) false Ϩ
        case' neg=>
         have N6:=EH (x:=(i:Int)) (y:=0) true Ϩ;have i8:IntKind.i64.wrap ((i:Int) - 1)=(j:Int):=by rw[RW];omega
         by_cases h7:CV≥0
         case' pos=>
          have HF:ϡ (1=R):=aq.o (by rw[<-H];simp[h6];intros;omega);have N7:=Kn (x:=CV) (y:=0) true (by simpa using h7)
         case' neg=>
          have HD:ϡ (D=true):=by show _=_;rw[<-H];simp[h1,F,M,h5];right;omega
          have N7:=Kn (x:=CV) (y:=0) false (by simpa using h7)
   all_goals
    clear H I
    try clear h1
    try clear F
    try clear M
    try clear h4
    try clear h5
    try clear h6
    try clear h7
    as_aux_lemma=>
    go_wp2;refine CZ (S:=λs=>Δ s b (o+i * 3) (vS yr rl dx)/\Δ s b (o+i * 3+1) (vI nn)/\Δ s b (o+i * 3+2) (vS yb bl c4)/\Δ s w 12 (vS P (ϲ p.aggs) E)/\Δ s b (o+j * 3) (vS pr dt ds)) 68 rfl Ϧ ⟨ϧ,ϧ,ϧ,ϧ,ϧ⟩ (λd=>?_);have B:Ϣ wr wr.drew:=bR.drew
    repeat first|refine C9 68 d ?_|refine Hd 68 d ?_
    try
     refine rD 15 λK r=>?_;go_simp;refine(ax.o _ (bT aj B)).mono ?_;rintro e y ⟨rfl,hy⟩;replace B:=bT B hy;go_wp2_with fail;refine r.out _ _ ⟨cLz hy d.1,cLz hy d.2.1,cLz hy d.2.2.1,cLz hy d.2.2.2.1,cLz hy d.2.2.2.2⟩ (λd=>?_);clear r K
     try simp only[Act.put,sI,sZ,sSz]
     repeat first|refine C9 68 d ?_|refine Hd 68 d ?_
    try
     refine rD 25 λK r=>?_;go_simp;refine(aw.o _ B).mono ?_;rintro e y ⟨rfl,hy⟩;replace B:=bT B hy;go_wp2_with fail;refine r.out _ _ ⟨cLz hy d.1,cLz hy d.2.1,cLz hy d.2.2.1,cLz hy d.2.2.2.1,cLz hy d.2.2.2.2⟩ (λd=>?_);clear r K
     try simp only[Act.put,sI,sZ,sSz]
     repeat first|refine C9 68 d ?_|refine Hd 68 d ?_
    try
     refine rD 34 λK r=>?_;go_simp;refine(cf.o _).mono ?_;rintro e y ⟨rfl,rfl⟩;go_wp2_with fail;refine r.out _ _ d (λd=>?_);clear r K
     try simp only[Act.put,sI,sZ,sSz]
     repeat first|refine C9 68 d ?_|refine Hd 68 d ?_
    try
     refine rD 64 λK r=>?_;go_simp;refine(au.o _ (bT aj B)).mono ?_;rintro e y ⟨rfl,hy⟩;replace B:=bT B hy;go_wp2_with fail;refine r.out _ _ ⟨cLz hy d.1,cLz hy d.2.1,cLz hy d.2.2.1,cLz hy d.2.2.2.1,cLz hy d.2.2.2.2⟩ (λd=>?_);clear r K
     try simp only[Act.put,sI,sZ,sSz]
     repeat first|refine C9 68 d ?_|refine Hd 68 d ?_
    refine GT Ϧ ?_ _
    first
    |have HF:=HF
     go_wp2;go_ret;exact⟨Ad HF.o,bT aj B⟩
    |have HD:=HD
     obtain⟨-,s2,s3,s4, -⟩:=d;rename World=>W3;have c6:ϡ (boxP W3 w p ⟨U,W,rr,rc,X,Z,rk,ae,aa,L,P,E⟩):=Af b7.o B;have dj:=bT aj B;have dm:=bT a9 B;clear B C Q J x4 dw;go_wp2
     go_loopw [9] (λt wq=> ∃q:Nat,q<=ϲ p.aggs/\t=vI q/\Ϣ W3 wq/\∀l,l<q->az l=true) (λt _=>ϲ p.aggs - (intOf t).toNat)
     case atStart=>exact⟨0,At _,rfl,bR,λl hl=>absurd hl (CA l)⟩
     case round=>
      rename World=>wq;obtain⟨q,B,rfl,am,co⟩:=hrel;have b5:=hV0 co;have a6:=bT dj am;have c7:ϡ (boxP wq w p ⟨U,W,rr,rc,X,Z,rk,ae,aa,L,P,E⟩):=Af c6.o am;have dy:=cLz am s4;replace s2:=cLz am s2;replace s3:=cLz am s3;clear co s4;by_cases bu:q<ϲ p.aggs
      case neg=>
       have c5:ϡ (allB (ϲ p.aggs) az=true):=AA.2 (λl hl=>b5.o l ϣ);have da:ϡ (GB i=true):=by show _=_;rw[bc.o,c5.o,HD.o];rfl
       go_wp2;go_roundw;exact⟨i+1,ϣ,by go_num,bT dm am,λl hl=>by
        rcases Fm.1 hl with h|h
        ·exact b4.o l h
        ·rw[h];exact da.o⟩
       simp[intOf];omega
      obtain⟨ab,ao,ea,z1,z2⟩:=ba.o q bu;obtain⟨n,ho,e2,z3,cd⟩:=ar.o q wq b6.o bu a6;subst ea e2;replace z1:=cLz a6 z1;replace z2:=cLz a6 z2;have av:=Qg cd;obtain⟨⟨af,dd⟩,cl⟩:∃z,AG q=z:=⟨_,rfl⟩;obtain⟨⟨h1,F,M⟩,cu⟩:∃z,yh.getD q (none,0,0)=z:=⟨_,rfl⟩;obtain⟨tl,c0⟩:=nM (ϲ (g.bags.getD q []));obtain⟨bv,bn⟩:=nM (az q);have b8:=hV0 bn;rw[cl]at z1 z2 av;rw[cu,c0]at z3 av;rw[bn]at av;dsimp only at z1 z2 z3 av;have j1:=nn0 q;have j2:(q:Int)<(ϲ p.aggs:Int):=ϣ;have j3:(q:Int)<(bl:Int):=by have:=b6.o;omega
      clear cl cu c0 bn cd;go_wp2;refine CZ (S:=λs=>boxP s w p ⟨U,W,rr,rc,X,Z,rk,ae,aa,L,(some ⟨ab,ao,none⟩),E⟩/\Δ s ab (ao+q * 2) (vI af)/\Δ s ab (ao+q * 2+1) (vI dd)/\Δ s b (o+i * 3+1) (vI nn)/\Δ s b (o+i * 3+2) (vS (some ⟨n,ho,none⟩) bl c4)/\Δ s n (ho+q) (vS h1 tl M)) 21 rfl Ϧ ⟨Af c7.o bR.drew,ϧ,ϧ,ϧ,ϧ,ϧ⟩ (λd=>?_)
      iterate 19 refine C9 21 d ?_
      refine rD 19 λK r=>?_;go_simp;refine(av.o _ bR.drew).mono ?_;rintro e y9 ⟨rfl,ap⟩;have N:Ϣ wq y9:=bR.drew.trans ap;go_wp2_with fail;refine r.out _ _ ⟨Af d.1 ap,cLz ap d.2.1,cLz ap d.2.2.1,cLz ap d.2.2.2.1,cLz ap d.2.2.2.2.1,cLz ap d.2.2.2.2.2⟩ (λd=>?_);clear r K
      try simp only[Act.put,sI,sZ,sSz]
      refine C9 21 d ?_;refine GT Ϧ ?_ _
      cases bv with
      |true=>
       go_wp2;go_roundw;exact⟨q+1,ϣ,by go_num,bT am N,λl hl=>by
        rcases Fm.1 hl with h|h
        ·exact b5.o l h
        ·rw[h];exact b8.o⟩
       simp[intOf];omega
      |false=>
       have HE:ϡ (1=R):=ca.o (by rw[bc.o,CK bu b8.o];simp);go_wp2;go_ret;exact⟨Ad HE.o,bT a6 N⟩
end gr
