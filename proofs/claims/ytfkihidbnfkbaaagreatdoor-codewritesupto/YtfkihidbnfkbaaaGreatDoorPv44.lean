import Derived.Test.YtfkihidbnfkbaaaGreatDoorPv45
import Derived.Test.YtfkihidbnfkbaaaGreatDoorPv21
set_option linter.all false
set_option maxHeartbeats 32000000
set_option maxRecDepth 100000
open Go.ChangeShapes Go.WideShapes Go.ChangeAt Go.RowKit Go.Maps Go.WideMaps List
open Inhabited renaming default->ϰ
namespace Go.Proofs.YtfkihidbnfkbaaaGreatDoor
open Go.Proofs.Tryz
namespace gr
open vl pl bt jn
attribute [local go_sem] Oper.semAt_some
theorem Qu{p:Prop}(h:p):Ϣ p:=h
theorem Aco{U a:Ϡ}{b N:Nat}{p:pl.Pln}{x:pl.PA}(h:boxP U b p x)(d:b<N)(c:Below N U a):boxP a b p x:=by
 have f:∀o,a.cell? ⟨b,o,none⟩=U.cell? ⟨b,o,none⟩:=λo=>c.cell (p:=⟨b,o,none⟩) d;unfold boxP;simp only[f];exact h
theorem getD_in{α:Type}{l:List α}{d:α}{j:Nat}(h:j<l.length):l.getD j d∈l:=by
 rw[gDe,gEe h];exact getElem_mem h
def Xx(p:Pln)(gs:List Grp)(i:Nat):Bool:=
 decide ((gs.getD i ϰ).row.length=(AZ p).length)&&decide (Au (gs.getD i ϰ).row=0)&&decide (Dt (AZ p) (gs.getD i ϰ).row=0)&&AA (gs.getD i ϰ).n 1 1073741824&&decide ((gs.getD i ϰ).bags.length=p.aggs.length)&&(decide (i=0)||decide (AJ (gs.getD (i - 1) ϰ).row (gs.getD i ϰ).row<0))
theorem Z7(c:List Int)(r:List Cel):decide (Dt c r=0)=BU r c:=by
 unfold Dt;by_cases h:r.length=c.length
 ·rw[if_neg (by simpa using h)]
  cases h2:BU r c with
  |true=>simp
  |false=>simp
 ·rw[if_pos h];unfold BU;simp[h]
theorem Z8{r:List Cel}{c:List Int}(h:BU r c=true):r.length=c.length:=by
 unfold BU at h;simp at h;exact h.1
theorem Aev(p:Pln)(a:List Grp)(i:Nat):FQ p a i=(Xx p a i&&allB p.aggs.length (λj=>I2 (A7 p) (p.aggs.getD j (0,0)) (a.getD i ϰ).n ((a.getD i ϰ).bags.getD j []))):=by
 unfold FQ Xx J0;rw[Z7];by_cases c:BU (a.getD i ϰ).row (AZ p)=true
 ·rw[c,decide_eq_true (Z8 c)];by_cases d:(a.getD i ϰ).bags.length=p.aggs.length
  ·rw[d];unfold AA;simp[Bool.and_assoc,Bool.and_comm,Bool.and_left_comm]
  ·rw[decide_eq_false d];simp
 ·have e:BU (a.getD i ϰ).row (AZ p)=false:=by simpa using c
  rw[e];simp
theorem OM(p:Pln)(x:PA)(a:ϡ)(cap:Nat)(s:List GX)(m:List Grp)(w:Ϡ)(hw:wfPlan p)(hp:planAt w p x)(al:gsAt w a s m)(ap:∀g∈m,wfG g)(ct:m.length<=4096)(h0:Ag p=0)(bu:p.grouped=true):
 χ 62 #[Aj p x,vS a m.length cap] w (ψ w (vI (if allB m.length (FQ p m)=false then 1 else 0))):=by
 have hf:=Acn h0;have d0:=Jt h0 bu;have am:∀i,i<m.length->m.getD i ϰ∈m:=λi u=>by rw[gDe,gEe u];exact getElem_mem u
 have bp:(A7 p).length<=800:=by unfold A7;rw[lAp];omega
 have KP:Ϣ (∀c,ϣ w c->CT 36 #[Aj p x] c (ψ c (vI 0))):=λc n=>by
  have:=GQ p x c hw (Ae hp n);rwa[h0]at this
 have KT:Ϣ (∀c,ϣ w c->CT 87 #[Aj p x] c λe w'=>(∃ad cp,e= .returned (vS ad (A7 p).length cp)/\Ay w' ad (A7 p))/\ϣ c w'):=λc n=>
  (Gf p x c (Ae hp n) hf.1.1 hf.2.1 Ϥ Ϥ).mono (λe w' ⟨⟨ad,cp,h1,F⟩,M⟩=>⟨⟨ad,cp,h1,(Ea F).1⟩,M⟩)
 have HG:Ϣ (∀k,k<p.group.length->∃b o,x.g=some ⟨b,o,none⟩/\Δ w b (o+k) (vI (p.group.getD k 0))/\0<=p.group.getD k 0/\(p.group.getD k 0).toNat<(A7 p).length):=λk O=>by
  obtain⟨b,o,e,y⟩:=hp.g k O;have hm:p.group.getD k 0∈p.group:=by rw[gDe,gEe O];exact getElem_mem O
  have:=Up h0 _ hm;exact⟨b,o,e,y,this.1,Ϥ⟩
 have HT:Ϣ (∀k,k<p.group.length->(AZ p).take (k+1)=(AZ p).take k++[(A7 p).getD (p.group.getD k 0).toNat 0]):=λk O=>Lx p k O;have bg:Ϣ (∀k,k<=p.group.length->((AZ p).take k).length=k):=λk O=>by show _=_;rw[length_take,Da];omega
 have cc:Ϣ ((AZ p).take p.group.length=AZ p):=by show _=_;rw[<-Da,take_length]
 have be:Ϣ ((AZ p).length=p.group.length):=Da p;have bb:Ϣ (∀j,j<p.aggs.length->∃b b4,x.a=some ⟨b,b4,none⟩/\Δ w b (b4+j * 2) (vI (p.aggs.getD j (0,0)).1)/\Δ w b (b4+j * 2+1) (vI (p.aggs.getD j (0,0)).2)):=hp.a;have a2:Ϣ (∀i,i<m.length->∃b o,a=some ⟨b,o,none⟩/\Δ w b (o+i * 3) (vS (s.getD i ϰ).r (m.getD i ϰ).row.length (s.getD i ϰ).rc)/\Δ w b (o+i * 3+1) (vI (m.getD i ϰ).n)/\Δ w b (o+i * 3+2) (vS (s.getD i ϰ).b (m.getD i ϰ).bags.length (s.getD i ϰ).bc)):=al.cells;have KK:Ϣ (∀i c,i<m.length->ϣ w c->CT 119 #[vS (s.getD i ϰ).r (m.getD i ϰ).row.length (s.getD i ϰ).rc] c (ψ c (vI (Au (m.getD i ϰ).row)))):=λi c u n=>Cr _ _ _ c (vl.Ac (al.each i u).row n) (ap _ (am i u)).row (ap _ (am i u)).rl;have KF:Ϣ (∀i ta tc c,i<m.length->ϣ w c->Ay c ta (AZ p)->CT 65 #[vS ta (AZ p).length tc,vS (s.getD i ϰ).r (m.getD i ϰ).row.length (s.getD i ϰ).rc] c (ψ c (vI (Dt (AZ p) (m.getD i ϰ).row)))):=λi ta tc c u n ht=>GZ _ _ _ _ _ _ c (ap _ (am i u)).rl (by rw[Da];omega) (vl.Ac (al.each i u).row n) ht;have KR:Ϣ (∀i j c,i<m.length->j<m.length->ϣ w c->CT 120 #[vS (s.getD j ϰ).r (m.getD j ϰ).row.length (s.getD j ϰ).rc,vS (s.getD i ϰ).r (m.getD i ϰ).row.length (s.getD i ϰ).rc] c (ψ c (vI (AJ (m.getD j ϰ).row (m.getD i ϰ).row)))):=λi j c u I n=>Qb _ _ _ _ _ _ c (vl.Ac (al.each j I).row n) (vl.Ac (al.each i u).row n) (ap _ (am j I)).rl (ap _ (am i u)).rl
 have KB:Ϣ (∀i j c,i<m.length->j<p.aggs.length->(m.getD i ϰ).bags.length=p.aggs.length->ϣ w c->∃n ho,(s.getD i ϰ).b=some ⟨n,ho,none⟩/\Δ c n (ho+j) (vS ((s.getD i ϰ).hs.getD j (none,0,0)).1 ((m.getD i ϰ).bags.getD j []).length ((s.getD i ϰ).hs.getD j (none,0,0)).2.2)/\∀w2,ϣ c w2->CT 121 #[Aj p x,.agg #[vI (p.aggs.getD j (0,0)).1,vI (p.aggs.getD j (0,0)).2],vI (m.getD i ϰ).n,vS ((s.getD i ϰ).hs.getD j (none,0,0)).1 ((m.getD i ϰ).bags.getD j []).length ((s.getD i ϰ).hs.getD j (none,0,0)).2.2] w2 (ψ w2 (.bool (I2 (A7 p) (p.aggs.getD j (0,0)) (m.getD i ϰ).n ((m.getD i ϰ).bags.getD j []))))):=λi j c u I aj n=>by
  have a9:j<(m.getD i ϰ).bags.length:=by rw[aj];exact I
  have a8:=al.each i u;have b2:=ap _ (am i u);obtain⟨b1,o1,e1,z1⟩:=a8.hs j (by rw[a8.len];exact a9);rw[a8.hl j a9]at z1;have hm:(m.getD i ϰ).bags.getD j []∈(m.getD i ϰ).bags:=getD_in a9;have ha:p.aggs.getD j (0,0)∈p.aggs:=by rw[gDe,gEe I];exact getElem_mem I
  exact⟨b1,o1,e1,cLz n z1,λw2 F=>by
   have cr:=bT n F;exact TK p x _ _ _ _ _ w2 (Ae hp cr) hf.1.1 hf.2.1 Ϥ Ϥ (Xw h0 ha) (b2.tl _ hm).1 (Gz (a8.bag j a9) cr) b2.n (b2.tl _ hm).2⟩
 have ah:Ϣ (∀i,FQ p m i=(Xx p m i&&allB p.aggs.length (λj=>I2 (A7 p) (p.aggs.getD j (0,0)) (m.getD i ϰ).n ((m.getD i ϰ).bags.getD j [])))):=λi=>Aev p m i;obtain⟨R,hR⟩:∃z:Int,(if allB m.length (FQ p m)=false then 1 else 0)=z:=⟨_,rfl⟩;have HR:=hV0 hR;rw[hR];unfold Xx at ah;obtain⟨GB,cl⟩:∃f:Nat->Bool,FQ p m=f:=⟨_,rfl⟩;rw[cl]at HR ah;obtain⟨Y,hY⟩:∃f:Nat->GX,∀i,s.getD i ϰ=f i:=⟨_,λ_=>rfl⟩;obtain⟨G,hG⟩:∃f:Nat->Grp,∀i,m.getD i ϰ=f i:=⟨_,λ_=>rfl⟩;obtain⟨AG,cj⟩:∃f:Nat->Int×Int,∀j,p.aggs.getD j (0,0)=f j:=⟨_,λ_=>rfl⟩;obtain⟨OC,bj⟩:=nM (AZ p);obtain⟨CO,a6⟩:=nM (A7 p);simp only[hY,hG]at a2 KK KF KR KB;simp only[hG]at ah;simp only[cj]at bb KB ah;rw[bj]at HT bg cc be KF;simp only[bj,a6]at ah;simp only[a6]at KT HG HT KB;rw[a6]at bp;obtain⟨gn,cu⟩:=nM m.length;rw[cu]at a2 KK KF KR KB HR ct⊢;clear hR cl hY hG cj bj a6 cu hw hp al ap h0 am;obtain⟨X,Z,rr,rc,lk,aa,rk,ag,ae,L,P,E⟩:=x;unfold Aj at KP KT KB⊢;dsimp only at KP KT KB HG bb ah⊢;clear hf;obtain⟨cn,bq⟩:=nM CO.length;have c9:=hV0 bq;rw[bq]at KT HG bp;rw[be.o]at KF;clear bq;have d1:¬((gn:Int)>4096):=Ϥ;have da:=hV0 bu;clear bu ct bp;go_enter func62,ntmps62;go_wp2_with fail;generalize hV:(World.alloc w _)=V;have bk:ϣ w V:=by rw[<-hV];exact ϯ
 have cd:Ϣ (boxP V w p ⟨X,Z,rr,rc,lk,aa,rk,ag,ae,L,P,E⟩):=by subst hV;exact BQ w p ⟨X,Z,rr,rc,lk,aa,rk,ag,ae,L,P,E⟩ _
 clear hV;refine(KP.o _ bk).mono ?_;rintro e c ⟨rfl,bm⟩;have cs:ϣ w c:=bT bk bm;have a1:Ϣ (boxP c w p ⟨X,Z,rr,rc,lk,aa,rk,ag,ae,L,P,E⟩):=Af cd.o bm;have dv:Δ c w 10 (.bool true):=by rw[<-da.o];exact a1.o.2.2.2.2.2.2.2.2.2.2.1
 have dw:Δ c w 11 (vS ae p.group.length L):=a1.o.2.2.2.2.2.2.2.2.2.2.2.1;have ds:w.heap.size<c.heap.size:=MO a1.o;clear bm bk KP cd;go_wp2;clear dv
 go_loopw [6,7] (λv t wr=> ∃k:Nat,k<=p.group.length/\t=vI k/\Cm wr c.heap.size v (OC.take k)/\ϣ c wr) (λ_ t _=>p.group.length - (intOf t).toNat)
 case atStart=>exact⟨0,Nat.zero_le _,rfl,World.ownsRow_nil _ _ _ _,bR⟩
 case round=>
  obtain⟨k,O,rfl,cw,az⟩:=hrel;have a3:=hV0 cw;have bn:ϣ w wr:=bT cs az;have bc:Ϣ (boxP wr w p ⟨X,Z,rr,rc,lk,aa,rk,ag,ae,L,P,E⟩):=Af a1.o az;have df:=cLz az dw;clear cw;by_cases T:k<p.group.length
  case pos=>
   obtain⟨b,o,e,C,Q,J⟩:=HG.o k T;have a5:Ϣ (OC.take (k+1)=OC.take k++[CO.getD (p.group.getD k 0).toNat 0]):=HT.o k T;have dc:Ϣ ((OC.take k).length=k):=bg.o k O;obtain⟨z,hz⟩:=nM (p.group.getD k 0);rw[hz]at C Q J a5;obtain⟨zn,rfl⟩:=Int.eq_ofNat_of_zero_le Q;simp only[Int.toNat_natCast]at J a5;obtain⟨ci,br⟩:=nM (CO.getD zn 0);have ca:Ϣ (CO.getD zn 0=ci/\zn<CO.length):=⟨br,by rw[c9.o];exact J⟩;rw[br]at a5;subst e;have q1:=cLz bn C;have i1:=nn0 k;have i2:(k:Int)<(p.group.length:Int):=Ϥ;have j1:=nn0 zn;have j2:(zn:Int)<(cn:Int):=Ϥ;have a4:Ϣ (c.heap.size<=wr.heap.size):=az.size;have dr:b<c.heap.size:=Nat.lt_of_lt_of_le (bLt _ _ C) cs.size;clear hz br C Q;go_wp2;refine Dm (S:=λw'=>boxP w' w p ⟨X,Z,rr,rc,lk,aa,rk,ag,(some ⟨b,o,none⟩),L,P,E⟩/\Δ w' b (o+k) (vI (zn:Int))) 13 rfl ϧ ⟨Af bc.o bR.drew,Ϩ⟩ (λd=>?_)
   iterate 2 refine CE 13 d ?_
   iterate 5 refine CE 14 d ?_
   refine rD 2 λK r=>?_;go_simp;refine(KT.o _ bn.drew).mono ?_;rintro e y1 ⟨⟨d2,d3,rfl,c0⟩,b3⟩;have N:ϣ wr y1:=bR.drew.trans b3;obtain⟨tb,d4,et,tz⟩:=c0 zn ca.o.2;subst et;rw[ca.o.1]at tz;clear c0;go_wp2_with fail;refine r.out _ _ ⟨Af d.1 b3,cLz b3 d.2⟩ (λd=>?_);clear r K
   try simp only[Act.put,sI,sZ,sSz]
   refine CE 13 d ?_;refine rD 9 λK r=>?_;go_simp;refine r.out _ _ d (λd=>?_);clear r K
   try simp only[Act.put,sI,sZ,sSz]
   refine rD 10 λK r=>?_;go_simp;refine r.out _ _ ⟨Af d.1 ϯ,cLz ϯ d.2⟩ (λd=>?_);clear r K
   try simp only[Act.put,sI,sZ,sSz]
   refine rD 11 λK r=>?_;refine Qt (by rfl) (.tmp 28) (.tmp 38) (by rfl) c.heap.size u6 (OC.take k) ci y1 k dc.o (Nb a3.o N) Ϥ (Nat.le_trans a4.o N.size) (by simp[Act.eval,Act.put]) (by simp[Act.eval,Act.put]) ?_;intro g9 dg w2 dq dm;have bh:Below c.heap.size y1 w2:=(bR.alloc (Nat.le_trans a4.o N.size) _).grown dm (by simp;exact Nat.le_trans a4.o (Nat.le_trans N.size (Nat.le_succ _))) (λk O=>(World.ownsRow.lt a3.o k O).1);refine r.out _ _ ⟨Aco (Af bc.o N) ds bh,(bh.cell (p:=⟨_,_,none⟩) dr).trans (cLz N q1)⟩ (λd=>?_);clear r K
   try simp only[Act.put,sI,sZ,sSz]
   refine CE 13 d ?_;refine wpAnyH_done ϧ ?_ _;have di:Cm w2 c.heap.size (vS (ϋ g9) (k+1) dg) (OC.take (k+1)):=by rw[a5.o];exact dq
   have dh:ϣ c w2:=(az.trans (N.mono a4.o)).trans bh;go_wp2;go_roundw;exact⟨k+1,Ϥ,by go_num,di,dh⟩;simp[intOf];omega
  obtain rfl:k=p.group.length:=Ϥ;obtain⟨va,vc,c2,_⟩:=Bw a3.o;rw[bg.o _ nR]at c2;subst c2;have dd:Ϣ (Ay wr va OC):=by have:=(Ea a3.o).1;rw[cc.o]at this;exact this
  generalize dj:wr=W2 at *;clear dj;go_wp2;clear df
  go_loopw [8] (λt wr=> ∃i:Nat,i<=gn/\t=vI i/\ϣ W2 wr/\∀l,l<i->GB l=true) (λt _=>gn - (intOf t).toNat)
  case atStart=>exact⟨0,Nat.zero_le _,rfl,bR,λi u=>absurd u (Nat.not_lt_zero i)⟩
  case round=>
   obtain⟨i,u,rfl,ba,co⟩:=hrel;have b5:=hV0 co;have ak:ϣ w wr:=bT bn ba;have b8:Ϣ (boxP wr w p ⟨X,Z,rr,rc,lk,aa,rk,ag,ae,L,P,E⟩):=Af bc.o ba;clear co;by_cases T:i<gn
   case neg=>
    have HE:Ϣ (0=R):=by show _=_;rw[<-HR.o,if_neg (by rw[AF.2 (λl hl=>b5.o l Ϥ)];simp)]
    go_wp2;go_ret;exact⟨Ad HE.o,ak⟩
   obtain⟨j,I⟩:∃j,j=i - 1:=⟨_,rfl⟩;obtain⟨b,o,e,C,Q,J⟩:=a2.o i T;obtain⟨b',o',e',x4,_,_⟩:=a2.o j Ϥ;subst e;injection e' with e'
   injection e' with e1 e2
   subst e1 e2;have ai:=ah.o i;rw[<-I]at ai;have cb:Ϣ (GB i=false->1=R):=λh=>by rw[<-HR.o,CP T h];rfl
   have ay:=Qu (λc (n:ϣ w c)=>KK.o i c T n);have ax:=Qu (λc (n:ϣ wr c)=>KF.o i va vc c T (bT ak n) (Al (Al dd.o ba) n));have av:=Qu (λc (n:ϣ w c)=>KR.o i j c T Ϥ n);have au:=Qu (λj c aj I (n:ϣ w c)=>KB.o i j c T I aj n);have zz:=lk4 ak C Q J x4;clear C Q J x4;obtain⟨C,Q,J,x4⟩:=zz;have i1:=nn0 i;have i2:(i:Int)<(gn:Int):=Ϥ;have i3:=nn0 j;have i4:(j:Int)<(gn:Int):=Ϥ;obtain⟨g,hg⟩:=nM (G i);obtain⟨⟨yr,dy,yb,c5,yh⟩,c4⟩:∃z,Y i=z:=⟨_,rfl⟩;rw[hg,c4]at C J ay ax av au;rw[hg]at Q ai;dsimp only at C J ay ax av au;obtain⟨rl,b0⟩:=nM g.row.length;obtain⟨ke,bx⟩:=nM (Au g.row);obtain⟨fe,bs⟩:=nM (Dt OC g.row);obtain⟨nn,bz⟩:=nM g.n;obtain⟨bl,aj⟩:=nM g.bags.length;obtain⟨CV,bi⟩:=nM (AJ (G j).row g.row);obtain⟨pr,cx⟩:=nM ((Y j).r);obtain⟨dt,cy⟩:=nM ((Y j).rc);obtain⟨du,cz⟩:=nM ((G j).row.length);rw[b0]at C ay ax av;rw[bx]at ay;rw[bs]at ax;rw[bz]at Q au;rw[aj]at J au;rw[cx,cy,cz]at x4 av;rw[bi]at av;rw[b0,bx,bs,bz,aj,be.o,bi]at ai;obtain⟨a0,ck⟩:∃f:Nat->Bool,∀j,I2 CO (AG j) nn (g.bags.getD j [])=f j:=⟨_,λ_=>rfl⟩;simp only[ck]at au ai;obtain⟨D,H⟩:=nM (decide (rl=p.group.length)&&decide (ke=0)&&decide (fe=0)&&AA nn 1 1073741824&&decide (bl=p.aggs.length)&&(decide (i=0)||decide (CV<0)));rw[H]at ai;have bd:Ϣ (GB i=(D&&allB p.aggs.length a0)):=ai;have ar:Ϣ (D=false->1=R):=λh=>cb.o (by rw[bd.o,h];rfl);have cg:=Qu (λc=>Ap nn 1 1073741824 c);obtain⟨wb,c3⟩:=nM (AA nn 1 1073741824);rw[c3]at cg H;have dx:Δ wr w 12 (vS P p.aggs.length E):=b8.o.2.2.2.2.2.2.2.2.2.2.2.2;clear ai ck b0 bx bs bz aj c4 hg bi cx cy cz c3;by_cases h1:rl=p.group.length
   case' neg=>
    have HF:Ϣ (1=R):=ar.o (by rw[<-H];simp[h1]);have N1:=EO (x:=(rl:Int)) (y:=(p.group.length:Int)) true ϩ
   case' pos=>
    have N1:=EO (x:=(rl:Int)) (y:=(p.group.length:Int)) false ϩ;by_cases F:ke=0
    case' neg=>
     have HF:Ϣ (1=R):=ar.o (by rw[<-H];simp[F]);have N2:=EO (x:=ke) (y:=0) true (by simpa using F)
    case' pos=>
     have N2:=EO (x:=ke) (y:=0) false (by simpa using F);by_cases M:fe=0
     case' neg=>
      have HF:Ϣ (1=R):=ar.o (by rw[<-H];simp[M]);have N3:=EO (x:=fe) (y:=0) true (by simpa using M)
     case' pos=>
      have N3:=EO (x:=fe) (y:=0) false (by simpa using M);by_cases h4:wb=true
      case' neg=>
       have HF:Ϣ (1=R):=ar.o (by rw[<-H];simp[h4]);obtain rfl:wb=false:=by simpa using h4
      case' pos=>
       subst h4;by_cases h5:bl=p.aggs.length
       case' neg=>
        have HF:Ϣ (1=R):=ar.o (by rw[<-H];simp[h5]);have N5:=EO (x:=(bl:Int)) (y:=(p.aggs.length:Int)) true ϩ
       case' pos=>
        have N5:=EO (x:=(bl:Int)) (y:=(p.aggs.length:Int)) false ϩ;have b7:=hV0 h5;by_cases h6:i=0
        case' pos=>
         have HD:Ϣ (D=true):=by show _=_;rw[<-H];simp[h1,F,M,h5,h6]
         have N6:=Ex (x:=(i:Int)) (y:=0) false ϩ
        case' neg=>
         have N6:=Ex (x:=(i:Int)) (y:=0) true ϩ;have i8:IntKind.i64.wrap ((i:Int) - 1)=(j:Int):=by rw[IntKind.wrap_i64];omega
         by_cases h7:CV≥0
         case' pos=>
          have HF:Ϣ (1=R):=ar.o (by rw[<-H];simp[h6];intros;omega);have N7:=JF (x:=CV) (y:=0) true (by simpa using h7)
         case' neg=>
          have HD:Ϣ (D=true):=by show _=_;rw[<-H];simp[h1,F,M,h5];right;omega
          have N7:=JF (x:=CV) (y:=0) false (by simpa using h7)
   all_goals
    clear H I
    try clear h1
    try clear F
    try clear M
    try clear h4
    try clear h5
    try clear h6
    try clear h7
    as_aux_lemma=>
    go_wp2;refine Dm (S:=λw'=>Δ w' b (o+i * 3) (vS yr rl dy)/\Δ w' b (o+i * 3+1) (vI nn)/\Δ w' b (o+i * 3+2) (vS yb bl c5)/\Δ w' w 12 (vS P p.aggs.length E)/\Δ w' b (o+j * 3) (vS pr du dt)) 68 rfl ϧ ⟨Ϩ,Ϩ,Ϩ,Ϩ,Ϩ⟩ (λd=>?_);have A:ϣ wr wr.drew:=bR.drew
    repeat first|refine CE 68 d ?_|refine GI 68 d ?_
    try
     refine rD 15 λK r=>?_;go_simp;refine(ay.o _ (bT ak A)).mono ?_;rintro e y ⟨rfl,hy⟩;replace A:=bT A hy;go_wp2_with fail;refine r.out _ _ ⟨cLz hy d.1,cLz hy d.2.1,cLz hy d.2.2.1,cLz hy d.2.2.2.1,cLz hy d.2.2.2.2⟩ (λd=>?_);clear r K
     try simp only[Act.put,sI,sZ,sSz]
     repeat first|refine CE 68 d ?_|refine GI 68 d ?_
    try
     refine rD 25 λK r=>?_;go_simp;refine(ax.o _ A).mono ?_;rintro e y ⟨rfl,hy⟩;replace A:=bT A hy;go_wp2_with fail;refine r.out _ _ ⟨cLz hy d.1,cLz hy d.2.1,cLz hy d.2.2.1,cLz hy d.2.2.2.1,cLz hy d.2.2.2.2⟩ (λd=>?_);clear r K
     try simp only[Act.put,sI,sZ,sSz]
     repeat first|refine CE 68 d ?_|refine GI 68 d ?_
    try
     refine rD 34 λK r=>?_;go_simp;refine(cg.o _).mono ?_;rintro e y ⟨rfl,rfl⟩;go_wp2_with fail;refine r.out _ _ d (λd=>?_);clear r K
     try simp only[Act.put,sI,sZ,sSz]
     repeat first|refine CE 68 d ?_|refine GI 68 d ?_
    try
     refine rD 64 λK r=>?_;go_simp;refine(av.o _ (bT ak A)).mono ?_;rintro e y ⟨rfl,hy⟩;replace A:=bT A hy;go_wp2_with fail;refine r.out _ _ ⟨cLz hy d.1,cLz hy d.2.1,cLz hy d.2.2.1,cLz hy d.2.2.2.1,cLz hy d.2.2.2.2⟩ (λd=>?_);clear r K
     try simp only[Act.put,sI,sZ,sSz]
     repeat first|refine CE 68 d ?_|refine GI 68 d ?_
    refine wpAnyH_done ϧ ?_ _
    first
    |have HF:=HF
     go_wp2;go_ret;exact⟨Ad HF.o,bT ak A⟩
    |have HD:=HD
     obtain⟨-,s2,s3,s4, -⟩:=d;rename World=>W3;have c7:Ϣ (boxP W3 w p ⟨X,Z,rr,rc,lk,aa,rk,ag,ae,L,P,E⟩):=Af b8.o A;have dl:=bT ak A;have dp:=bT ba A;clear A C Q J x4 dx;go_wp2
     go_loopw [9] (λt wq=> ∃q:Nat,q<=p.aggs.length/\t=vI q/\ϣ W3 wq/\∀l,l<q->a0 l=true) (λt _=>p.aggs.length - (intOf t).toNat)
     case atStart=>exact⟨0,Nat.zero_le _,rfl,bR,λl hl=>absurd hl (Nat.not_lt_zero l)⟩
     case round=>
      rename World=>wq;obtain⟨q,A,rfl,an,cq⟩:=hrel;have b6:=hV0 cq;have a7:=bT dl an;have c8:Ϣ (boxP wq w p ⟨X,Z,rr,rc,lk,aa,rk,ag,ae,L,P,E⟩):=Af c7.o an;have dz:=cLz an s4;replace s2:=cLz an s2;replace s3:=cLz an s3;clear cq s4;by_cases bw:q<p.aggs.length
      case neg=>
       have c6:Ϣ (allB p.aggs.length a0=true):=AF.2 (λl hl=>b6.o l Ϥ);have db:Ϣ (GB i=true):=by show _=_;rw[bd.o,c6.o,HD.o];rfl
       go_wp2;go_roundw;exact⟨i+1,Ϥ,by go_num,bT dp an,λl hl=>by
        rcases Nat.lt_succ_iff_lt_or_eq.1 hl with h|h
        ·exact b5.o l h
        ·rw[h];exact db.o⟩
       simp[intOf];omega
      obtain⟨ab,ao,ea,z1,z2⟩:=bb.o q bw;obtain⟨n,ho,e2,z3,cf⟩:=au.o q wq b7.o bw a7;subst ea e2;replace z1:=cLz a7 z1;replace z2:=cLz a7 z2;have aw:=Qu cf;obtain⟨⟨af,de⟩,cm⟩:∃z,AG q=z:=⟨_,rfl⟩;obtain⟨⟨h1,F,M⟩,cv⟩:∃z,yh.getD q (none,0,0)=z:=⟨_,rfl⟩;obtain⟨tl,c1⟩:=nM ((g.bags.getD q []).length);obtain⟨bv,bo⟩:=nM (a0 q);have b9:=hV0 bo;rw[cm]at z1 z2 aw;rw[cv,c1]at z3 aw;rw[bo]at aw;dsimp only at z1 z2 z3 aw;have j1:=nn0 q;have j2:(q:Int)<(p.aggs.length:Int):=Ϥ;have j3:(q:Int)<(bl:Int):=by have:=b7.o;omega
      clear cm cv c1 bo cf;go_wp2;refine Dm (S:=λw'=>boxP w' w p ⟨X,Z,rr,rc,lk,aa,rk,ag,ae,L,(some ⟨ab,ao,none⟩),E⟩/\Δ w' ab (ao+q * 2) (vI af)/\Δ w' ab (ao+q * 2+1) (vI de)/\Δ w' b (o+i * 3+1) (vI nn)/\Δ w' b (o+i * 3+2) (vS (some ⟨n,ho,none⟩) bl c5)/\Δ w' n (ho+q) (vS h1 tl M)) 21 rfl ϧ ⟨Af c8.o bR.drew,Ϩ,Ϩ,Ϩ,Ϩ,Ϩ⟩ (λd=>?_)
      iterate 19 refine CE 21 d ?_
      refine rD 19 λK r=>?_;go_simp;refine(aw.o _ bR.drew).mono ?_;rintro e y9 ⟨rfl,aq⟩;have N:ϣ wq y9:=bR.drew.trans aq;go_wp2_with fail;refine r.out _ _ ⟨Af d.1 aq,cLz aq d.2.1,cLz aq d.2.2.1,cLz aq d.2.2.2.1,cLz aq d.2.2.2.2.1,cLz aq d.2.2.2.2.2⟩ (λd=>?_);clear r K
      try simp only[Act.put,sI,sZ,sSz]
      refine CE 21 d ?_;refine wpAnyH_done ϧ ?_ _
      cases bv with
      |true=>
       go_wp2;go_roundw;exact⟨q+1,Ϥ,by go_num,bT an N,λl hl=>by
        rcases Nat.lt_succ_iff_lt_or_eq.1 hl with h|h
        ·exact b6.o l h
        ·rw[h];exact b9.o⟩
       simp[intOf];omega
      |false=>
       have HE:Ϣ (1=R):=cb.o (by rw[bd.o,CP bw b9.o];simp);go_wp2;go_ret;exact⟨Ad HE.o,bT a7 N⟩
end gr
namespace gr
open vl pl bt
attribute [local go_sem] Oper.semAt_some
theorem MA(p:Pln)(x:PA)(a:ϡ)(cap:Nat)(d:List Grp)(w:Ϡ)(X:wfPlan p)(T:planAt w p x)(ad:d.length<=ύ)(h:Ag p≠0\/p.grouped=false\/4096<d.length):
 χ 62 #[Aj p x,vS a d.length cap] w (ψ w (vI (CS p d))):=by
 have f:=hIz (λ(i:Ϡ) (hb:ϣ w i)=>GQ p x i X (Ae T hb));obtain⟨R,k⟩:=nM (CS p d);have c:=hV0 k;unfold CS at c;rw[k];clear k X T;obtain⟨AB,P⟩:=nM (allB d.length (FQ p d));rw[P]at c;obtain⟨E,Q⟩:=nM (Ag p);rw[Q]at f c h;obtain⟨I,S⟩:=nM d.length;rw[S]at c ad h⊢;clear P Q S;obtain⟨ak,ao,an,aj,au,al,left,right,ae,af,ab,aa,Z⟩:=p;obtain⟨la,lc,rr,rc,lk,am,rk,ar,ga,gc,ag,ac⟩:=x;unfold Aj at f⊢;dsimp only at f c h⊢;have Y:=hV0 h;clear h;obtain⟨n6,L⟩:∃n,left.length=n:=⟨_,rfl⟩;obtain⟨n7,M⟩:∃n,right.length=n:=⟨_,rfl⟩;obtain⟨n8,N⟩:∃n,ae.length=n:=⟨_,rfl⟩;obtain⟨n9,O⟩:∃n,af.length=n:=⟨_,rfl⟩;obtain⟨ap,J⟩:∃n,aa.length=n:=⟨_,rfl⟩;obtain⟨aq,K⟩:∃n,Z.length=n:=⟨_,rfl⟩;simp only[L,M,N,O,J,K]at f⊢;clear L M N O J K;go_enter func62,ntmps62;go_wp2_with fail;generalize l:(World.alloc w _)=V;have m:ϣ w V:=by rw[<-l];exact ϯ
 obtain⟨r,s,y,z,A,C,D,F,G,H,t,u,v⟩:=AfF l;clear l;refine(f.o _ m).mono ?_;rintro e i ⟨rfl,o⟩;have q:ϣ w i:=bT m o;have zz:=Aae o r s y z A C D F G H t u v;clear r s y z A C D F G H t u v;obtain⟨r,s,y,z,A,C,D,F,G,H,t,u,v⟩:=zz;clear o m f;by_cases j:E=0
 ·subst j
  cases ab with
  |false=>
   have g:Ϣ (1=R):=by show _=_;rw[<-c.o];simp
   go_wp2;go_ret;exact⟨Ad g.o,q⟩
  |true=>
   have h1:I>4096:=by have:=Y.o;simpa using this
   have g:Ϣ (2=R):=by show _=_;rw[<-c.o];simp;omega
   have ai:(I:Int)>4096:=Ϥ;go_wp2;go_ret;exact⟨Ad g.o,q⟩
 ·have ah:(E !=0)=true:=by simpa using j
  have g:Ϣ (E=R):=by show _=_;rw[<-c.o,if_pos j]
  go_wp2;go_ret;exact⟨Ad g.o,q⟩
end gr
end Go.Proofs.YtfkihidbnfkbaaaGreatDoor
