import Derived.Test.YtfkihidbnfkbaaaGreatDoorPv41
set_option linter.all false
set_option maxHeartbeats 16000000
set_option maxRecDepth 100000
open Inhabited renaming default->ϰ
open List renaming length->ϲ
namespace Go.Proofs.YtfkihidbnfkbaaaGreatDoor
open ChangeShapes WideShapes ChangeAt RowKit List
namespace jn
open vl bf
attribute [local go_sem] Oper.semAt_some
variable {W2 w' wr : ϟ} {b0 : Option Nat} {base : Nat} {v : Value}
def Ka(W2 wr:World)(b0:Option Nat):Prop:=W2.heap.size<=wr.heap.size/\∀k,k<W2.heap.size->b0≠some k->wr.heap[k]? =W2.heap[k]?
def Wq(W:ϟ)(b0:Option Nat):Ka W W b0:=⟨HU _,λ_ _ _=>rfl⟩
def TI(h:Ka W2 wr b0)(a:Ϣ wr w'):Ka W2 w' b0:=⟨B0 h.1 a.size,λk b c=>(a.block k (NE b h.1)).trans (h.2 k b c)⟩
def Wr(h:Ka W2 wr b0)(b:bf.Left wr w' base v)(d:∀g,v.ownBlock=some g->b0=some g\/W2.heap.size<=g):Ka W2 w' b0:=⟨B0 h.1 b.size,λk a c=>(b.blk k (NE a h.1) (λe=>by
 rcases d k e with j|j
 ·exact c j
 ·omega)).trans (h.2 k a c)⟩
def Ach{d:List EM}{l:List Ent}(h:OE W2 base v d l)(b:Ka W2 wr b0)(f:∀g,b0=some g->g<base):OE wr base v d l:=by
 refine⟨B0 h.low b.1,A4 h.own (λg a=>?_),h.len,λi p=>?_⟩
 ·have:=bf.AL h.own a;exact b.2 g this.2 (λe=>by have:=f g e;omega)
 ·obtain⟨j,k,m,n,o,c⟩:=h.rows i p;refine⟨j,k,m,n,o,A4 c (λg a=>?_)⟩;have:=bf.AL c a;exact b.2 g this.2 (λe=>by have:=f g e;omega)
def mkK(a b:Nat):Nat->Nat
 |0=>0
 |1=>a
 |_=>a+b
theorem TJ(p:pl.Pln)(x:pl.PA)(s:Jn)(y:JX)(w:ϟ)(hw:pl.wfPlan p)(hp:pl.planAt w p x)(h:joinAt w s y)(hE:∀z∈Ab s.L++Ab s.R,wfE z/\z.key.size<=140737488355328/\(ϲ z.row)<=2000000)(dm:ϲ (Ab s.L)<=4611686018427387904)(b5:ϲ (Ab s.R)<=4611686018427387904):
 χ 61 #[pl.Ai p x,joinV s y] w (ψ w (vI (AV p s))):=by
 have bh:Tryz.prog.follows .mixedOrders=true:=rfl;have KP:=hIz (λ(a:ϟ) (u:Ϣ w a)=>pl.FF p x a hw (pl.Ae hp u));have bu:=hIz (λ(a:ϟ) (u:Ϣ w a)=>Fz s.L y.l a (Ao h.l u) (λz F=>hE z (Fk.2 (.inl F))) dm);have bv:=hIz (λ(a:ϟ) (u:Ϣ w a)=>Fz s.R y.r a (Ao h.r u) (λz F=>hE z (Fk.2 (.inr F))) b5);have ay:ϡ (okB s.L->∀a,Ϣ w a->CT 115 #[.agg (Ω s.L y.l)] a λe w'=>(∃d t,e= .returned (hdV d)/\OE w' a (hdV d) t (Dx (Ab s.L)))/\Ϣ a w'):=λok a u=>by
  refine(Tk s.L y.l a (Ao h.l u) ok).mono ?_;rintro e w' ⟨⟨d,t,l,he,ho,b4,hr⟩,bx⟩;have:l=Dx (Ab s.L):=LR b4 (XW hr) ok.once;rw[this]at ho;exact⟨⟨d,t,he,ho⟩,bx⟩
 have az:ϡ (okB s.R->∀a,Ϣ w a->CT 115 #[.agg (Ω s.R y.r)] a λe w'=>(∃d t,e= .returned (hdV d)/\OE w' a (hdV d) t (Dx (Ab s.R)))/\Ϣ a w'):=λok a u=>by
  refine(Tk s.R y.r a (Ao h.r u) ok).mono ?_;rintro e w' ⟨⟨d,t,l,he,ho,b4,hr⟩,bx⟩;have:l=Dx (Ab s.R):=LR b4 (XW hr) ok.once;rw[this]at ho;exact⟨⟨d,t,he,ho⟩,bx⟩
 have ap:ϡ (∀a,CT 83 #[vI s.lm,vI (-1099511627777),vI 1099511627776] a λe w'=>e= .returned (.bool (Dv s.lm))/\w'=a):=λa=>by rw[<-Qq];exact bf.An _ _ _ _
 have a0:ϡ (∀a,CT 83 #[vI s.rm,vI (-1099511627777),vI 1099511627776] a λe w'=>e= .returned (.bool (Dv s.rm))/\w'=a):=λa=>by rw[<-Qq];exact bf.An _ _ _ _
 have a9:ϡ (∀a,CT 83 #[vI s.seq,Ϗ,vI 1099511627776] a λe w'=>e= .returned (.bool (bf.A8 s.seq 0 1099511627776))/\w'=a):=λa=>bf.An _ _ _ _;have HW:ϡ (pl.wfPlan p/\pl.planAt w p x):=⟨hw,hp⟩;have av:ϡ ((Dx (Ab s.L)).Perm (Ab s.L)):=De _;have aw:ϡ ((Dx (Ab s.R)).Perm (Ab s.R)):=De _;have bk:ϡ (∀z∈Dx (Ab s.L),B8 z.row/\(ϲ z.row)<=ύ):=λz F=>by
  have:=hE z (Fk.2 (.inl (av.o.mem_iff.1 F)));exact⟨this.1.row,ϣ⟩
 have bm:ϡ (∀z∈Dx (Ab s.R),B8 z.row/\(ϲ z.row)<=ύ):=λz F=>by
  have:=hE z (Fk.2 (.inr (aw.o.mem_iff.1 F)));exact⟨this.1.row,ϣ⟩
 have a7:ϡ (D6 s.L=0->okB s.L/\(ϲ (Dx (Ab s.L)))<=4096):=λm=>⟨ED m,by rw[av.o.length_eq];exact(ED m).all⟩;have a8:ϡ (D6 s.R=0->okB s.R/\(ϲ (Dx (Ab s.R)))<=4096):=λm=>⟨ED m,by rw[aw.o.length_eq];exact(ED m).all⟩;obtain⟨R,hR⟩:=nM (AV p s);have f:ϡ (R=if pl.Ag p≠0 then pl.Ag p else if D6 s.L≠0 then D6 s.L else if D6 s.R≠0 then D6 s.R else if Ez s=false then 3 else if Ct p s=false then 1 else 0):=hR.symm;rw[hR];have ax:ϡ (Ez s=(Dv s.lm&&Dv s.rm&&bf.A8 s.seq 0 1099511627776)):=rfl;obtain⟨A,hA⟩:=nM (Dx (Ab s.L));obtain⟨B,hB⟩:=nM (Dx (Ab s.R));rw[hA]at ay av bk a7;rw[hB]at az aw bm a8;obtain⟨pe,b3⟩:=nM (pl.Ag p);obtain⟨e1,c0⟩:=nM (D6 s.L);obtain⟨e2,c1⟩:=nM (D6 s.R);have ck:=hV0 b3;rw[b3]at KP f;rw[c0]at bu f a7;rw[c1]at bv f a8;obtain⟨N,df⟩:=nM (Dv s.lm);obtain⟨q2,dg⟩:=nM (Dv s.rm);obtain⟨q3,dh⟩:=nM (bf.A8 s.seq 0 1099511627776);rw[df]at ap ax;rw[dg]at a0 ax;rw[dh]at a9 ax;rw[ax.o]at f;have ab:ϡ (Qo p s=(decide (s.L.lim=p.limit)&&decide (s.R.lim=p.limit))):=rfl;unfold pl.Ai at KP⊢;rw[AU];clear hw hp h hE dm b5 hR hA hB b3 c0 c1 df dg dh ax;go_enter Tryz.func61,Tryz.ntmps61;go_wp2_with fail;generalize hV:(World.alloc (World.alloc w _) _)=V;have aj:Ϣ w V:=by rw[<-hV];exact Ϯ.alloc ϥ _
 have HB:ϡ (boxP V w p x):=by
  subst hV;exact Af (BF ..) Ϯ
 have G:ϡ (BU V (w+1) s y):=by
  subst hV;have:=C5 (ϊ w (Φ p x) 32) s y 38;rw[D0]at this;exact this
 clear hV;refine(KP.o _ aj).mono ?_;rintro e a ⟨rfl,W⟩;have ae:Ϣ w a:=bT aj W;replace HB:ϡ (boxP a w p x):=Af HB.o W;replace G:ϡ (BU a (w+1) s y):=Ay G.o W;clear KP aj W;by_cases m:pe=0
 case neg=>
  have db:(pe !=0)=true:=by simpa using m
  rw[AE m]at f;go_wp2;go_ret;exact⟨vl.Ad f.o.symm,ae⟩
 subst m;rw[AC Ϥ]at f;obtain⟨u0,u1,u2,u3,u4,u5,u6,u7,u8⟩:=G.o;go_wp2_with fail;refine(bu.o _ ae).mono ?_;rintro e w2 ⟨rfl,aa⟩;have ba:Ϣ w w2:=bT ae aa;clear u0 u1 u2 u3 u4 u5 u6 u7 u8;replace HB:ϡ (boxP w2 w p x):=Af HB.o aa;replace G:ϡ (BU w2 (w+1) s y):=Ay G.o aa;by_cases m:e1=0
 case neg=>
  have db:(e1 !=0)=true:=by simpa using m
  rw[AE m]at f;go_wp2;go_ret;exact⟨vl.Ad f.o.symm,ba⟩
 subst m;rw[AC Ϥ]at f;obtain⟨u0,u1,u2,u3,u4,u5,u6,u7,u8⟩:=G.o;go_wp2_with fail;refine(bv.o _ ba).mono ?_;rintro e w3 ⟨rfl,bc⟩;have Z:Ϣ w w3:=bT ba bc;clear u0 u1 u2 u3 u4 u5 u6 u7 u8;replace HB:ϡ (boxP w3 w p x):=Af HB.o bc;replace G:ϡ (BU w3 (w+1) s y):=Ay G.o bc;clear aa bc ae ba bu bv;by_cases m:e2=0
 case neg=>
  have db:(e2 !=0)=true:=by simpa using m
  rw[AE m]at f;go_wp2;go_ret;exact⟨vl.Ad f.o.symm,Z⟩
 subst m;rw[AC Ϥ]at f;obtain⟨okL,ek⟩:=a7.o ϫ;obtain⟨ds,em⟩:=a8.o ϫ;have cj:=hV0 ck.o;replace ay:=ay.o okL;replace az:=az.o ds;have d8:ϡ (∀a,Ϣ w a->CT 115 #[.agg (Ω s.L y.l)] a λe w'=>(∃d t,e= .returned (hdV d)/\OE w' a (hdV d) t A)/\Ϣ a w'):=ay;have d9:ϡ (∀a,Ϣ w a->CT 115 #[.agg (Ω s.R y.r)] a λe w'=>(∃d t,e= .returned (hdV d)/\OE w' a (hdV d) t B)/\Ϣ a w'):=az;have d6:ϡ (ϲ (Co A B)<=8192):=by
  show _<=_;unfold Co;rw[lAp,lMp,lMp];omega
 clear ay az a7 a8 okL ds ck;obtain⟨u0,u1,u2,u3,u4,u5,u6,u7,u8⟩:=G.o;have v5:=HB.o.2.2.2.2.2.1
 cases N with
 |false=>
  have au:ϡ (R=3):=by show R=3;rw[f.o];simp
  go_wp2_with (go_at_call 83;(with_reducible refine(ap.o _).mono ?_);rintro e w' ⟨rfl,C⟩;have D:=C.symm;subst D);go_ret;exact⟨vl.Ad au.o.symm,Z⟩
 |true=>
 cases q2 with
 |false=>
  have au:ϡ (R=3):=by show R=3;rw[f.o];simp
  go_wp2_with (go_at_call 83;first|((with_reducible refine(ap.o _).mono ?_);rintro e w' ⟨rfl,C⟩;have D:=C.symm;subst D)|((with_reducible refine(a0.o _).mono ?_);rintro e w' ⟨rfl,C⟩;have D:=C.symm;subst D));go_ret;exact⟨vl.Ad au.o.symm,Z⟩
 |true=>
 cases q3 with
 |false=>
  have au:ϡ (R=3):=by show R=3;rw[f.o];simp
  go_wp2_with (go_at_call 83;first|((with_reducible refine(ap.o _).mono ?_);rintro e w' ⟨rfl,C⟩;have D:=C.symm;subst D)|((with_reducible refine(a0.o _).mono ?_);rintro e w' ⟨rfl,C⟩;have D:=C.symm;subst D)|((with_reducible refine(a9.o _).mono ?_);rintro e w' ⟨rfl,C⟩;have D:=C.symm;subst D));go_ret;exact⟨vl.Ad au.o.symm,Z⟩
 |true=>
 have ai:ϡ (Ct p s=false->R=1):=λhf=>by rw[f.o,hf];simp
 have dx:ϡ (Ct p s=true->R=0):=λhf=>by rw[f.o,hf];simp
 clear f;go_upto_region 12 with(go_at_call 83;first|((with_reducible refine(ap.o _).mono ?_);rintro e w' ⟨rfl,C⟩;have D:=C.symm;subst D)|((with_reducible refine(a0.o _).mono ?_);rintro e w' ⟨rfl,C⟩;have D:=C.symm;subst D)|((with_reducible refine(a9.o _).mono ?_);rintro e w' ⟨rfl,C⟩;have D:=C.symm;subst D));clear ap a0 a9;obtain⟨am,bg⟩:=nM p.limit;obtain⟨l1,bd⟩:=nM s.L.lim;obtain⟨l2,be⟩:=nM s.R.lim;rw[bg]at v5 ab;rw[bd]at u0 ab;rw[be]at u3 ab;by_cases af:l1=am
 case neg=>
  have H:ϡ (Ct p s=false):=Qp (by rw[ab.o,BP af];rfl);have hd:(l1 !=am)=true:=by simpa using af
  clear bg bd be ab af;go_wp2;go_ret;exact⟨vl.Ad (ai.o H.o).symm,Z⟩
 by_cases aq:l2=am
 case neg=>
  have H:ϡ (Ct p s=false):=Qp (by rw[ab.o,BP aq];simp);have hd:(l1 !=am)=false:=by simpa using af
  have cz:(l2 !=am)=true:=by simpa using aq
  clear bg bd be ab af aq;go_wp2;go_ret;exact⟨vl.Ad (ai.o H.o).symm,Z⟩
 have d1:ϡ (Qo p s=true):=by show _=_;rw[ab.o,DB af,DB aq];rfl
 have hd:(l1 !=am)=false:=by simpa using af
 have cz:(l2 !=am)=false:=by simpa using aq
 clear bg bd be ab af aq;go_upto_region 16 with fail;clear u0 u1 u2 u3 u4 u5 u6 u7 u8 v5 hd cz;obtain⟨L,cq⟩:=nM w3;rw[cq]at HB G Z⊢;clear cq
 go_loopw [8,9,10,11,12,13,14] (λv c _ _ _ _ _ wr=> ∃(k:Nat) (t:List EM) (q:List Ent),k<=2/\c=vI ((k:Int)+1)/\OE wr L v t q/\CJ p s ((Co A B).take (mkK (ϲ A) (ϲ B) k)) q/\Ϣ L wr) (λ_ c _ _ _ _ _ _=>3 - (intOf c).toNat)
 case atStart=>exact⟨0,[],[],ϣ,rfl,DJ nR,AfX p s,bR⟩
 case round=>
  obtain⟨k,t,q,eo,rfl,a5,ag,U⟩:=hrel;have bq:=hV0 a5;have T:Ϣ w wr:=bT Z U;clear a5;by_cases ei:k=2
  ·subst ei;have bj:ϡ (CJ p s (Co A B) q):=by
    have:mkK (ϲ A) (ϲ B) 2=ϲ (Co A B):=by unfold Co;rw[lAp,lMp,lMp];rfl
    rw[this,Ok]at ag;exact ag
   have d7:ϡ (Ct p s=true):=Abx av.o aw.o d1.o bj.o;clear ag;go_wp2;go_ret;exact⟨vl.Ad (dx.o d7.o).symm,T⟩
  have c4:k=0\/k=1:=ϣ;obtain⟨X,M,cr,cs,bw,ct,cu,cv⟩:∃(X:List Ent) (M:Nat),mkK (ϲ A) (ϲ B) k=M/\mkK (ϲ A) (ϲ B) (k+1)=M+ϲ X/\(∀j,j<ϲ X->(Co A B).getD (M+j) (0,ϰ)=((k:Int)+1,X.getD j ϰ)/\(Co A B).take (M+(j+1))=(Co A B).take (M+j)++[((k:Int)+1,X.getD j ϰ)])/\(∀z∈X,B8 z.row/\(ϲ z.row)<=ύ)/\M+ϲ X<=ϲ A+ϲ B/\((k=0/\X=A)\/(k=1/\X=B)):=by
   rcases c4 with rfl|rfl
   ·exact⟨A,0,rfl,(Fr _).symm,λj hj=>by rw[Fr,Fr];exact AdY hj,bk.o,ϣ,.inl ⟨rfl,rfl⟩⟩
   ·exact⟨B,ϲ A,rfl,rfl,λj hj=>AdZ hj,bm.o,ϣ,.inr ⟨rfl,rfl⟩⟩
  have bj:ϡ (CJ p s ((Co A B).take (M+0)) q):=by rw[aE,<-cr];exact ag
  have cd:=hV0 cs;have dy:=hV0 ct;have ci:=hV0 cu;obtain⟨c,b6⟩:=nM ((k:Int)+1);have br:=hV0 b6;rw[b6]at bw⊢;have d5:=hV0 bw;have dq:(c=1/\X=A)\/(c=2/\X=B):=by rcases cv with⟨h1,h2⟩|⟨h1,h2⟩;exact .inl ⟨ϣ,h2⟩;exact .inr ⟨ϣ,h2⟩
  have b5:c<=2:=ϣ;have cm:=hV0 dq;clear ag cr cs bw ct cu cv b6 c4 dq bk bm;obtain⟨t0,t1,t2,t3,t4,t5,t6,t7,t8⟩:=Ay G.o U
  go_upto_if 70 with(go_at_call 115;refine(d8.o _ T).mono ?_;rintro e W1 ⟨⟨⟨r1,r2,r3⟩,bb,rfl,dc⟩,W⟩;unfold hdV)
  clear t0 t1 t2 t3 t4 t5 t6 t7 t8;have cw:Ϣ L W1:=bT U W;have cp:Ϣ w W1:=bT T W;have bo:=hV0 dc;clear dc
  go_cut [10]from 62 to 133 (λlv wc=> ∃g1 g3 a3 bs,lv=vS g1 (ϲ X) g3/\OE wc bs (hdV (g1,ϲ X,g3)) a3 X/\wr.heap.size<=bs/\Ϣ wr wc)
  case first=>
   rcases cm.o with⟨rfl,rfl⟩|⟨rfl,rfl⟩
   ·have ej:r2=ϲ X:=(OE.entsAt bo.o).1;go_wp2;go_meet;subst ej;exact⟨r1,r3,bb,_,rfl,bo.o,HU _,W⟩
   ·obtain⟨t0,t1,t2,t3,t4,t5,t6,t7,t8⟩:=Ay G.o cw;go_wp2_with (go_at_call 115;refine(d9.o _ cp).mono ?_;rintro e W2 ⟨⟨⟨g1,g2,g3⟩,a3,rfl,a4⟩,aa⟩;have cf:ϡ (OE W2 W1 (hdV (g1,g2,g3)) a3 X):=a4;clear a4;unfold hdV);go_meet;have ef:g2=ϲ X:=(OE.entsAt cf.o).1;subst ef;exact⟨g1,g3,a3,_,rfl,cf.o,W.size,bT W aa⟩
  case rest=>
   rename World=>W2;obtain⟨g1,g3,a3,bs,rfl,a4,cy,aa⟩:=hcut;obtain⟨b0,aj⟩:=nM u8.ownBlock;have c9:∀g,b0=some g->g<bs:=λg hg=>NE (bf.AL bq.o.own (aj.trans hg)).2 cy;have d0:ϡ (∀b7,Ka W2 b7 b0->Ac9 b7 g1 X):=λb7 hk=>(OE.entsAt (Ach a4 hk c9)).2.1;have d2:ϡ (OE W2 L u8 t q):=bq.o.below aa;have dv:ϡ (∀g,u8.ownBlock=some g->b0=some g\/W2.heap.size<=g):=λg hg=>.inl (aj.symm.trans hg);have ec:Ϣ L W2:=bT U aa;obtain⟨n,hn⟩:=nM (ϲ X);have a6:=hV0 hn;have ep:n<=8192:=by have:=ci.o;omega
   rw[hn]at cd;rw[hn];clear hn aj c9 a4 bq aa U T bo W cw cp cm cy;go_upto_region 22 with fail
   go_loopw [8,11,12,13,14] (λv ii _ _ _ wr=> ∃(j:Nat) (t:List EM) (q:List Ent),j<=n/\ii=vI j/\OE wr L v t q/\CJ p s ((Co A B).take (M+j)) q/\Ka W2 wr b0/\(∀g,v.ownBlock=some g->b0=some g\/W2.heap.size<=g)/\Ϣ L wr) (λ_ ii _ _ _ _=>n - (intOf ii).toNat)
   case atStart=>exact⟨0,t,q,At _,rfl,d2.o,by exact bj.o,Wq _ _,dv.o,ec⟩
   case round=>
    obtain⟨j,bb,N,en,rfl,a5,ag,c7,cx,U⟩:=hrel;have bp:=hV0 a5;have ar:=hV0 ag;have bn:=hV0 c7;have b8:=hV0 cx;have T:Ϣ w wr:=bT Z U;clear a5 ag c7 cx;by_cases b1:j<n
    ·obtain⟨lb,lo,O,Y,el,x0,x1,x2,x3,x4,x5⟩:=(d0.o wr bn.o) j (by rw[a6.o];exact b1);subst el;obtain⟨dt,du⟩:=d5.o j (by rw[a6.o];exact b1);have da:X.getD j ϰ∈X:=Bc (by rw[a6.o];exact b1);have ak:=dy.o _ da;have E:ϡ ((s.seq<=(X.getD j ϰ).seq\/FZ p c (X.getD j ϰ)=false\/hasB N (AJ (sqE (X.getD j ϰ)))=true)->Ct p s=false):=λhw=>AdX (k:=(M+j)) av.o aw.o ar.o (by unfold Co;rw[lAp,lMp,lMp];have:=a6.o;have:=ci.o;omega) (by rw[dt];exact hw);have Q:ϡ (∀q',(X.getD j ϰ).seq<s.seq->FZ p c (X.getD j ϰ)=true->hasB N (AJ (sqE (X.getD j ϰ)))=false->q'.Perm (sqE (X.getD j ϰ)::N)->DV q'->CJ p s ((Co A B).take (M+(j+1))) q'):=λq' h1 h2 h3 h4 h5=>by
      rw[du];exact ar.o.more h1 h2 h3 h4 h5
     have er:ϲ N<=8192:=by
      rw[ar.o.perm.length_eq,lMp,DA];have:=d6.o;omega
     obtain⟨o,dr⟩:=nM (X.getD j ϰ);rw[dr]at x0 x2 x3 x5 ak E Q;clear dt du da dr x1 x4;have cl:ϡ (vl.rowAt wr O o.row):=x5;have J:ϡ (FZ p c o=(decide (pl.Bm p c o.row=0)&&pl.hasB p c o.row&&decide (pl.A0 p c o.row=o.key))):=rfl;have ao:ϡ (∀a,Ϣ wr a->CT 116 #[pl.Ai p x,vI c,vS O (ϲ o.row) Y] a (ψ a (vI (pl.Bm p c o.row)))):=λa u=>by
      have ae:Ϣ w a:=bT T u;have:=pl.RZ p x c O Y o.row a HW.o.1 (pl.Ae HW.o.2 ae) cj.o (vl.Ac cl.o u) ak.1 ak.2;have e1:pl.Bm p c o.row=pl.ZH p c o.row:=AE cj.o;rw[e1];exact this
     have ac:ϡ (pl.Bm p c o.row=0->∀a,Ϣ wr a->CT 117 #[pl.Ai p x,vI c,vS O (ϲ o.row) Y] a (ψ a (.tuple #[.string (pl.A0 p c o.row),.bool (pl.hasB p c o.row)]))):=λm a u=>by
      have ae:Ϣ w a:=bT T u;exact pl.Wz p x c O Y o.row a HW.o.1 (pl.Ae HW.o.2 ae) m (vl.Ac cl.o u) ak.1 ak.2
     have d4:ϡ (AJ (sqE o)=(⟨#[]⟩,0,o.seq)):=rfl;obtain⟨P,yt,I,yr,ym⟩:=o;dsimp only at x0 x2 x3 ao ac E Q J d4 ak;have an:ϡ (∀a,Ϣ wr a->CT 118 #[u8,.agg #[ϐ,Ϗ,vI I,ώ,ϑ]] a λr w'=>(∃(d:Hdr) (a2:List EM) (l':List Ent),r= .returned (.tuple #[hdV d,.bool (!hasB N (AJ (sqE ⟨P,yt,I,yr,ym⟩)))])/\OE w' L (hdV d) a2 l'/\(hasB N (AJ (sqE ⟨P,yt,I,yr,ym⟩))=false->l'.Perm (sqE ⟨P,yt,I,yr,ym⟩::N)/\DV l')/\(∀g,(hdV d).ownBlock=some g->u8.ownBlock=some g\/a.heap.size<=g))/\Below L.heap.size a w'/\bf.Left a w' L.heap.size u8):=λa u=>by
      obtain⟨ea,eb,e8⟩:=bp.o.form;have ho:=bp.o.below u;rw[e8]at ho⊢;refine(Py L.heap.size ea eb bb N ⟨⟨#[]⟩,0,I,(none,0,0),false⟩ (sqE ⟨P,yt,I,yr,ym⟩) a ho (λw2 _=>⟨rfl,rfl,rfl,rfl,rfl,λi hi=>absurd hi (CA i)⟩) ar.o.rise ϣ (At _)).mono ?_;rintro r w' ⟨⟨d,a2,l',h1,h2,_,h3,h4⟩,h5,h6⟩;exact⟨⟨d,a2,l',h1,h2,h3,h4⟩,h5,h6⟩
     obtain⟨hq,c3⟩:=nM (hasB N (AJ (sqE ⟨P,yt,I,yr,ym⟩)));obtain⟨rl,dl⟩:=nM (ϲ yr);obtain⟨re,dj⟩:=nM (pl.Bm p c yr);obtain⟨kh,c6⟩:=nM (pl.hasB p c yr);obtain⟨kb,c5⟩:=nM (pl.A0 p c yr);rw[c3]at E Q an;rw[dl]at x3 ao ac;rw[dj]at ao ac J;rw[c6,c5]at ac J;obtain⟨sS,dp⟩:=nM s.seq;have cc:=(Ay G.o U).2.2.2.2.2.2.2.2;rw[dp]at E Q cc;have b9:ϡ (boxP wr w p x):=Af HB.o U;have i1:=nn0 j;have i2:(j:Int)<(n:Int):=ϣ;have a1:ϡ (∀w',Ϣ wr w'->Δ w' lb (lo+j * 5+1+1) (vI I)/\Δ w' (w+1) 8 (vI sS)/\Δ w' lb (lo+j * 5+1+1+1) (vS O rl Y)/\boxP w' w p x):=λw' F=>⟨cLz F x2,cLz F cc,cLz F x3,Af b9.o F⟩;have cn:ϡ (∀w',Ϣ wr w'->Δ w' lb (lo+j * 5+1+1+1) (vS O rl Y)/\boxP w' w p x):=λw' F=>⟨cLz F x3,Af b9.o F⟩;clear c3 dl dj c6 c5 dp ak x5;by_cases eg:sS<=I
     ·have H:ϡ (Ct p s=false):=E.o (.inl eg);clear E Q an ac ao J;go_upto_region 24 with fail;refine gr.CZ (S:=λw'=>Δ w' lb (lo+j * 5+1+1) (vI I)/\Δ w' (w+1) 8 (vI sS)/\Δ w' lb (lo+j * 5+1+1+1) (vS O rl Y)/\boxP w' w p x) 19 rfl bh (a1.o _ bR.drew) ?_;intro b;refine CU 0 80 b ?_;refine CU 2 82 b ?_;refine CU 4 84 b ?_;refine CU 6 86 b ?_;refine takeB 8 88 b ?_;refine sk 9 89 b ?_;refine sk 10 90 b ?_;refine sk 11 91 b ?_;refine sk 12 92 b ?_;refine sk 13 93 b ?_;refine sk 14 94 b ?_;refine sk 15 95 b ?_;refine sk 16 96 b ?_;refine sk 17 97 b ?_;refine takeB 18 98 b ?_;refine GT Ϧ ?_ _;go_wp2;go_ret;exact⟨vl.Ad (ai.o H.o).symm,T.drew⟩
     ·by_cases bi:re=0
      ·subst bi;go_upto_region 24 with fail;refine gr.CZ (S:=λw'=>Δ w' lb (lo+j * 5+1+1) (vI I)/\Δ w' (w+1) 8 (vI sS)/\Δ w' lb (lo+j * 5+1+1+1) (vS O rl Y)/\boxP w' w p x) 19 rfl bh (a1.o _ bR.drew) ?_;intro b;refine CU 0 80 b ?_;refine CU 2 82 b ?_;refine CU 4 84 b ?_;refine CU 6 86 b ?_;refine takeB 8 88 b ?_;refine CU 9 89 b ?_;refine CU 11 91 b ?_;refine CU 13 93 b ?_;refine takeB 15 95 b ?_;refine rD 16 λK hK=>?_;go_simp;go_at_call 116;refine(ao.o _ bR.drew).mono ?_;rintro e w4 ⟨rfl,bz⟩;have ah:Ϣ wr w4:=bR.drew.trans bz;go_wp2_with fail;refine hK.out _ _ (a1.o _ ah) (λb=>?_);clear hK K
       try simp only[Act.put,sI,sZ,sSz]
       refine takeB 17 97 b ?_;refine takeB 18 98 b ?_;refine GT Ϧ ?_ _;go_upto_region 26 with fail;replace ac:ϡ (∀a,Ϣ wr a->χ 117 #[pl.Ai p x,vI c,vS O rl Y] a (ψ a (.tuple #[.string kb,.bool kh]))):=ac.o ϫ;refine gr.CZ (S:=λw'=>Δ w' lb (lo+j * 5+1+1+1) (vS O rl Y)/\boxP w' w p x) 13 rfl bh (cn.o _ ah.drew) ?_;intro b;refine CU 0 100 b ?_;refine CU 2 102 b ?_;refine CU 4 104 b ?_;refine takeB 6 106 b ?_;refine rD 7 λK hK=>?_;go_simp;go_at_call 117;refine(ac.o _ ah.drew).mono ?_;rintro e w5 ⟨rfl,ed⟩;have ad:Ϣ wr w5:=ah.drew.trans (ed.mono ah.drew.size);go_wp2_with fail;refine hK.out _ _ (cn.o _ ad) (λb=>?_);clear hK K
       try simp only[Act.put,sI,sZ,sSz]
       refine takeB 8 99 b ?_;refine takeB 9 108 b ?_;refine takeB 10 109 b ?_;refine takeB 11 12 b ?_;refine takeB 12 13 b ?_;refine GT Ϧ ?_ _;have y0:=cLz ad x0;have y2:=cLz ad x2
       cases kh with
       |false=>
        have H:ϡ (Ct p s=false):=E.o (.inr (.inl (by rw[J.o];simp)));clear E Q an J;go_wp2;go_ret;exact⟨vl.Ad (ai.o H.o).symm,bT T ad⟩
       |true=>
        by_cases al:kb=P
        ·have d3:ϡ (FZ p c ⟨P,yt,I,yr,ym⟩=true):=by
          show _=_;rw[J.o,DB al];rfl
         have t1:(kb.toList==P.toList)=true:=by rw[al];simp
         have t2:(kb.toList !=P.toList)=false:=by rw[al];simp
         clear al J;go_wp2_with fail;refine(an.o _ ad).mono ?_;rintro e w6 ⟨⟨d,a2,l',rfl,dd,b2,c2⟩,ee,c8⟩;have co:Ϣ L w6:=(bT U ad).trans ee
         cases hq with
         |true=>
          have H:ϡ (Ct p s=false):=E.o (.inr (.inr rfl));clear E Q b2;unfold hdV;go_wp2;go_ret;exact⟨vl.Ad (ai.o H.o).symm,bT Z co⟩
         |false=>
          obtain⟨de,di⟩:=b2 rfl;have ca:=Q.o l' ϣ d3.o ϫ de di;have dz:ϡ (Ka W2 w6 b0):=Wr (TI bn.o ad) c8 b8.o;have cb:ϡ (∀g,(hdV d).ownBlock=some g->b0=some g\/W2.heap.size<=g):=λg hg=>by
           rcases c2 g hg with k|k
           ·exact b8.o g k
           ·exact .inr (B0 (B0 bn.o.1 ad.size) k)
          have cg:=hV0 dd;have dw:ϡ (CJ p s ((Co A B).take (M+(j+1))) l'):=ca;clear b2 de di c2 c8 dd ca Q E;unfold hdV at cg cb⊢;go_wp2;go_roundw;exact⟨j+1,a2,l',ϣ,by go_num,cg.o,dw.o,dz.o,cb.o,co⟩;simp[intOf];omega
        ·have H:ϡ (Ct p s=false):=E.o (.inr (.inl (by rw[J.o,BP al];simp)));have t1:(kb.toList==P.toList)=false:=by
          have:=bytes_beq kb P;rw[K5];intro e;rw[e]at this;exact al (by simpa using this.symm)
         have t2:(kb.toList !=P.toList)=true:=by simpa using t1
         clear E Q an J al;go_wp2;go_ret;exact⟨vl.Ad (ai.o H.o).symm,bT T ad⟩
      ·have et:(re !=0)=true:=by simpa using bi
       have H:ϡ (Ct p s=false):=E.o (.inr (.inl (by rw[J.o,BP bi];simp)));clear E Q an ac J bi;go_upto_region 24 with fail;refine gr.CZ (S:=λw'=>Δ w' lb (lo+j * 5+1+1) (vI I)/\Δ w' (w+1) 8 (vI sS)/\Δ w' lb (lo+j * 5+1+1+1) (vS O rl Y)/\boxP w' w p x) 19 rfl bh (a1.o _ bR.drew) ?_;intro b;refine CU 0 80 b ?_;refine CU 2 82 b ?_;refine CU 4 84 b ?_;refine CU 6 86 b ?_;refine takeB 8 88 b ?_;refine CU 9 89 b ?_;refine CU 11 91 b ?_;refine CU 13 93 b ?_;refine takeB 15 95 b ?_;refine rD 16 λK hK=>?_;go_simp;go_at_call 116;refine(ao.o _ bR.drew).mono ?_;rintro e w4 ⟨rfl,bz⟩;have ah:Ϣ wr w4:=bR.drew.trans bz;go_wp2_with fail;refine hK.out _ _ (a1.o _ ah) (λb=>?_);clear hK K
       try simp only[Act.put,sI,sZ,sSz]
       refine takeB 17 97 b ?_;refine takeB 18 98 b ?_;refine GT Ϧ ?_ _;go_wp2;go_ret;exact⟨vl.Ad (ai.o H.o).symm,bT T ah⟩
    ·have eh:j=n:=ϣ;subst eh;have eu:IntKind.i64.wrap (c+1)=c+1:=by rw[ch.Cr];have:=br.o;omega
     go_wp2;go_roundw
     case rel=>exact⟨k+1,bb,N,ϣ,by have:=br.o;exact Bk _ ϣ,bp.o,by rw[cd.o];exact ar.o,U⟩
     case measure=>simp[intOf];have:=br.o;omega
end jn
