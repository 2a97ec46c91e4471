import Derived.Test.YtfkihidbnfkbaaaGreatDoorPv32
set_option linter.all false
set_option maxHeartbeats 16000000
set_option maxRecDepth 100000
open Go.ChangeShapes Go.WideShapes Go.ChangeAt Go.RowKit List
open Inhabited renaming default->ϰ
namespace Go.Proofs.YtfkihidbnfkbaaaGreatDoor
namespace jn
open vl bf
attribute [local go_sem] Oper.semAt_some
variable {W2 w' wr : Ϡ} {b0 : Option Nat} {base : Nat} {v : Value}
def J7(W2 wr:World)(b0:Option Nat):Prop:=W2.heap.size<=wr.heap.size/\∀k,k<W2.heap.size->b0≠some k->wr.heap[k]? =W2.heap[k]?
theorem VX(W:Ϡ)(b0:Option Nat):J7 W W b0:=⟨Nat.le_refl _,λ_ _ _=>rfl⟩
theorem Ub(h:J7 W2 wr b0)(a:ϣ wr w'):J7 W2 w' b0:=⟨Nat.le_trans h.1 a.size,λk b c=>(a.block k (Nat.lt_of_lt_of_le b h.1)).trans (h.2 k b c)⟩
theorem VY(h:J7 W2 wr b0)(b:bf.Left wr w' base v)(d:∀g,v.ownBlock=some g->b0=some g\/W2.heap.size<=g):J7 W2 w' b0:=⟨Nat.le_trans h.1 b.size,λk a c=>(b.blk k (Nat.lt_of_lt_of_le a h.1) (λe=>by
 rcases d k e with j|j
 ·exact c j
 ·omega)).trans (h.2 k a c)⟩
theorem AbW{d:List EM}{l:List Ent}(h:OE W2 base v d l)(b:J7 W2 wr b0)(f:∀g,b0=some g->g<base):OE wr base v d l:=by
 refine⟨Nat.le_trans h.low b.1,A1 h.own (λg a=>?_),h.len,λi p=>?_⟩
 ·have:=bf.AL h.own a;exact b.2 g this.2 (λe=>by have:=f g e;omega)
 ·obtain⟨j,k,m,n,o,c⟩:=h.rows i p;refine⟨j,k,m,n,o,A1 c (λg a=>?_)⟩;have:=bf.AL c a;exact b.2 g this.2 (λe=>by have:=f g e;omega)
def mkK(a b:Nat):Nat->Nat
 |0=>0
 |1=>a
 |_=>a+b
theorem Uc(p:pl.Pln)(x:pl.PA)(s:Jn)(y:JX)(w:Ϡ)(hw:pl.wfPlan p)(hp:pl.planAt w p x)(h:joinAt w s y)(hE:∀z∈Ab s.L++Ab s.R,wfE z/\z.key.size<=140737488355328/\z.row.length<=2000000)(dm:(Ab s.L).length<=4611686018427387904)(b5:(Ab s.R).length<=4611686018427387904):
 χ 61 #[pl.Aj p x,joinV s y] w (ψ w (vI (Ba p s))):=by
 have bh:Tryz.prog.follows .mixedOrders=true:=rfl;have KP:=hIz (λ(a:Ϡ) (u:ϣ w a)=>pl.GQ p x a hw (pl.Ae hp u));have bu:=hIz (λ(a:Ϡ) (u:ϣ w a)=>Fp s.L y.l a (Ar h.l u) (λz F=>hE z (mem_append.2 (.inl F))) dm);have bv:=hIz (λ(a:Ϡ) (u:ϣ w a)=>Fp s.R y.r a (Ar h.r u) (λz F=>hE z (mem_append.2 (.inr F))) b5);have ay:Ϣ (okB s.L->∀a,ϣ w a->CT 115 #[.agg (Ω s.L y.l)] a λe w'=>(∃d t,e= .returned (hdV d)/\OE w' a (hdV d) t (Dw (Ab s.L)))/\ϣ a w'):=λok a u=>by
  refine(S8 s.L y.l a (Ar h.l u) ok).mono ?_;rintro e w' ⟨⟨d,t,l,he,ho,b4,hr⟩,bx⟩;have:l=Dw (Ab s.L):=Lz b4 (WY hr) ok.once;rw[this]at ho;exact⟨⟨d,t,he,ho⟩,bx⟩
 have az:Ϣ (okB s.R->∀a,ϣ w a->CT 115 #[.agg (Ω s.R y.r)] a λe w'=>(∃d t,e= .returned (hdV d)/\OE w' a (hdV d) t (Dw (Ab s.R)))/\ϣ a w'):=λok a u=>by
  refine(S8 s.R y.r a (Ar h.r u) ok).mono ?_;rintro e w' ⟨⟨d,t,l,he,ho,b4,hr⟩,bx⟩;have:l=Dw (Ab s.R):=Lz b4 (WY hr) ok.once;rw[this]at ho;exact⟨⟨d,t,he,ho⟩,bx⟩
 have ap:Ϣ (∀a,CT 83 #[vI s.lm,vI (-1099511627777),vI 1099511627776] a λe w'=>e= .returned (.bool (Du s.lm))/\w'=a):=λa=>by rw[<-PO];exact bf.Ap _ _ _ _
 have a0:Ϣ (∀a,CT 83 #[vI s.rm,vI (-1099511627777),vI 1099511627776] a λe w'=>e= .returned (.bool (Du s.rm))/\w'=a):=λa=>by rw[<-PO];exact bf.Ap _ _ _ _
 have a9:Ϣ (∀a,CT 83 #[vI s.seq,Ϗ,vI 1099511627776] a λe w'=>e= .returned (.bool (bf.AA s.seq 0 1099511627776))/\w'=a):=λa=>bf.Ap _ _ _ _;have HW:Ϣ (pl.wfPlan p/\pl.planAt w p x):=⟨hw,hp⟩;have av:Ϣ ((Dw (Ab s.L)).Perm (Ab s.L)):=Dh _;have aw:Ϣ ((Dw (Ab s.R)).Perm (Ab s.R)):=Dh _;have bk:Ϣ (∀z∈Dw (Ab s.L),Bq z.row/\z.row.length<=ύ):=λz F=>by
  have:=hE z (mem_append.2 (.inl (av.o.mem_iff.1 F)));exact⟨this.1.row,Ϥ⟩
 have bm:Ϣ (∀z∈Dw (Ab s.R),Bq z.row/\z.row.length<=ύ):=λz F=>by
  have:=hE z (mem_append.2 (.inr (aw.o.mem_iff.1 F)));exact⟨this.1.row,Ϥ⟩
 have a7:Ϣ (DK s.L=0->okB s.L/\(Dw (Ab s.L)).length<=4096):=λm=>⟨Fx m,by rw[av.o.length_eq];exact(Fx m).all⟩;have a8:Ϣ (DK s.R=0->okB s.R/\(Dw (Ab s.R)).length<=4096):=λm=>⟨Fx m,by rw[aw.o.length_eq];exact(Fx m).all⟩;obtain⟨R,hR⟩:=nM (Ba p s);have f:Ϣ (R=if pl.Ag p≠0 then pl.Ag p else if DK s.L≠0 then DK s.L else if DK s.R≠0 then DK s.R else if Et s=false then 3 else if Cx p s=false then 1 else 0):=hR.symm;rw[hR];have ax:Ϣ (Et s=(Du s.lm&&Du s.rm&&bf.AA s.seq 0 1099511627776)):=rfl;obtain⟨A,hA⟩:=nM (Dw (Ab s.L));obtain⟨B,hB⟩:=nM (Dw (Ab s.R));rw[hA]at ay av bk a7;rw[hB]at az aw bm a8;obtain⟨pe,b3⟩:=nM (pl.Ag p);obtain⟨e1,c0⟩:=nM (DK s.L);obtain⟨e2,c1⟩:=nM (DK s.R);have ck:=hV0 b3;rw[b3]at KP f;rw[c0]at bu f a7;rw[c1]at bv f a8;obtain⟨N,df⟩:=nM (Du s.lm);obtain⟨q2,dg⟩:=nM (Du s.rm);obtain⟨q3,dh⟩:=nM (bf.AA s.seq 0 1099511627776);rw[df]at ap ax;rw[dg]at a0 ax;rw[dh]at a9 ax;rw[ax.o]at f;have ab:Ϣ (PM p s=(decide (s.L.lim=p.limit)&&decide (s.R.lim=p.limit))):=rfl;unfold pl.Aj at KP⊢;rw[AY];clear hw hp h hE dm b5 hR hA hB b3 c0 c1 df dg dh ax;go_enter Tryz.func61,Tryz.ntmps61;go_wp2_with fail;generalize hV:(World.alloc (World.alloc w _) _)=V;have aj:ϣ w V:=by rw[<-hV];exact ϯ.alloc Ϧ _
 have HB:Ϣ (boxP V w p x):=by
  subst hV;exact Af (BQ ..) ϯ
 have G:Ϣ (BZ V (w+1) s y):=by
  subst hV;have:=C7 (ϊ w (Φ p x) 32) s y 38;rw[World.size_alloc]at this;exact this
 clear hV;refine(KP.o _ aj).mono ?_;rintro e a ⟨rfl,W⟩;have ae:ϣ w a:=bT aj W;replace HB:Ϣ (boxP a w p x):=Af HB.o W;replace G:Ϣ (BZ a (w+1) s y):=A4 G.o W;clear KP aj W;by_cases m:pe=0
 case neg=>
  have db:(pe !=0)=true:=by simpa using m
  rw[if_pos m]at f;go_wp2;go_ret;exact⟨vl.Ad f.o.symm,ae⟩
 subst m;rw[if_neg ϥ]at f;obtain⟨u0,u1,u2,u3,u4,u5,u6,u7,u8⟩:=G.o;go_wp2_with fail;refine(bu.o _ ae).mono ?_;rintro e w2 ⟨rfl,aa⟩;have ba:ϣ w w2:=bT ae aa;clear u0 u1 u2 u3 u4 u5 u6 u7 u8;replace HB:Ϣ (boxP w2 w p x):=Af HB.o aa;replace G:Ϣ (BZ w2 (w+1) s y):=A4 G.o aa;by_cases m:e1=0
 case neg=>
  have db:(e1 !=0)=true:=by simpa using m
  rw[if_pos m]at f;go_wp2;go_ret;exact⟨vl.Ad f.o.symm,ba⟩
 subst m;rw[if_neg ϥ]at f;obtain⟨u0,u1,u2,u3,u4,u5,u6,u7,u8⟩:=G.o;go_wp2_with fail;refine(bv.o _ ba).mono ?_;rintro e w3 ⟨rfl,bc⟩;have Z:ϣ w w3:=bT ba bc;clear u0 u1 u2 u3 u4 u5 u6 u7 u8;replace HB:Ϣ (boxP w3 w p x):=Af HB.o bc;replace G:Ϣ (BZ w3 (w+1) s y):=A4 G.o bc;clear aa bc ae ba bu bv;by_cases m:e2=0
 case neg=>
  have db:(e2 !=0)=true:=by simpa using m
  rw[if_pos m]at f;go_wp2;go_ret;exact⟨vl.Ad f.o.symm,Z⟩
 subst m;rw[if_neg ϥ]at f;obtain⟨okL,ej⟩:=a7.o Ϭ;obtain⟨okR,ek⟩:=a8.o Ϭ;have cj:=hV0 ck.o;replace ay:=ay.o okL;replace az:=az.o okR;have d7:Ϣ (∀a,ϣ w a->CT 115 #[.agg (Ω s.L y.l)] a λe w'=>(∃d t,e= .returned (hdV d)/\OE w' a (hdV d) t A)/\ϣ a w'):=ay;have d8:Ϣ (∀a,ϣ w a->CT 115 #[.agg (Ω s.R y.r)] a λe w'=>(∃d t,e= .returned (hdV d)/\OE w' a (hdV d) t B)/\ϣ a w'):=az;have d5:Ϣ ((Cn A B).length<=8192):=by
  show _<=_;unfold Cn;rw[lAp,lMp,lMp];omega
 clear ay az a7 a8 okL okR ck;obtain⟨u0,u1,u2,u3,u4,u5,u6,u7,u8⟩:=G.o;have v5:=HB.o.2.2.2.2.2.1
 cases N with
 |false=>
  have au:Ϣ (R=3):=by show R=3;rw[f.o];simp
  go_wp2_with (go_at_call 83;(with_reducible refine(ap.o _).mono ?_);rintro e w' ⟨rfl,C⟩;have D:=C.symm;subst D);go_ret;exact⟨vl.Ad au.o.symm,Z⟩
 |true=>
 cases q2 with
 |false=>
  have au:Ϣ (R=3):=by show R=3;rw[f.o];simp
  go_wp2_with (go_at_call 83;first|((with_reducible refine(ap.o _).mono ?_);rintro e w' ⟨rfl,C⟩;have D:=C.symm;subst D)|((with_reducible refine(a0.o _).mono ?_);rintro e w' ⟨rfl,C⟩;have D:=C.symm;subst D));go_ret;exact⟨vl.Ad au.o.symm,Z⟩
 |true=>
 cases q3 with
 |false=>
  have au:Ϣ (R=3):=by show R=3;rw[f.o];simp
  go_wp2_with (go_at_call 83;first|((with_reducible refine(ap.o _).mono ?_);rintro e w' ⟨rfl,C⟩;have D:=C.symm;subst D)|((with_reducible refine(a0.o _).mono ?_);rintro e w' ⟨rfl,C⟩;have D:=C.symm;subst D)|((with_reducible refine(a9.o _).mono ?_);rintro e w' ⟨rfl,C⟩;have D:=C.symm;subst D));go_ret;exact⟨vl.Ad au.o.symm,Z⟩
 |true=>
 have ai:Ϣ (Cx p s=false->R=1):=λhf=>by rw[f.o,hf];simp
 have dw:Ϣ (Cx p s=true->R=0):=λhf=>by rw[f.o,hf];simp
 clear f;go_upto_region 12 with(go_at_call 83;first|((with_reducible refine(ap.o _).mono ?_);rintro e w' ⟨rfl,C⟩;have D:=C.symm;subst D)|((with_reducible refine(a0.o _).mono ?_);rintro e w' ⟨rfl,C⟩;have D:=C.symm;subst D)|((with_reducible refine(a9.o _).mono ?_);rintro e w' ⟨rfl,C⟩;have D:=C.symm;subst D));clear ap a0 a9;obtain⟨am,bg⟩:=nM p.limit;obtain⟨l1,bd⟩:=nM s.L.lim;obtain⟨l2,be⟩:=nM s.R.lim;rw[bg]at v5 ab;rw[bd]at u0 ab;rw[be]at u3 ab;by_cases af:l1=am
 case neg=>
  have H:Ϣ (Cx p s=false):=PN (by rw[ab.o,decide_eq_false af];rfl);have hd:(l1 !=am)=true:=by simpa using af
  clear bg bd be ab af;go_wp2;go_ret;exact⟨vl.Ad (ai.o H.o).symm,Z⟩
 by_cases aq:l2=am
 case neg=>
  have H:Ϣ (Cx p s=false):=PN (by rw[ab.o,decide_eq_false aq];simp);have hd:(l1 !=am)=false:=by simpa using af
  have cz:(l2 !=am)=true:=by simpa using aq
  clear bg bd be ab af aq;go_wp2;go_ret;exact⟨vl.Ad (ai.o H.o).symm,Z⟩
 have d0:Ϣ (PM p s=true):=by show _=_;rw[ab.o,decide_eq_true af,decide_eq_true aq];rfl
 have hd:(l1 !=am)=false:=by simpa using af
 have cz:(l2 !=am)=false:=by simpa using aq
 clear bg bd be ab af aq;go_upto_region 16 with fail;clear u0 u1 u2 u3 u4 u5 u6 u7 u8 v5 hd cz;obtain⟨L,cq⟩:=nM w3;rw[cq]at HB G Z⊢;clear cq
 go_loopw [8,9,10,11,12,13,14] (λv c _ _ _ _ _ wr=> ∃(k:Nat) (t:List EM) (q:List Ent),k<=2/\c=vI ((k:Int)+1)/\OE wr L v t q/\CJ p s ((Cn A B).take (mkK A.length B.length k)) q/\ϣ L wr) (λ_ c _ _ _ _ _ _=>3 - (intOf c).toNat)
 case atStart=>exact⟨0,[],[],Ϥ,rfl,E9 nR,AeW p s,bR⟩
 case round=>
  obtain⟨k,t,q,en,rfl,a5,ag,U⟩:=hrel;have bq:=hV0 a5;have T:ϣ w wr:=bT Z U;clear a5;by_cases eh:k=2
  ·subst eh;have bj:Ϣ (CJ p s (Cn A B) q):=by
    have:mkK A.length B.length 2=(Cn A B).length:=by unfold Cn;rw[lAp,lMp,lMp];rfl
    rw[this,take_length]at ag;exact ag
   have d6:Ϣ (Cx p s=true):=Aa3 av.o aw.o d0.o bj.o;clear ag;go_wp2;go_ret;exact⟨vl.Ad (dw.o d6.o).symm,T⟩
  have c4:k=0\/k=1:=Ϥ;obtain⟨X,M,cr,cs,bw,ct,cu,cv⟩:∃(X:List Ent) (M:Nat),mkK A.length B.length k=M/\mkK A.length B.length (k+1)=M+X.length/\(∀j,j<X.length->(Cn A B).getD (M+j) (0,ϰ)=((k:Int)+1,X.getD j ϰ)/\(Cn A B).take (M+(j+1))=(Cn A B).take (M+j)++[((k:Int)+1,X.getD j ϰ)])/\(∀z∈X,Bq z.row/\z.row.length<=ύ)/\M+X.length<=A.length+B.length/\((k=0/\X=A)\/(k=1/\X=B)):=by
   rcases c4 with rfl|rfl
   ·exact⟨A,0,rfl,(Nat.zero_add _).symm,λj hj=>by rw[Nat.zero_add,Nat.zero_add];exact Ade hj,bk.o,Ϥ,.inl ⟨rfl,rfl⟩⟩
   ·exact⟨B,A.length,rfl,rfl,λj hj=>Adf hj,bm.o,Ϥ,.inr ⟨rfl,rfl⟩⟩
  have bj:Ϣ (CJ p s ((Cn A B).take (M+0)) q):=by rw[Nat.add_zero,<-cr];exact ag
  have cd:=hV0 cs;have dx:=hV0 ct;have ci:=hV0 cu;obtain⟨c,b6⟩:=nM ((k:Int)+1);have br:=hV0 b6;rw[b6]at bw⊢;have d4:=hV0 bw;have dq:(c=1/\X=A)\/(c=2/\X=B):=by rcases cv with⟨h1,h2⟩|⟨h1,h2⟩;exact .inl ⟨Ϥ,h2⟩;exact .inr ⟨Ϥ,h2⟩
  have b5:c<=2:=Ϥ;have cm:=hV0 dq;clear ag cr cs bw ct cu cv b6 c4 dq bk bm;obtain⟨t0,t1,t2,t3,t4,t5,t6,t7,t8⟩:=A4 G.o U
  go_upto_if 70 with(go_at_call 115;refine(d7.o _ T).mono ?_;rintro e W1 ⟨⟨⟨r1,r2,r3⟩,bb,rfl,dc⟩,W⟩;unfold hdV)
  clear t0 t1 t2 t3 t4 t5 t6 t7 t8;have cw:ϣ L W1:=bT U W;have cp:ϣ w W1:=bT T W;have bo:=hV0 dc;clear dc
  go_cut [10]from 62 to 133 (λlv wc=> ∃g1 g3 a3 bs,lv=vS g1 X.length g3/\OE wc bs (hdV (g1,X.length,g3)) a3 X/\wr.heap.size<=bs/\ϣ wr wc)
  case first=>
   rcases cm.o with⟨rfl,rfl⟩|⟨rfl,rfl⟩
   ·have ei:r2=X.length:=(OE.entsAt bo.o).1;go_wp2;go_meet;subst ei;exact⟨r1,r3,bb,_,rfl,bo.o,Nat.le_refl _,W⟩
   ·obtain⟨t0,t1,t2,t3,t4,t5,t6,t7,t8⟩:=A4 G.o cw;go_wp2_with (go_at_call 115;refine(d8.o _ cp).mono ?_;rintro e W2 ⟨⟨⟨g1,g2,g3⟩,a3,rfl,a4⟩,aa⟩;have cf:Ϣ (OE W2 W1 (hdV (g1,g2,g3)) a3 X):=a4;clear a4;unfold hdV);go_meet;have ee:g2=X.length:=(OE.entsAt cf.o).1;subst ee;exact⟨g1,g3,a3,_,rfl,cf.o,W.size,bT W aa⟩
  case rest=>
   rename World=>W2;obtain⟨g1,g3,a3,bs,rfl,a4,cy,aa⟩:=hcut;obtain⟨b0,aj⟩:=nM u8.ownBlock;have c9:∀g,b0=some g->g<bs:=λg hg=>Nat.lt_of_lt_of_le (bf.AL bq.o.own (aj.trans hg)).2 cy;have dz:Ϣ (∀b7,J7 W2 b7 b0->AbF b7 g1 X):=λb7 hk=>(OE.entsAt (AbW a4 hk c9)).2.1;have d1:Ϣ (OE W2 L u8 t q):=bq.o.below aa;have du:Ϣ (∀g,u8.ownBlock=some g->b0=some g\/W2.heap.size<=g):=λg hg=>.inl (aj.symm.trans hg);have eb:ϣ L W2:=bT U aa;obtain⟨n,hn⟩:=nM X.length;have a6:=hV0 hn;have eo:n<=8192:=by have:=ci.o;omega
   rw[hn]at cd;rw[hn];clear hn aj c9 a4 bq aa U T bo W cw cp cm cy;go_upto_region 22 with fail
   go_loopw [8,11,12,13,14] (λv ii _ _ _ wr=> ∃(j:Nat) (t:List EM) (q:List Ent),j<=n/\ii=vI j/\OE wr L v t q/\CJ p s ((Cn A B).take (M+j)) q/\J7 W2 wr b0/\(∀g,v.ownBlock=some g->b0=some g\/W2.heap.size<=g)/\ϣ L wr) (λ_ ii _ _ _ _=>n - (intOf ii).toNat)
   case atStart=>exact⟨0,t,q,Nat.zero_le _,rfl,d1.o,by exact bj.o,VX _ _,du.o,eb⟩
   case round=>
    obtain⟨j,bb,N,em,rfl,a5,ag,c7,cx,U⟩:=hrel;have bp:=hV0 a5;have ar:=hV0 ag;have bn:=hV0 c7;have b8:=hV0 cx;have T:ϣ w wr:=bT Z U;clear a5 ag c7 cx;by_cases b1:j<n
    ·obtain⟨lb,lo,O,Y,el,x0,x1,x2,x3,x4,x5⟩:=(dz.o wr bn.o) j (by rw[a6.o];exact b1);subst el;obtain⟨ds,dt⟩:=d4.o j (by rw[a6.o];exact b1);have da:X.getD j ϰ∈X:=AN (by rw[a6.o];exact b1);have ak:=dx.o _ da;have E:Ϣ ((s.seq<=(X.getD j ϰ).seq\/FT p c (X.getD j ϰ)=false\/hasB N (AK (sqE (X.getD j ϰ)))=true)->Cx p s=false):=λhw=>Adc (k:=(M+j)) av.o aw.o ar.o (by unfold Cn;rw[lAp,lMp,lMp];have:=a6.o;have:=ci.o;omega) (by rw[ds];exact hw);have Q:Ϣ (∀q',(X.getD j ϰ).seq<s.seq->FT p c (X.getD j ϰ)=true->hasB N (AK (sqE (X.getD j ϰ)))=false->q'.Perm (sqE (X.getD j ϰ)::N)->DW q'->CJ p s ((Cn A B).take (M+(j+1))) q'):=λq' h1 h2 h3 h4 h5=>by
      rw[dt];exact ar.o.more h1 h2 h3 h4 h5
     have ep:N.length<=8192:=by
      rw[ar.o.perm.length_eq,lMp,length_take];have:=d5.o;omega
     obtain⟨o,dr⟩:=nM (X.getD j ϰ);rw[dr]at x0 x2 x3 x5 ak E Q;clear ds dt da dr x1 x4;have cl:Ϣ (vl.rowAt wr O o.row):=x5;have J:Ϣ (FT p c o=(decide (pl.Bn p c o.row=0)&&pl.hasB p c o.row&&decide (pl.A6 p c o.row=o.key))):=rfl;have ao:Ϣ (∀a,ϣ wr a->CT 116 #[pl.Aj p x,vI c,vS O o.row.length Y] a (ψ a (vI (pl.Bn p c o.row)))):=λa u=>by
      have ae:ϣ w a:=bT T u;have:=pl.QJ p x c O Y o.row a HW.o.1 (pl.Ae HW.o.2 ae) cj.o (vl.Ac cl.o u) ak.1 ak.2;have e1:pl.Bn p c o.row=pl.Y1 p c o.row:=if_pos cj.o;rw[e1];exact this
     have ac:Ϣ (pl.Bn p c o.row=0->∀a,ϣ wr a->CT 117 #[pl.Aj p x,vI c,vS O o.row.length Y] a (ψ a (.tuple #[.string (pl.A6 p c o.row),.bool (pl.hasB p c o.row)]))):=λm a u=>by
      have ae:ϣ w a:=bT T u;exact pl.Vb p x c O Y o.row a HW.o.1 (pl.Ae HW.o.2 ae) m (vl.Ac cl.o u) ak.1 ak.2
     have d3:Ϣ (AK (sqE o)=(⟨#[]⟩,0,o.seq)):=rfl;obtain⟨P,yt,I,yr,ym⟩:=o;dsimp only at x0 x2 x3 ao ac E Q J d3 ak;have an:Ϣ (∀a,ϣ wr a->CT 118 #[u8,.agg #[ϐ,Ϗ,vI I,ώ,ϑ]] a λr w'=>(∃(d:Hdr) (a2:List EM) (l':List Ent),r= .returned (.tuple #[hdV d,.bool (!hasB N (AK (sqE ⟨P,yt,I,yr,ym⟩)))])/\OE w' L (hdV d) a2 l'/\(hasB N (AK (sqE ⟨P,yt,I,yr,ym⟩))=false->l'.Perm (sqE ⟨P,yt,I,yr,ym⟩::N)/\DW l')/\(∀g,(hdV d).ownBlock=some g->u8.ownBlock=some g\/a.heap.size<=g))/\Below L.heap.size a w'/\bf.Left a w' L.heap.size u8):=λa u=>by
      obtain⟨d9,ea,e8⟩:=bp.o.form;have ho:=bp.o.below u;rw[e8]at ho⊢;refine(Nw L.heap.size d9 ea bb N ⟨⟨#[]⟩,0,I,(none,0,0),false⟩ (sqE ⟨P,yt,I,yr,ym⟩) a ho (λw2 _=>⟨rfl,rfl,rfl,rfl,rfl,λi hi=>absurd hi (Nat.not_lt_zero i)⟩) ar.o.rise Ϥ (Nat.zero_le _)).mono ?_;rintro r w' ⟨⟨d,a2,l',h1,h2,_,h3,h4⟩,h5,h6⟩;exact⟨⟨d,a2,l',h1,h2,h3,h4⟩,h5,h6⟩
     obtain⟨hq,c3⟩:=nM (hasB N (AK (sqE ⟨P,yt,I,yr,ym⟩)));obtain⟨rl,dl⟩:=nM yr.length;obtain⟨re,dj⟩:=nM (pl.Bn p c yr);obtain⟨kh,c6⟩:=nM (pl.hasB p c yr);obtain⟨kb,c5⟩:=nM (pl.A6 p c yr);rw[c3]at E Q an;rw[dl]at x3 ao ac;rw[dj]at ao ac J;rw[c6,c5]at ac J;obtain⟨sS,dp⟩:=nM s.seq;have cc:=(A4 G.o U).2.2.2.2.2.2.2.2;rw[dp]at E Q cc;have b9:Ϣ (boxP wr w p x):=Af HB.o U;have i1:=nn0 j;have i2:(j:Int)<(n:Int):=Ϥ;have a1:Ϣ (∀w',ϣ wr w'->Δ w' lb (lo+j * 5+1+1) (vI I)/\Δ w' (w+1) 8 (vI sS)/\Δ w' lb (lo+j * 5+1+1+1) (vS O rl Y)/\boxP w' w p x):=λw' F=>⟨cLz F x2,cLz F cc,cLz F x3,Af b9.o F⟩;have cn:Ϣ (∀w',ϣ wr w'->Δ w' lb (lo+j * 5+1+1+1) (vS O rl Y)/\boxP w' w p x):=λw' F=>⟨cLz F x3,Af b9.o F⟩;clear c3 dl dj c6 c5 dp ak x5;by_cases ef:sS<=I
     ·have H:Ϣ (Cx p s=false):=E.o (.inl ef);clear E Q an ac ao J;go_upto_region 24 with fail;refine gr.Dm (S:=λw'=>Δ w' lb (lo+j * 5+1+1) (vI I)/\Δ w' (w+1) 8 (vI sS)/\Δ w' lb (lo+j * 5+1+1+1) (vS O rl Y)/\boxP w' w p x) 19 rfl bh (a1.o _ bR.drew) ?_;intro b;refine De 0 80 b ?_;refine De 2 82 b ?_;refine De 4 84 b ?_;refine De 6 86 b ?_;refine takeB 8 88 b ?_;refine sk 9 89 b ?_;refine sk 10 90 b ?_;refine sk 11 91 b ?_;refine sk 12 92 b ?_;refine sk 13 93 b ?_;refine sk 14 94 b ?_;refine sk 15 95 b ?_;refine sk 16 96 b ?_;refine sk 17 97 b ?_;refine takeB 18 98 b ?_;refine wpAnyH_done ϧ ?_ _;go_wp2;go_ret;exact⟨vl.Ad (ai.o H.o).symm,T.drew⟩
     ·by_cases bi:re=0
      ·subst bi;go_upto_region 24 with fail;refine gr.Dm (S:=λw'=>Δ w' lb (lo+j * 5+1+1) (vI I)/\Δ w' (w+1) 8 (vI sS)/\Δ w' lb (lo+j * 5+1+1+1) (vS O rl Y)/\boxP w' w p x) 19 rfl bh (a1.o _ bR.drew) ?_;intro b;refine De 0 80 b ?_;refine De 2 82 b ?_;refine De 4 84 b ?_;refine De 6 86 b ?_;refine takeB 8 88 b ?_;refine De 9 89 b ?_;refine De 11 91 b ?_;refine De 13 93 b ?_;refine takeB 15 95 b ?_;refine rD 16 λK hK=>?_;go_simp;go_at_call 116;refine(ao.o _ bR.drew).mono ?_;rintro e w4 ⟨rfl,bz⟩;have ah:ϣ wr w4:=bR.drew.trans bz;go_wp2_with fail;refine hK.out _ _ (a1.o _ ah) (λb=>?_);clear hK K
       try simp only[Act.put,sI,sZ,sSz]
       refine takeB 17 97 b ?_;refine takeB 18 98 b ?_;refine wpAnyH_done ϧ ?_ _;go_upto_region 26 with fail;replace ac:Ϣ (∀a,ϣ wr a->χ 117 #[pl.Aj p x,vI c,vS O rl Y] a (ψ a (.tuple #[.string kb,.bool kh]))):=ac.o Ϭ;refine gr.Dm (S:=λw'=>Δ w' lb (lo+j * 5+1+1+1) (vS O rl Y)/\boxP w' w p x) 13 rfl bh (cn.o _ ah.drew) ?_;intro b;refine De 0 100 b ?_;refine De 2 102 b ?_;refine De 4 104 b ?_;refine takeB 6 106 b ?_;refine rD 7 λK hK=>?_;go_simp;go_at_call 117;refine(ac.o _ ah.drew).mono ?_;rintro e w5 ⟨rfl,ec⟩;have ad:ϣ wr w5:=ah.drew.trans (ec.mono ah.drew.size);go_wp2_with fail;refine hK.out _ _ (cn.o _ ad) (λb=>?_);clear hK K
       try simp only[Act.put,sI,sZ,sSz]
       refine takeB 8 99 b ?_;refine takeB 9 108 b ?_;refine takeB 10 109 b ?_;refine takeB 11 12 b ?_;refine takeB 12 13 b ?_;refine wpAnyH_done ϧ ?_ _;have y0:=cLz ad x0;have y2:=cLz ad x2
       cases kh with
       |false=>
        have H:Ϣ (Cx p s=false):=E.o (.inr (.inl (by rw[J.o];simp)));clear E Q an J;go_wp2;go_ret;exact⟨vl.Ad (ai.o H.o).symm,bT T ad⟩
       |true=>
        by_cases al:kb=P
        ·have d2:Ϣ (FT p c ⟨P,yt,I,yr,ym⟩=true):=by
          show _=_;rw[J.o,decide_eq_true al];rfl
         have t1:(kb.toList==P.toList)=true:=by rw[al];simp
         have t2:(kb.toList !=P.toList)=false:=by rw[al];simp
         clear al J;go_wp2_with fail;refine(an.o _ ad).mono ?_;rintro e w6 ⟨⟨d,a2,l',rfl,dd,b2,c2⟩,ed,c8⟩;have co:ϣ L w6:=(bT U ad).trans ed
         cases hq with
         |true=>
          have H:Ϣ (Cx p s=false):=E.o (.inr (.inr rfl));clear E Q b2;unfold hdV;go_wp2;go_ret;exact⟨vl.Ad (ai.o H.o).symm,bT Z co⟩
         |false=>
          obtain⟨de,di⟩:=b2 rfl;have ca:=Q.o l' Ϥ d2.o Ϭ de di;have dy:Ϣ (J7 W2 w6 b0):=VY (Ub bn.o ad) c8 b8.o;have cb:Ϣ (∀g,(hdV d).ownBlock=some g->b0=some g\/W2.heap.size<=g):=λg hg=>by
           rcases c2 g hg with k|k
           ·exact b8.o g k
           ·exact .inr (Nat.le_trans (Nat.le_trans bn.o.1 ad.size) k)
          have cg:=hV0 dd;have dv:Ϣ (CJ p s ((Cn A B).take (M+(j+1))) l'):=ca;clear b2 de di c2 c8 dd ca Q E;unfold hdV at cg cb⊢;go_wp2;go_roundw;exact⟨j+1,a2,l',Ϥ,by go_num,cg.o,dv.o,dy.o,cb.o,co⟩;simp[intOf];omega
        ·have H:Ϣ (Cx p s=false):=E.o (.inr (.inl (by rw[J.o,decide_eq_false al];simp)));have t1:(kb.toList==P.toList)=false:=by
          have:=bytes_beq kb P;rw[beq_eq_false_iff_ne];intro e;rw[e]at this;exact al (by simpa using this.symm)
         have t2:(kb.toList !=P.toList)=true:=by simpa using t1
         clear E Q an J al;go_wp2;go_ret;exact⟨vl.Ad (ai.o H.o).symm,bT T ad⟩
      ·have er:(re !=0)=true:=by simpa using bi
       have H:Ϣ (Cx p s=false):=E.o (.inr (.inl (by rw[J.o,decide_eq_false bi];simp)));clear E Q an ac J bi;go_upto_region 24 with fail;refine gr.Dm (S:=λw'=>Δ w' lb (lo+j * 5+1+1) (vI I)/\Δ w' (w+1) 8 (vI sS)/\Δ w' lb (lo+j * 5+1+1+1) (vS O rl Y)/\boxP w' w p x) 19 rfl bh (a1.o _ bR.drew) ?_;intro b;refine De 0 80 b ?_;refine De 2 82 b ?_;refine De 4 84 b ?_;refine De 6 86 b ?_;refine takeB 8 88 b ?_;refine De 9 89 b ?_;refine De 11 91 b ?_;refine De 13 93 b ?_;refine takeB 15 95 b ?_;refine rD 16 λK hK=>?_;go_simp;go_at_call 116;refine(ao.o _ bR.drew).mono ?_;rintro e w4 ⟨rfl,bz⟩;have ah:ϣ wr w4:=bR.drew.trans bz;go_wp2_with fail;refine hK.out _ _ (a1.o _ ah) (λb=>?_);clear hK K
       try simp only[Act.put,sI,sZ,sSz]
       refine takeB 17 97 b ?_;refine takeB 18 98 b ?_;refine wpAnyH_done ϧ ?_ _;go_wp2;go_ret;exact⟨vl.Ad (ai.o H.o).symm,bT T ah⟩
    ·have eg:j=n:=Ϥ;subst eg;have et:IntKind.i64.wrap (c+1)=c+1:=by rw[ch.Cq];have:=br.o;omega
     go_wp2;go_roundw
     case rel=>exact⟨k+1,bb,N,Ϥ,by have:=br.o;exact congrArg _ Ϥ,bp.o,by rw[cd.o];exact ar.o,U⟩
     case measure=>simp[intOf];have:=br.o;omega
end jn
end Go.Proofs.YtfkihidbnfkbaaaGreatDoor
