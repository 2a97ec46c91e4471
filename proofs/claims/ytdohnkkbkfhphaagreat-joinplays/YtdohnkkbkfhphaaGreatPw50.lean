import Derived.Test.YtdohnkkbkfhphaaGreatPw49
set_option linter.all false
set_option maxHeartbeats 16000000
set_option maxRecDepth 100000
open Go.ChangeShapes Go.WideShapes Go.ChangeAt Go.RowKit List
open Inhabited renaming default->ϰ
namespace Go.Proofs.YtdohnkkbkfhphaaGreat
namespace jn
open vl bf
attribute [local go_sem] Oper.semAt_some
variable {W2 w' wr : ϛ} {b0 : Option Nat} {base : Nat} {v : Value}
def Jk(W2 wr:World)(b0:Option Nat):Prop:=W2.heap.size<=wr.heap.size/\∀k,k<W2.heap.size->b0≠some k->wr.heap[k]? =W2.heap[k]?
theorem TK(W:ϛ)(b0:Option Nat):Jk W W b0:=⟨Nat.le_refl _,λ_ _ _=>rfl⟩
theorem R6(h:Jk W2 wr b0)(a:Ϟ wr w'):Jk W2 w' b0:=⟨Nat.le_trans h.1 a.size,λk b c=>(a.block k (Nat.lt_of_lt_of_le b h.1)).trans (h.2 k b c)⟩
theorem TL(h:Jk W2 wr b0)(b:bf.Left wr w' base v)(d:∀g,v.ownBlock=some g->b0=some g\/W2.heap.size<=g):Jk W2 w' b0:=⟨Nat.le_trans h.1 b.size,λk a c=>(b.blk k (Nat.lt_of_lt_of_le a h.1) (λe=>by
 rcases d k e with j|j
 ·exact c j
 ·omega)).trans (h.2 k a c)⟩
theorem Zh{es:List EM}{l:List Ent}(h:OE W2 base v es l)(b:Jk W2 wr b0)(d:∀g,b0=some g->g<base):OE wr base v es l:=by
 refine⟨Nat.le_trans h.low b.1,A2 h.own (λg a=>?_),h.len,λi o=>?_⟩
 ·have:=bf.AM h.own a;exact b.2 g this.2 (λe=>by have:=d g e;omega)
 ·obtain⟨f,j,k,m,n,c⟩:=h.rows i o;refine⟨f,j,k,m,n,A2 c (λg a=>?_)⟩;have:=bf.AM c a;exact b.2 g this.2 (λe=>by have:=d g e;omega)
def mkK(a b:Nat):Nat->Nat
 |0=>0
 |1=>a
 |_=>a+b
theorem R7(p:pl.Pln)(x:pl.PA)(s:Jn)(y:JX)(w:ϛ)(hw:pl.wfPlan p)(hp:pl.planAt w p x)(h:joinAt w s y)(hE:∀z∈Aa s.L++Aa s.R,wfE z/\z.key.size<=140737488355328/\z.row.length<=2000000)(dm:(Aa s.L).length<=4611686018427387904)(b5:(Aa s.R).length<=4611686018427387904):
 η 15 #[pl.Ak p x,joinV s y] w (θ w (vI (B6 p s))):=by
 have bh:Tryz.prog.follows .mixedOrders=true:=rfl;have KP:=hIz (λ(a:ϛ) (u:Ϟ w a)=>pl.Jh p x a hw (pl.Aj hp u));have bu:=hIz (λ(a:ϛ) (u:Ϟ w a)=>F7 s.L y.l a (Ag h.l u) (λz F=>hE z (mem_append.2 (.inl F))) dm);have bv:=hIz (λ(a:ϛ) (u:Ϟ w a)=>F7 s.R y.r a (Ag h.r u) (λz F=>hE z (mem_append.2 (.inr F))) b5);have ay:ϝ (okB s.L->∀a,Ϟ w a->CT 43 #[.agg (Ω s.L y.l)] a λe w'=>(∃d t,e= .returned (hdV d)/\OE w' a (hdV d) t (AP (Aa s.L)))/\Ϟ a w'):=λok a u=>by
  refine(FG s.L y.l a (Ag h.l u) ok).mono ?_;rintro e w' ⟨⟨d,t,l,he,ho,b4,hr⟩,bx⟩;have:l=AP (Aa s.L):=Ec b4 (FZ hr) ok.once;rw[this]at ho;exact⟨⟨d,t,he,ho⟩,bx⟩
 have az:ϝ (okB s.R->∀a,Ϟ w a->CT 43 #[.agg (Ω s.R y.r)] a λe w'=>(∃d t,e= .returned (hdV d)/\OE w' a (hdV d) t (AP (Aa s.R)))/\Ϟ a w'):=λok a u=>by
  refine(FG s.R y.r a (Ag h.r u) ok).mono ?_;rintro e w' ⟨⟨d,t,l,he,ho,b4,hr⟩,bx⟩;have:l=AP (Aa s.R):=Ec b4 (FZ hr) ok.once;rw[this]at ho;exact⟨⟨d,t,he,ho⟩,bx⟩
 have ap:ϝ (∀a,CT 29 #[vI s.lm,vI (-1099511627777),vI 1099511627776] a λe w'=>e= .returned (.bool (CW s.lm))/\w'=a):=λa=>by rw[<-Po];exact bf.Ar _ _ _ _
 have a0:ϝ (∀a,CT 29 #[vI s.rm,vI (-1099511627777),vI 1099511627776] a λe w'=>e= .returned (.bool (CW s.rm))/\w'=a):=λa=>by rw[<-Po];exact bf.Ar _ _ _ _
 have a9:ϝ (∀a,CT 29 #[vI s.seq,ω,vI 1099511627776] a λe w'=>e= .returned (.bool (bf.A8 s.seq 0 1099511627776))/\w'=a):=λa=>bf.Ar _ _ _ _;have HW:ϝ (pl.wfPlan p/\pl.planAt w p x):=⟨hw,hp⟩;have av:ϝ ((AP (Aa s.L)).Perm (Aa s.L)):=A9 _;have aw:ϝ ((AP (Aa s.R)).Perm (Aa s.R)):=A9 _;have bk:ϝ (∀z∈AP (Aa s.L),Cj z.row/\z.row.length<=χ):=λz F=>by
  have:=hE z (mem_append.2 (.inl (av.o.mem_iff.1 F)));exact⟨this.1.row,ϟ⟩
 have bm:ϝ (∀z∈AP (Aa s.R),Cj z.row/\z.row.length<=χ):=λz F=>by
  have:=hE z (mem_append.2 (.inr (aw.o.mem_iff.1 F)));exact⟨this.1.row,ϟ⟩
 have a7:ϝ (Dy s.L=0->okB s.L/\(AP (Aa s.L)).length<=4096):=λm=>⟨Ei m,by rw[av.o.length_eq];exact(Ei m).all⟩;have a8:ϝ (Dy s.R=0->okB s.R/\(AP (Aa s.R)).length<=4096):=λm=>⟨Ei m,by rw[aw.o.length_eq];exact(Ei m).all⟩;obtain⟨R,hR⟩:=nM (B6 p s);have f:ϝ (R=if pl.Al p≠0 then pl.Al p else if Dy s.L≠0 then Dy s.L else if Dy s.R≠0 then Dy s.R else if Eg s=false then 3 else if C4 p s=false then 1 else 0):=hR.symm;rw[hR];have ax:ϝ (Eg s=(CW s.lm&&CW s.rm&&bf.A8 s.seq 0 1099511627776)):=rfl;obtain⟨A,hA⟩:=nM (AP (Aa s.L));obtain⟨B,hB⟩:=nM (AP (Aa s.R));rw[hA]at ay av bk a7;rw[hB]at az aw bm a8;obtain⟨pe,b3⟩:=nM (pl.Al p);obtain⟨e1,c0⟩:=nM (Dy s.L);obtain⟨e2,c1⟩:=nM (Dy s.R);have ck:=hV0 b3;rw[b3]at KP f;rw[c0]at bu f a7;rw[c1]at bv f a8;obtain⟨N,df⟩:=nM (CW s.lm);obtain⟨q2,dg⟩:=nM (CW s.rm);obtain⟨q3,dh⟩:=nM (bf.A8 s.seq 0 1099511627776);rw[df]at ap ax;rw[dg]at a0 ax;rw[dh]at a9 ax;rw[ax.o]at f;have ab:ϝ (Pm p s=(decide (s.L.lim=p.limit)&&decide (s.R.lim=p.limit))):=rfl;unfold pl.Ak at KP⊢;rw[A0];clear hw hp h hE dm b5 hR hA hB b3 c0 c1 df dg dh ax;go_enter Tryz.func15,Tryz.ntmps15;go_wp2_with fail;generalize hV:(World.alloc (World.alloc w _) _)=V;have aj:Ϟ w V:=by rw[<-hV];exact Ϫ.alloc ϡ _
 have HB:ϝ (boxP V w p x):=by
  subst hV;exact Ad (BL ..) Ϫ
 have G:ϝ (AK V (w+1) s y):=by
  subst hV;have:=AL (ξ w (Φ p x) 25) s y 31;rw[World.size_alloc]at this;exact this
 clear hV;refine(KP.o _ aj).mono ?_;rintro e a ⟨rfl,W⟩;have ae:Ϟ w a:=bT aj W;replace HB:ϝ (boxP a w p x):=Ad HB.o W;replace G:ϝ (AK a (w+1) s y):=Ah G.o W;clear KP aj W;by_cases m:pe=0
 case neg=>
  have db:(pe !=0)=true:=by simpa using m
  rw[if_pos m]at f;go_wp2;go_ret;exact⟨bf.Af f.o.symm,ae⟩
 subst m;rw[if_neg Ϡ]at f;obtain⟨u0,u1,u2,u3,u4,u5,u6,u7,u8⟩:=G.o;go_wp2_with fail;refine(bu.o _ ae).mono ?_;rintro e w2 ⟨rfl,aa⟩;have ba:Ϟ w w2:=bT ae aa;clear u0 u1 u2 u3 u4 u5 u6 u7 u8;replace HB:ϝ (boxP w2 w p x):=Ad HB.o aa;replace G:ϝ (AK w2 (w+1) s y):=Ah G.o aa;by_cases m:e1=0
 case neg=>
  have db:(e1 !=0)=true:=by simpa using m
  rw[if_pos m]at f;go_wp2;go_ret;exact⟨bf.Af f.o.symm,ba⟩
 subst m;rw[if_neg Ϡ]at f;obtain⟨u0,u1,u2,u3,u4,u5,u6,u7,u8⟩:=G.o;go_wp2_with fail;refine(bv.o _ ba).mono ?_;rintro e w3 ⟨rfl,bc⟩;have Z:Ϟ w w3:=bT ba bc;clear u0 u1 u2 u3 u4 u5 u6 u7 u8;replace HB:ϝ (boxP w3 w p x):=Ad HB.o bc;replace G:ϝ (AK w3 (w+1) s y):=Ah G.o bc;clear aa bc ae ba bu bv;by_cases m:e2=0
 case neg=>
  have db:(e2 !=0)=true:=by simpa using m
  rw[if_pos m]at f;go_wp2;go_ret;exact⟨bf.Af f.o.symm,Z⟩
 subst m;rw[if_neg Ϡ]at f;obtain⟨ds,em⟩:=a7.o ϧ;obtain⟨dt,en⟩:=a8.o ϧ;have cj:=hV0 ck.o;replace ay:=ay.o ds;replace az:=az.o dt;have d9:ϝ (∀a,Ϟ w a->CT 43 #[.agg (Ω s.L y.l)] a λe w'=>(∃d t,e= .returned (hdV d)/\OE w' a (hdV d) t A)/\Ϟ a w'):=ay;have ea:ϝ (∀a,Ϟ w a->CT 43 #[.agg (Ω s.R y.r)] a λe w'=>(∃d t,e= .returned (hdV d)/\OE w' a (hdV d) t B)/\Ϟ a w'):=az;have d7:ϝ ((C1 A B).length<=8192):=by
  show _<=_;unfold C1;rw[lAp,lMp,lMp];omega
 clear ay az a7 a8 ds dt ck;obtain⟨u0,u1,u2,u3,u4,u5,u6,u7,u8⟩:=G.o;have v5:=HB.o.2.2.2.2.2.1
 cases N with
 |false=>
  have au:ϝ (R=3):=by show R=3;rw[f.o];simp
  go_wp2_with (go_at_call 29;(with_reducible refine(ap.o _).mono ?_);rintro e w' ⟨rfl,C⟩;have D:=C.symm;subst D);go_ret;exact⟨bf.Af au.o.symm,Z⟩
 |true=>
 cases q2 with
 |false=>
  have au:ϝ (R=3):=by show R=3;rw[f.o];simp
  go_wp2_with (go_at_call 29;first|((with_reducible refine(ap.o _).mono ?_);rintro e w' ⟨rfl,C⟩;have D:=C.symm;subst D)|((with_reducible refine(a0.o _).mono ?_);rintro e w' ⟨rfl,C⟩;have D:=C.symm;subst D));go_ret;exact⟨bf.Af au.o.symm,Z⟩
 |true=>
 cases q3 with
 |false=>
  have au:ϝ (R=3):=by show R=3;rw[f.o];simp
  go_wp2_with (go_at_call 29;first|((with_reducible refine(ap.o _).mono ?_);rintro e w' ⟨rfl,C⟩;have D:=C.symm;subst D)|((with_reducible refine(a0.o _).mono ?_);rintro e w' ⟨rfl,C⟩;have D:=C.symm;subst D)|((with_reducible refine(a9.o _).mono ?_);rintro e w' ⟨rfl,C⟩;have D:=C.symm;subst D));go_ret;exact⟨bf.Af au.o.symm,Z⟩
 |true=>
 have ai:ϝ (C4 p s=false->R=1):=λhf=>by rw[f.o,hf];simp
 have dy:ϝ (C4 p s=true->R=0):=λhf=>by rw[f.o,hf];simp
 clear f;go_upto_region 12 with(go_at_call 29;first|((with_reducible refine(ap.o _).mono ?_);rintro e w' ⟨rfl,C⟩;have D:=C.symm;subst D)|((with_reducible refine(a0.o _).mono ?_);rintro e w' ⟨rfl,C⟩;have D:=C.symm;subst D)|((with_reducible refine(a9.o _).mono ?_);rintro e w' ⟨rfl,C⟩;have D:=C.symm;subst D));clear ap a0 a9;obtain⟨am,bg⟩:=nM p.limit;obtain⟨l1,bd⟩:=nM s.L.lim;obtain⟨l2,be⟩:=nM s.R.lim;rw[bg]at v5 ab;rw[bd]at u0 ab;rw[be]at u3 ab;by_cases af:l1=am
 case neg=>
  have H:ϝ (C4 p s=false):=Pn (by rw[ab.o,decide_eq_false af];rfl);have hd:(l1 !=am)=true:=by simpa using af
  clear bg bd be ab af;go_wp2;go_ret;exact⟨bf.Af (ai.o H.o).symm,Z⟩
 by_cases aq:l2=am
 case neg=>
  have H:ϝ (C4 p s=false):=Pn (by rw[ab.o,decide_eq_false aq];simp);have hd:(l1 !=am)=false:=by simpa using af
  have cz:(l2 !=am)=true:=by simpa using aq
  clear bg bd be ab af aq;go_wp2;go_ret;exact⟨bf.Af (ai.o H.o).symm,Z⟩
 have d2:ϝ (Pm p s=true):=by show _=_;rw[ab.o,decide_eq_true af,decide_eq_true aq];rfl
 have hd:(l1 !=am)=false:=by simpa using af
 have cz:(l2 !=am)=false:=by simpa using aq
 clear bg bd be ab af aq;go_upto_region 16 with fail;clear u0 u1 u2 u3 u4 u5 u6 u7 u8 v5 hd cz;obtain⟨L,cq⟩:=nM w3;rw[cq]at HB G Z⊢;clear cq
 go_loopw [8,9,10,11,12,13,14] (λv c _ _ _ _ _ wr=> ∃(k:Nat) (t:List EM) (q:List Ent),k<=2/\c=vI ((k:Int)+1)/\OE wr L v t q/\CJ p s ((C1 A B).take (mkK A.length B.length k)) q/\Ϟ L wr) (λ_ c _ _ _ _ _ _=>3 - (intOf c).toNat)
 case atStart=>exact⟨0,[],[],ϟ,rfl,BD nR,AcO p s,bR⟩
 case round=>
  obtain⟨k,t,q,ep,rfl,a5,ag,U⟩:=hrel;have bq:=hV0 a5;have T:Ϟ w wr:=bT Z U;clear a5;by_cases ej:k=2
  ·subst ej;have bj:ϝ (CJ p s (C1 A B) q):=by
    have:mkK A.length B.length 2=(C1 A B).length:=by unfold C1;rw[lAp,lMp,lMp];rfl
    rw[this,take_length]at ag;exact ag
   have d8:ϝ (C4 p s=true):=Z7 av.o aw.o d2.o bj.o;clear ag;go_wp2;go_ret;exact⟨bf.Af (dy.o d8.o).symm,T⟩
  have c4:k=0\/k=1:=ϟ;obtain⟨X,M,cr,cs,bw,ct,cu,cv⟩:∃(X:List Ent) (M:Nat),mkK A.length B.length k=M/\mkK A.length B.length (k+1)=M+X.length/\(∀j,j<X.length->(C1 A B).getD (M+j) (0,ϰ)=((k:Int)+1,X.getD j ϰ)/\(C1 A B).take (M+(j+1))=(C1 A B).take (M+j)++[((k:Int)+1,X.getD j ϰ)])/\(∀z∈X,Cj z.row/\z.row.length<=χ)/\M+X.length<=A.length+B.length/\((k=0/\X=A)\/(k=1/\X=B)):=by
   rcases c4 with rfl|rfl
   ·exact⟨A,0,rfl,(Nat.zero_add _).symm,λj hj=>by rw[Nat.zero_add,Nat.zero_add];exact Abj hj,bk.o,ϟ,.inl ⟨rfl,rfl⟩⟩
   ·exact⟨B,A.length,rfl,rfl,λj hj=>Abk hj,bm.o,ϟ,.inr ⟨rfl,rfl⟩⟩
  have bj:ϝ (CJ p s ((C1 A B).take (M+0)) q):=by rw[Nat.add_zero,<-cr];exact ag
  have cd:=hV0 cs;have dz:=hV0 ct;have ci:=hV0 cu;obtain⟨c,b6⟩:=nM ((k:Int)+1);have br:=hV0 b6;rw[b6]at bw⊢;have d6:=hV0 bw;have dq:(c=1/\X=A)\/(c=2/\X=B):=by rcases cv with⟨h1,h2⟩|⟨h1,h2⟩;exact .inl ⟨ϟ,h2⟩;exact .inr ⟨ϟ,h2⟩
  have b5:c<=2:=ϟ;have cm:=hV0 dq;clear ag cr cs bw ct cu cv b6 c4 dq bk bm;obtain⟨t0,t1,t2,t3,t4,t5,t6,t7,t8⟩:=Ah G.o U
  go_upto_if 70 with(go_at_call 43;refine(d9.o _ T).mono ?_;rintro e W1 ⟨⟨⟨r1,r2,r3⟩,bb,rfl,dc⟩,W⟩;unfold hdV)
  clear t0 t1 t2 t3 t4 t5 t6 t7 t8;have cw:Ϟ L W1:=bT U W;have cp:Ϟ w W1:=bT T W;have bo:=hV0 dc;clear dc
  go_cut [10]from 62 to 133 (λlv wc=> ∃g1 g3 a3 bs,lv=vS g1 X.length g3/\OE wc bs (hdV (g1,X.length,g3)) a3 X/\wr.heap.size<=bs/\Ϟ wr wc)
  case first=>
   rcases cm.o with⟨rfl,rfl⟩|⟨rfl,rfl⟩
   ·have ek:r2=X.length:=(OE.entsAt bo.o).1;go_wp2;go_meet;subst ek;exact⟨r1,r3,bb,_,rfl,bo.o,Nat.le_refl _,W⟩
   ·obtain⟨t0,t1,t2,t3,t4,t5,t6,t7,t8⟩:=Ah G.o cw;go_wp2_with (go_at_call 43;refine(ea.o _ cp).mono ?_;rintro e W2 ⟨⟨⟨g1,g2,g3⟩,a3,rfl,a4⟩,aa⟩;have cf:ϝ (OE W2 W1 (hdV (g1,g2,g3)) a3 X):=a4;clear a4;unfold hdV);go_meet;have eg:g2=X.length:=(OE.entsAt cf.o).1;subst eg;exact⟨g1,g3,a3,_,rfl,cf.o,W.size,bT W aa⟩
  case rest=>
   rename World=>W2;obtain⟨g1,g3,a3,bs,rfl,a4,cy,aa⟩:=hcut;obtain⟨b0,aj⟩:=nM u8.ownBlock;have c9:∀g,b0=some g->g<bs:=λg hg=>Nat.lt_of_lt_of_le (bf.AM bq.o.own (aj.trans hg)).2 cy;have d1:ϝ (∀b7,Jk W2 b7 b0->Cz b7 g1 X):=λb7 hk=>(OE.entsAt (Zh a4 hk c9)).2.1;have d3:ϝ (OE W2 L u8 t q):=bq.o.below aa;have dw:ϝ (∀g,u8.ownBlock=some g->b0=some g\/W2.heap.size<=g):=λg hg=>.inl (aj.symm.trans hg);have ed:Ϟ L W2:=bT U aa;obtain⟨n,hn⟩:=nM X.length;have a6:=hV0 hn;have er:n<=8192:=by have:=ci.o;omega
   rw[hn]at cd;rw[hn];clear hn aj c9 a4 bq aa U T bo W cw cp cm cy;go_upto_region 22 with fail
   go_loopw [8,11,12,13,14] (λv ii _ _ _ wr=> ∃(j:Nat) (t:List EM) (q:List Ent),j<=n/\ii=vI j/\OE wr L v t q/\CJ p s ((C1 A B).take (M+j)) q/\Jk W2 wr b0/\(∀g,v.ownBlock=some g->b0=some g\/W2.heap.size<=g)/\Ϟ L wr) (λ_ ii _ _ _ _=>n - (intOf ii).toNat)
   case atStart=>exact⟨0,t,q,Nat.zero_le _,rfl,d3.o,by exact bj.o,TK _ _,dw.o,ed⟩
   case round=>
    obtain⟨j,bb,N,eo,rfl,a5,ag,c7,cx,U⟩:=hrel;have bp:=hV0 a5;have ar:=hV0 ag;have bn:=hV0 c7;have b8:=hV0 cx;have T:Ϟ w wr:=bT Z U;clear a5 ag c7 cx;by_cases b1:j<n
    ·obtain⟨lb,lo,O,Y,el,x0,x1,x2,x3,x4,x5⟩:=(d1.o wr bn.o) j (by rw[a6.o];exact b1);subst el;obtain⟨du,dv⟩:=d6.o j (by rw[a6.o];exact b1);have da:X.getD j ϰ∈X:=AD (by rw[a6.o];exact b1);have ak:=dz.o _ da;have E:ϝ ((s.seq<=(X.getD j ϰ).seq\/EW p c (X.getD j ϰ)=false\/hasB N (Az (sqE (X.getD j ϰ)))=true)->C4 p s=false):=λhw=>Abi (k:=(M+j)) av.o aw.o ar.o (by unfold C1;rw[lAp,lMp,lMp];have:=a6.o;have:=ci.o;omega) (by rw[du];exact hw);have Q:ϝ (∀q',(X.getD j ϰ).seq<s.seq->EW p c (X.getD j ϰ)=true->hasB N (Az (sqE (X.getD j ϰ)))=false->q'.Perm (sqE (X.getD j ϰ)::N)->Dh q'->CJ p s ((C1 A B).take (M+(j+1))) q'):=λq' h1 h2 h3 h4 h5=>by
      rw[dv];exact ar.o.more h1 h2 h3 h4 h5
     have et:N.length<=8192:=by
      rw[ar.o.perm.length_eq,lMp,length_take];have:=d7.o;omega
     obtain⟨o,dr⟩:=nM (X.getD j ϰ);rw[dr]at x0 x2 x3 x5 ak E Q;clear du dv da dr x1 x4;have cl:ϝ (vl.rowAt wr O o.row):=x5;have J:ϝ (EW p c o=(decide (pl.Be p c o.row=0)&&pl.hasB p c o.row&&decide (pl.Ap p c o.row=o.key))):=rfl;have ao:ϝ (∀a,Ϟ wr a->CT 44 #[pl.Ak p x,vI c,vS O o.row.length Y] a (θ a (vI (pl.Be p c o.row)))):=λa u=>by
      have ae:Ϟ w a:=bT T u;have:=pl.Ki p x c O Y o.row a HW.o.1 (pl.Aj HW.o.2 ae) cj.o (vl.Ac cl.o u) ak.1 ak.2;have e1:pl.Be p c o.row=pl.Uy p c o.row:=if_pos cj.o;rw[e1];exact this
     have ac:ϝ (pl.Be p c o.row=0->∀a,Ϟ wr a->CT 45 #[pl.Ak p x,vI c,vS O o.row.length Y] a (θ a (.tuple #[.string (pl.Ap p c o.row),.bool (pl.hasB p c o.row)]))):=λm a u=>by
      have ae:Ϟ w a:=bT T u;exact pl.N6 p x c O Y o.row a HW.o.1 (pl.Aj HW.o.2 ae) m (vl.Ac cl.o u) ak.1 ak.2
     have d5:ϝ (Az (sqE o)=(⟨#[]⟩,0,o.seq)):=rfl;obtain⟨P,yt,I,yr,ym⟩:=o;dsimp only at x0 x2 x3 ao ac E Q J d5 ak;have an:ϝ (∀a,Ϟ wr a->CT 46 #[u8,.agg #[ϊ,ω,vI I,ψ,ϋ]] a λr w'=>(∃(d:Hdr) (a2:List EM) (l':List Ent),r= .returned (.tuple #[hdV d,.bool (!hasB N (Az (sqE ⟨P,yt,I,yr,ym⟩)))])/\OE w' L (hdV d) a2 l'/\(hasB N (Az (sqE ⟨P,yt,I,yr,ym⟩))=false->l'.Perm (sqE ⟨P,yt,I,yr,ym⟩::N)/\Dh l')/\(∀g,(hdV d).ownBlock=some g->u8.ownBlock=some g\/a.heap.size<=g))/\Below L.heap.size a w'/\bf.Left a w' L.heap.size u8):=λa u=>by
      obtain⟨eb,ec,e8⟩:=bp.o.form;have ho:=bp.o.below u;rw[e8]at ho⊢;refine(KT L.heap.size eb ec bb N ⟨⟨#[]⟩,0,I,(none,0,0),false⟩ (sqE ⟨P,yt,I,yr,ym⟩) a ho (λw2 _=>⟨rfl,rfl,rfl,rfl,rfl,λi hi=>absurd hi (Nat.not_lt_zero i)⟩) ar.o.rise ϟ (Nat.zero_le _)).mono ?_;rintro r w' ⟨⟨d,a2,l',h1,h2,_,h3,h4⟩,h5,h6⟩;exact⟨⟨d,a2,l',h1,h2,h3,h4⟩,h5,h6⟩
     obtain⟨hq,c3⟩:=nM (hasB N (Az (sqE ⟨P,yt,I,yr,ym⟩)));obtain⟨rl,dl⟩:=nM yr.length;obtain⟨re,dj⟩:=nM (pl.Be p c yr);obtain⟨kh,c6⟩:=nM (pl.hasB p c yr);obtain⟨kb,c5⟩:=nM (pl.Ap p c yr);rw[c3]at E Q an;rw[dl]at x3 ao ac;rw[dj]at ao ac J;rw[c6,c5]at ac J;obtain⟨sS,dp⟩:=nM s.seq;have cc:=(Ah G.o U).2.2.2.2.2.2.2.2;rw[dp]at E Q cc;have b9:ϝ (boxP wr w p x):=Ad HB.o U;have i1:(0:Int)<=(j:Int):=ϟ;have i2:(j:Int)<(n:Int):=ϟ;have a1:ϝ (∀w',Ϟ wr w'->Δ w' lb (lo+j * 5+1+1) (vI I)/\Δ w' (w+1) 8 (vI sS)/\Δ w' lb (lo+j * 5+1+1+1) (vS O rl Y)/\boxP w' w p x):=λw' F=>⟨cLz F x2,cLz F cc,cLz F x3,Ad b9.o F⟩;have cn:ϝ (∀w',Ϟ wr w'->Δ w' lb (lo+j * 5+1+1+1) (vS O rl Y)/\boxP w' w p x):=λw' F=>⟨cLz F x3,Ad b9.o F⟩;clear c3 dl dj c6 c5 dp ak x5;by_cases eh:sS<=I
     ·have H:ϝ (C4 p s=false):=E.o (.inl eh);clear E Q an ac ao J;go_upto_region 24 with fail;refine gr.AQ (S:=λw'=>Δ w' lb (lo+j * 5+1+1) (vI I)/\Δ w' (w+1) 8 (vI sS)/\Δ w' lb (lo+j * 5+1+1+1) (vS O rl Y)/\boxP w' w p x) 19 rfl bh (a1.o _ bR.drew) ?_;intro b;refine Ai 0 80 b ?_;refine Ai 2 82 b ?_;refine Ai 4 84 b ?_;refine Ai 6 86 b ?_;refine takeB 8 88 b ?_;refine sk 9 89 b ?_;refine sk 10 90 b ?_;refine sk 11 91 b ?_;refine sk 12 92 b ?_;refine sk 13 93 b ?_;refine sk 14 94 b ?_;refine sk 15 95 b ?_;refine sk 16 96 b ?_;refine sk 17 97 b ?_;refine takeB 18 98 b ?_;refine wpAnyH_done Ϣ ?_ _;go_wp2;go_ret;exact⟨bf.Af (ai.o H.o).symm,T.drew⟩
     ·by_cases bi:re=0
      ·subst bi;go_upto_region 24 with fail;refine gr.AQ (S:=λw'=>Δ w' lb (lo+j * 5+1+1) (vI I)/\Δ w' (w+1) 8 (vI sS)/\Δ w' lb (lo+j * 5+1+1+1) (vS O rl Y)/\boxP w' w p x) 19 rfl bh (a1.o _ bR.drew) ?_;intro b;refine Ai 0 80 b ?_;refine Ai 2 82 b ?_;refine Ai 4 84 b ?_;refine Ai 6 86 b ?_;refine takeB 8 88 b ?_;refine Ai 9 89 b ?_;refine Ai 11 91 b ?_;refine Ai 13 93 b ?_;refine takeB 15 95 b ?_;refine rD 16 λK hK=>?_;go_simp;go_at_call 44;refine(ao.o _ bR.drew).mono ?_;rintro e w4 ⟨rfl,bz⟩;have ah:Ϟ wr w4:=bR.drew.trans bz;go_wp2_with fail;refine hK.out _ _ (a1.o _ ah) (λb=>?_);clear hK K
       try simp only[Act.put,sI,sZ,sSz]
       refine takeB 17 97 b ?_;refine takeB 18 98 b ?_;refine wpAnyH_done Ϣ ?_ _;go_upto_region 26 with fail;replace ac:ϝ (∀a,Ϟ wr a->η 45 #[pl.Ak p x,vI c,vS O rl Y] a (θ a (.tuple #[.string kb,.bool kh]))):=ac.o ϧ;refine gr.AQ (S:=λw'=>Δ w' lb (lo+j * 5+1+1+1) (vS O rl Y)/\boxP w' w p x) 13 rfl bh (cn.o _ ah.drew) ?_;intro b;refine Ai 0 100 b ?_;refine Ai 2 102 b ?_;refine Ai 4 104 b ?_;refine takeB 6 106 b ?_;refine rD 7 λK hK=>?_;go_simp;go_at_call 45;refine(ac.o _ ah.drew).mono ?_;rintro e w5 ⟨rfl,ee⟩;have ad:Ϟ wr w5:=ah.drew.trans (ee.mono ah.drew.size);go_wp2_with fail;refine hK.out _ _ (cn.o _ ad) (λb=>?_);clear hK K
       try simp only[Act.put,sI,sZ,sSz]
       refine takeB 8 99 b ?_;refine takeB 9 108 b ?_;refine takeB 10 109 b ?_;refine takeB 11 12 b ?_;refine takeB 12 13 b ?_;refine wpAnyH_done Ϣ ?_ _;have y0:=cLz ad x0;have y2:=cLz ad x2
       cases kh with
       |false=>
        have H:ϝ (C4 p s=false):=E.o (.inr (.inl (by rw[J.o];simp)));clear E Q an J;go_wp2;go_ret;exact⟨bf.Af (ai.o H.o).symm,bT T ad⟩
       |true=>
        by_cases al:kb=P
        ·have d4:ϝ (EW p c ⟨P,yt,I,yr,ym⟩=true):=by
          show _=_;rw[J.o,decide_eq_true al];rfl
         have t1:(kb.toList==P.toList)=true:=by rw[al];simp
         have t2:(kb.toList !=P.toList)=false:=by rw[al];simp
         clear al J;go_wp2_with fail;refine(an.o _ ad).mono ?_;rintro e w6 ⟨⟨d,a2,l',rfl,dd,b2,c2⟩,ef,c8⟩;have co:Ϟ L w6:=(bT U ad).trans ef
         cases hq with
         |true=>
          have H:ϝ (C4 p s=false):=E.o (.inr (.inr rfl));clear E Q b2;unfold hdV;go_wp2;go_ret;exact⟨bf.Af (ai.o H.o).symm,bT Z co⟩
         |false=>
          obtain⟨de,di⟩:=b2 rfl;have ca:=Q.o l' ϟ d4.o ϧ de di;have d0:ϝ (Jk W2 w6 b0):=TL (R6 bn.o ad) c8 b8.o;have cb:ϝ (∀g,(hdV d).ownBlock=some g->b0=some g\/W2.heap.size<=g):=λg hg=>by
           rcases c2 g hg with k|k
           ·exact b8.o g k
           ·exact .inr (Nat.le_trans (Nat.le_trans bn.o.1 ad.size) k)
          have cg:=hV0 dd;have dx:ϝ (CJ p s ((C1 A B).take (M+(j+1))) l'):=ca;clear b2 de di c2 c8 dd ca Q E;unfold hdV at cg cb⊢;go_wp2;go_roundw
          case rel=>exact⟨j+1,a2,l',ϟ,by go_num,cg.o,dx.o,d0.o,cb.o,co⟩
          case measure=>simp[intOf];omega
        ·have H:ϝ (C4 p s=false):=E.o (.inr (.inl (by rw[J.o,decide_eq_false al];simp)));have t1:(kb.toList==P.toList)=false:=by
          have:=bytes_beq kb P;rw[beq_eq_false_iff_ne];intro e;rw[e]at this;exact al (by simpa using this.symm)
         have t2:(kb.toList !=P.toList)=true:=by simpa using t1
         clear E Q an J al;go_wp2;go_ret;exact⟨bf.Af (ai.o H.o).symm,bT T ad⟩
      ·have eu:(re !=0)=true:=by simpa using bi
       have H:ϝ (C4 p s=false):=E.o (.inr (.inl (by rw[J.o,decide_eq_false bi];simp)));clear E Q an ac J bi;go_upto_region 24 with fail;refine gr.AQ (S:=λw'=>Δ w' lb (lo+j * 5+1+1) (vI I)/\Δ w' (w+1) 8 (vI sS)/\Δ w' lb (lo+j * 5+1+1+1) (vS O rl Y)/\boxP w' w p x) 19 rfl bh (a1.o _ bR.drew) ?_;intro b;refine Ai 0 80 b ?_;refine Ai 2 82 b ?_;refine Ai 4 84 b ?_;refine Ai 6 86 b ?_;refine takeB 8 88 b ?_;refine Ai 9 89 b ?_;refine Ai 11 91 b ?_;refine Ai 13 93 b ?_;refine takeB 15 95 b ?_;refine rD 16 λK hK=>?_;go_simp;go_at_call 44;refine(ao.o _ bR.drew).mono ?_;rintro e w4 ⟨rfl,bz⟩;have ah:Ϟ wr w4:=bR.drew.trans bz;go_wp2_with fail;refine hK.out _ _ (a1.o _ ah) (λb=>?_);clear hK K
       try simp only[Act.put,sI,sZ,sSz]
       refine takeB 17 97 b ?_;refine takeB 18 98 b ?_;refine wpAnyH_done Ϣ ?_ _;go_wp2;go_ret;exact⟨bf.Af (ai.o H.o).symm,bT T ah⟩
    ·have ei:j=n:=ϟ;subst ei;have ev:IntKind.i64.wrap (c+1)=c+1:=by rw[ch.BA];have:=br.o;omega
     go_wp2;go_roundw
     case rel=>exact⟨k+1,bb,N,ϟ,by have:=br.o;exact congrArg _ ϟ,bp.o,by rw[cd.o];exact ar.o,U⟩
     case measure=>simp[intOf];have:=br.o;omega
end jn
end Go.Proofs.YtdohnkkbkfhphaaGreat
