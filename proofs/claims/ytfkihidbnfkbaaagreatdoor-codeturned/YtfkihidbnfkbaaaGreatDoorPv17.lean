import Derived.Test.YtfkihidbnfkbaaaGreatDoorPv10
set_option linter.all false
set_option maxHeartbeats 8000000
set_option maxRecDepth 100000
open Go.ChangeShapes Go.WideShapes Go.ChangeAt Go.RowKit List
namespace Go.Proofs.YtfkihidbnfkbaaaGreatDoor
open Go.Proofs.Tryz
namespace pl
open vl
variable {a : ϙ} {w : Ϙ} {b : Nat} {x y : Int}
theorem Iw{g:Array Oper}{rest:List Oper}{o:Oper}{a:Act}{Q:Exit->Act->World->Prop}(m:o.guard=none)(s x:Operand)
 (q:o.op= .call {callee:=.builtin .append,args:=#[s,x],argTypes:=#[29,29]}) (base:Nat) (v:Value) (l:List Int) (t:a.eval s=v) (c:Ϙ)
 (r:Dq c base v l) (n:Int) (B:Nat) (k:c.heap.size=B) (z:a.eval x=vS (τ B) 1 1) (G:l.length<=1000000) (F:base<=c.heap.size)
 (h:∀e d,Dq d base e (l++[n])->(c.alloc (.cells #[vI n] 3)).grownBy d v.ownBlock->wpList Tryz.prog g Q rest (a.put o.dst e) d):
 wpList Tryz.prog g Q (o::rest) a (ξ c #[vI n] 3):=by
 subst k;obtain⟨E,p,A,C,D⟩:=info_parts Tryz.info3;refine wpList_append_own _ m s x 29 q base 3 E (vI 0) 1 8 underlying29 p A C D rfl ϝ v l.length (l.map J2) t
  (World.ownsRow.alloc r _) ⟨c,0,none⟩ 1 1 [vI n] z rfl (cell_one_new _ _ _) (by intro u f;simp at f;subst f;rfl) Ϧ Ϝ ϡ ?_
 intro e d i j _;refine h e d ?_ j;unfold Dq;rw[lAp,map_append];exact i
theorem F3{base:Nat}{c d:Ϙ}{v:Value}{l:List Int}{o:Obj}(f:Below base w c)(e:base<=c.heap.size)(i:Dq c base v l)(g:(c.alloc o).grownBy d v.ownBlock):Below base w d:=
 (f.alloc e o).grown g ϡ (λk h=>(World.ownsRow.lt i k h).1)
def Hy(c:List Int)(a:Int×Int):Int:=if a.1=3\/a.1=4 then c.getD a.2.toNat 0 else 2
def FM(p:Pln):List Int:=if p.grouped=true then p.group.map (λi=>(BG p).getD i.toNat 0)++p.aggs.map (Hy (BG p))else BG p
theorem Q3(f k:Int)(ad:ϙ)(A:Nat)(c:List Int)(w:Ϙ)(p:A8 w ad c)(B:c.length<=χ)(ha:Gl c (f,k))(F:1<=f/\f<=4):
 η 173 #[.agg #[vI f,vI k],vS ad c.length A] w (θ w (vI (Hy c (f,k)))):=by
 have d:Ϛ (Hy c (f,k)=if f=3\/f=4 then c.getD k.toNat 0 else 2):=rfl;obtain⟨n,i⟩:=nM c.length;have v:=hqz i;have j:Ϛ (f≠1->0<=k/\k<(n:Int)):=λh=>by
  unfold Gl at ha;dsimp only at ha;rw[if_neg h]at ha;rw[<-i];exact ha.1
 rw[i]at B⊢;clear i ha;obtain⟨E,q⟩:=nM (Hy c (f,k));rw[q]at d⊢;clear q;by_cases g:f=3\/f=4
 ·rw[if_pos g]at d;have r:=j.o Ϝ;obtain⟨m,rfl⟩:=Int.eq_ofNat_of_zero_le r.1;rw[Int.toNat_natCast]at d;obtain⟨b,o,e,u⟩:=p m (by rw[v.o];omega);subst e;have s:=bLt _ _ u;have G:b<w.heap.size:=s;obtain⟨z,t⟩:=nM (c.getD m 0);rw[t]at u d;have H:(0:Int)<=(m:Int):=Ϝ;have I:(m:Int)<(n:Int):=Ϝ;have l:=hqz d.o;clear t p r d j s;rcases g with rfl|rfl
  all_goals
   go_enter func173,ntmps173;go_wp2;go_ret;exact⟨Am l.o.symm,ϧ⟩
 ·rw[if_neg g]at d;have C:(f==3)=false:=ϡ;have D:(f==4)=false:=ϡ;have l:=hqz d.o;clear g p d j;go_enter func173,ntmps173;go_wp2;go_ret;exact⟨Am l.o.symm,ϧ⟩
theorem takeA(l:List (Int×Int))(k:Nat)(h:k<l.length):l.take (k+1)=l.take k++[l.getD k (0,0)]:=by
 rw[take_succ_eq_append_getElem h];simp[gDe,h]
def OL(p:Pln)(base:Nat)(e:Ending)(w':World):Prop:=
 (An p≠0/\e= .returned (.tuple #[ψ,vI (An p)]))\/
 (An p=0/\∃ad cap,e= .returned (.tuple #[vS ad (FM p).length cap,ω])/\A8 w' ad (FM p))
theorem Zx(p:Pln)(x:PA)(w:Ϙ)(hw:wfPlan p)(X:planAt w p x):
 η 105 #[Aq p x] w λe d=>OL p w.heap.size e d/\ϛ w d:=by
 have J:=hIz (λ(f:Ϙ) (U:ϛ w f)=>CK p x f hw (Ag X U));have M:=λh:An p=0=>BI h;have C:Ϛ (∀f,An p=0->ϛ w f->CT 133 #[Aq p x] f λe d=>(∃s B,e= .returned (vS s (BG p).length B)/\Dq d f.heap.size (vS s (BG p).length B) (BG p))/\ϛ f d):=λf h U=>by
  have hm:=EG (M h).2.2.1;exact CC p x f (Ag X U) Ϝ Ϝ Ϝ Ϝ
 have G:Ϛ (An p=0->(∀j,j<p.group.length->0<=p.group.getD j 0/\p.group.getD j 0<((BG p).length:Int))/\p.group.length<=8/\p.aggs.length<=4/\(BG p).length<=8):=λh=>by
  have hm:=EG (M h).2.2.1;refine⟨Aal (M h).2.2.2.2,Ϝ,Ϝ,?_⟩;unfold BG;rw[lAp];omega
 have F:Ϛ (An p=0->p.grouped=true->∀j,j<p.aggs.length->Gl (BG p) (p.aggs.getD j (0,0))/\(1<=(p.aggs.getD j (0,0)).1/\(p.aggs.getD j (0,0)).1<=4)):=λh hg j hj=>⟨Aam (M h).2.2.2.2 j hj,(M h).1.2.2 hg _ (Dj hj)⟩;have I:yes p.grouped (FM p=p.group.map (λi=>(BG p).getD i.toNat 0)++p.aggs.map (Hy (BG p))):=λh=>if_pos h;have H:yes (!p.grouped) (FM p=BG p):=λh=>if_neg (by simpa using h);have a3:Ϛ (A8 w x.g p.group):=X.g;have a2:Ϛ (Ge w x.a p.aggs):=X.a;have ag:Ϛ (An p≠0->∀e d,e= .returned (.tuple #[ψ,vI (An p)])->OL p w.heap.size e d):=λh e d he=>.inl ⟨h,he⟩;have S:Ϛ (An p=0->∀e d s B,e= .returned (.tuple #[vS s (FM p).length B,ω])->A8 d s (FM p)->OL p w.heap.size e d):=λh e d s B he hi=>.inr ⟨h,s,B,he,hi⟩;obtain⟨a4,a6⟩:=nM (OL p w.heap.size);rw[a6]at ag S⊢;obtain⟨pe,bj⟩:=nM (An p);rw[bj]at J C G F ag S;obtain⟨c,a8⟩:=nM (BG p);rw[a8]at C G F I H;obtain⟨O,bg⟩:=nM (FM p);rw[bg]at I H S;clear a6 bj a8 bg hw X M;obtain⟨b7,cb,ca,b6,cg,b8,left,right,bw,bx,a5,u,t⟩:=p;obtain⟨l,lc,r,rc,lk,b9,rk,cc,g,gc,a,ac⟩:=x;unfold Aq at J C⊢;dsimp only at J C G F I H a3 a2⊢;obtain⟨n6,h6⟩:∃n,left.length=n:=⟨_,rfl⟩;obtain⟨n7,h7⟩:∃n,right.length=n:=⟨_,rfl⟩;obtain⟨n8,h8⟩:∃n,bw.length=n:=⟨_,rfl⟩;obtain⟨n9,h9⟩:∃n,bx.length=n:=⟨_,rfl⟩;obtain⟨aa,L⟩:∃n,u.length=n:=⟨_,rfl⟩;obtain⟨N,D⟩:∃n,t.length=n:=⟨_,rfl⟩;obtain⟨cn,ak⟩:∃n,c.length=n:=⟨_,rfl⟩;have ab:=hqz L;have am:=hqz D;have ae:=hqz ak;rw[h6,h7,h8,h9,L,D]at J;rw[h6,h7,h8,h9,L,D,ak]at C;rw[L,D,ak]at G;rw[D]at F;rw[h6,h7,h8,h9,L,D];clear h6 h7 h8 h9 L D ak;go_enter func105,ntmps105;go_wp2_with fail;refine(J.o _ ϧ).mono ?_;rintro e f ⟨rfl,ai⟩;have ao:=ϧ.trans (ai.mono Ϟ);obtain⟨aj,bs⟩:=Dx ai;have ay:w.heap.size<f.heap.size:=(by have:=ai.size;simp at this;omega);by_cases h0:pe=0
 ·subst h0;go_wp2_with fail;refine(C.o _ Ϥ ao).mono ?_;rintro e A ⟨⟨s,B,rfl,ho⟩,V⟩;have ap:=bT ao V;have af:Ϛ (A8 A s c):=(Lj ho).1;have cd:Δ A w 10 (.bool a5):=by rw[(Dx V).1 _ _ ay,aj _ _ Ϟ];go_simp
  have cf:Δ A w 11 (vS g aa gc):=by rw[(Dx V).1 _ _ ay,aj _ _ Ϟ];go_simp
  have bz:Δ A w 12 (vS a N ac):=by rw[(Dx V).1 _ _ ay,aj _ _ Ϟ];go_simp
  obtain⟨bc,bu,b4,b5⟩:=G.o Ϥ;have bp:=hqz bc;have HR:Ϛ (∀e d s B,e= .returned (.tuple #[vS s O.length B,ω])->A8 d s O->a4 e d):=S.o Ϥ;clear aj bs ai V ho J C bc G ag S
  cases a5 with
  |false=>
   have R:Ϛ (O=c):=H rfl;clear I H;go_wp2
   go_ret2
   exact⟨HR.o _ _ s B (by rw[R.o,ae.o];rfl) (by rw[R.o];exact af.o),ap⟩
  |true=>
   have R:Ϛ (O=u.map (λi=>c.getD i.toNat 0)++t.map (Hy c)):=I rfl;clear I H;have bo:Ϛ (∀j,j<N->Gl c (t.getD j (0,0))/\(1<=(t.getD j (0,0)).1/\(t.getD j (0,0)).1<=4)):=F.o Ϥ Ϥ;clear F;go_wp2
   go_loopw [6,8,25] (λv _ i wr=> ∃k:Nat,k<=aa/\i=vI k/\Dq wr A.heap.size v ((u.take k).map (λi=>c.getD i.toNat 0))/\ϛ A wr) (λ_ _ i _=>aa - (intOf i).toNat)
   case atStart=>exact⟨0,Nat.zero_le _,rfl,World.ownsRow_nil _ _ _ _,bR⟩
   case round=>
    obtain⟨k,hk,rfl,bh,E⟩:=hrel;have P:=hqz bh;have bk:=E.size;have br:=bT ap E;have b2:=cLz E bz;clear bh;by_cases av:k<aa
    ·obtain⟨b,o,e,xk⟩:=a3.o k (by rw[ab.o];exact av);subst e;have ax:=bp.o k av;have q:Ϛ ((u.take (k+1)).map (λi=>c.getD i.toNat 0)=(u.take k).map (λi=>c.getD i.toNat 0)++[c.getD (u.getD k 0).toNat 0]):=by
      show(u.take (k+1)).map _=_;rw[LI u k (by rw[ab.o];exact av),map_append];rfl
     have an:((u.take k).map (λi=>c.getD i.toNat 0)).length<=8:=by rw[lMp,length_take];omega
     obtain⟨z,hz⟩:=nM (u.getD k 0);rw[hz]at xk ax q;obtain⟨zn,rfl⟩:=Int.eq_ofNat_of_zero_le ax.1;rw[Int.toNat_natCast]at q;obtain⟨b1,o1,e1,x1⟩:=af.o zn (by rw[ae.o];omega);subst e1;have qk:=cLz br xk;have q1:=cLz E x1;obtain⟨cv,a9⟩:=nM (c.getD zn 0);rw[a9]at q1 q;obtain⟨pr,Y⟩:=nM ((u.take k).map (λi=>c.getD i.toNat 0));rw[Y]at P q an;have i1:(0:Int)<=(k:Int):=Ϝ;have i2:(k:Int)<(aa:Int):=Ϝ;have i3:(0:Int)<=(zn:Int):=Ϝ;have i4:(zn:Int)<(cn:Int):=Ϝ;clear xk x1 hz a9 ax Y;go_wp2_with (at_builtin;refine Iw rfl (.tmp 29) (.tmp 34) rfl A.heap.size u6 pr rfl wr P.o cv wr.heap.size rfl rfl Ϝ bk ?_;intro v2 w3 W au);obtain⟨ah,c2,Z,_⟩:=Cl W;have aq:=F3 E bk P.o au;subst Z;go_roundw
     case rel=>exact⟨k+1,Ϝ,by go_num,by rw[q.o];exact W,aq⟩
     case measure=>simp[intOf];omega
    ·have q:Ϛ (u.take k=u):=take_of_length_le (by rw[ab.o];omega);have az:Ϛ (Dq wr A.heap.size u6 (u.map (λi=>c.getD i.toNat 0))):=by
      have:=P.o;rw[q.o]at this;exact this
     have bv:(u.map (λi=>c.getD i.toNat 0)).length<=8:=by rw[lMp,ab.o];exact bu
     obtain⟨K,bd⟩:=nM (u.map (λi=>c.getD i.toNat 0));rw[bd]at az R bv;obtain⟨W2,rfl⟩:∃x,x=wr:=⟨_,rfl⟩;have b0:Ϛ (A8 W2 s c):=Av af.o E;clear P q bd;go_wp2
     go_loopw [6,10,40] (λv _ i wr=> ∃k:Nat,k<=N/\i=vI k/\Dq wr A.heap.size v (K++(t.take k).map (Hy c))/\ϛ A wr) (λ_ _ i _=>N - (intOf i).toNat)
     case atStart=>exact⟨0,Nat.zero_le _,rfl,by simpa using az.o,E⟩
     case round=>
      obtain⟨m,hm,rfl,bi,al⟩:=hrel;have Q:=hqz bi;have bm:=al.size;have ar:=bT ap al;clear bi;by_cases aw:m<N
      ·obtain⟨b,o,e,xa,xb⟩:=a2.o m (by rw[am.o];exact aw);subst e;have qa:=cLz ar xa;have qb:=cLz ar xb;have T:=bo.o m aw;have q:Ϛ (K++(t.take (m+1)).map (Hy c)=K++(t.take m).map (Hy c)++[Hy c (t.getD m (0,0))]):=by
        show K++(t.take (m+1)).map (Hy c)=_;rw[takeA t m (by rw[am.o];exact aw),map_append,<-append_assoc];rfl
       have an:(K++(t.take m).map (Hy c)).length<=100:=by rw[lAp,lMp,length_take];omega
       obtain⟨⟨fv,kv⟩,ba⟩:∃z,t.getD m (0,0)=z:=⟨_,rfl⟩;rw[ba]at qa qb T q;dsimp only at qa qb T;have KF:Ϛ (∀f,ϛ A f->CT 173 #[.agg #[vI fv,vI kv],vS s cn B] f (θ f (vI (Hy c (fv,kv))))):=λf U=>by
        have:=Q3 fv kv s B c f (Av af.o U) (by rw[ae.o];omega) T.1 T.2;rwa[ae.o]at this
       obtain⟨ft,bb⟩:=nM (Hy c (fv,kv));rw[bb]at KF q;obtain⟨pr,Y⟩:=nM (K++(t.take m).map (Hy c));rw[Y]at Q q an;have i1:(0:Int)<=(m:Int):=Ϝ;have i2:(m:Int)<(N:Int):=Ϝ;clear xa xb ba T bb Y;go_wp2_with fail;refine(KF.o _ (al.alloc bm _)).mono ?_;rintro e w5 ⟨rfl,a7⟩;have be:=(al.alloc bm _).trans (a7.mono ϡ);have a1:Ϛ (Dq w5 A.heap.size u6 pr):=Q0 (Q0 Q.o ϧ) a7;have bn:=be.size;clear Q;go_wp2_with (at_builtin;refine Iw rfl (.tmp 44) (.tmp 48) rfl A.heap.size u6 pr rfl w5 a1.o ft w5.heap.size rfl rfl Ϝ bn ?_;intro v2 w3 W au);obtain⟨ah,c2,Z,_⟩:=Cl W;have aq:=F3 be bn a1.o au;subst Z;go_roundw
       case rel=>exact⟨m+1,Ϝ,by go_num,by rw[q.o];exact W,aq⟩
       case measure=>simp[intOf];omega
      ·have q:Ϛ (t.take m=t):=take_of_length_le (by rw[am.o];omega);have a0:Ϛ (Dq wr A.heap.size u6 O):=by
        have:=Q.o;rw[q.o,<-R.o]at this;exact this
       obtain⟨ah,c2,Z,_⟩:=Cl a0.o;subst Z;have bq:Ϛ (A8 wr ah O):=(Lj a0.o).1;clear Q q;go_wp2
       go_ret2
       exact⟨HR.o _ _ ah c2 rfl bq.o,ar⟩
 ·have b3:(pe !=0)=true:=by simpa using h0
  have HR:Ϛ (∀e d,e= .returned (.tuple #[ψ,vI pe])->a4 e d):=ag.o h0;clear h0;go_wp2
  go_ret2
  exact⟨HR.o _ _ rfl,ao⟩
def Fo:Pln:=⟨1,4, -5,5,0,2,[2,2],[2,2],[0],[0],false,[],[]⟩
theorem Kf:wfPlan Fo:=⟨by unfold i64;decide,by unfold i64;decide,ϝ,ϝ,ϝ,ϝ,ϝ,ϝ⟩
theorem CE:An Fo=0:=ϟ
theorem ZN(c:Δ w b 0 (vI x)):A8 w (τ b) [x]:=by
 intro i d
 match i,d with
 |0,_=>exact⟨b,0,rfl,c⟩
theorem ZO(c:Δ w b 0 (vI x))(d:Δ w b 1 (vI y)):A8 w (τ b) [x,y]:=by
 intro i e
 match i,e with
 |0,_=>exact⟨b,0,rfl,c⟩
 |1,_=>exact⟨b,0,rfl,d⟩
theorem AaY:A8 w a []:=λi c=>absurd c (Nat.not_lt_zero i)
theorem AaZ:Ge w a []:=λi c=>absurd c (Nat.not_lt_zero i)
theorem UU{p:Pln}{x:PA}(c:A8 w x.l p.left)(d:A8 w x.r p.right)(e:A8 w x.lk p.lkeys)(f:A8 w x.rk p.rkeys)(g:A8 w x.g p.group)(h:Ge w x.a p.aggs):planAt w p x:=⟨c,d,e,f,g,h⟩
def Q4(n:Nat)(a:Option Addr):Prop:=∀y,a=some y->n<=y.block
theorem J3{n o:Nat}(h:n<=b):Q4 n (some ⟨b,o,none⟩):=λy c=>by cases c;exact h
theorem Sj(w:Ϙ):η 23 #[] w λe c=>(∃x,e= .returned (Aq Fo x)/\planAt c Fo x/\Q4 w.heap.size x.l/\Q4 w.heap.size x.r/\Q4 w.heap.size x.lk/\Q4 w.heap.size x.rk)/\ϛ w c:=by
 go_enter func23,ntmps23;go_wp2;exact bodyPost_ret (v:=.agg #[vI 1,vI 4,vI (-5),vI 5,ω,vI 2,vS (τ (w+1)) 2 2,vS (τ (w+1)) 2 2,vS (τ (w+1+1)) 1 1,vS (τ (w+1+1+1)) 1 1,ϋ,ψ,ψ]) (by simp[results,results23,go_sem]) rfl
  ⟨⟨⟨some ⟨w+1,0,none⟩,2,some ⟨w+1,0,none⟩,2,some ⟨w+1+1,0,none⟩,1,some ⟨w+1+1+1,0,none⟩,1,none,0,none,0⟩,rfl,
   UU (ZO Ϡ Ϡ) (ZO Ϡ Ϡ) (ZN Ϡ) (ZN Ϡ) AaY AaZ,J3 (n:=w.heap.size) (b:=w.heap.size+1) Ϝ,J3 (n:=w.heap.size) (b:=w.heap.size+1) Ϝ,J3 (n:=w.heap.size) (b:=w.heap.size+1+1) Ϝ,J3 (n:=w.heap.size) (b:=w.heap.size+1+1+1) Ϝ⟩,by
   repeat (first|exact bR|apply Below.drew|(refine Below.setCell ?_ Ϟ _)|(refine Below.alloc ?_ ϣ _))
   ⟩
theorem Tv(n:Int)(w:Ϙ):η 99 #[vI n] w (θ w (.agg #[vI 2,vI n,ϊ])):=by
 go_enter func99,ntmps99;go_wp2;exact bodyPost_ret (v:=.agg #[vI 2,vI n,ϊ]) (by simp[results,results99,go_sem]) rfl ⟨rfl,by repeat (first|exact bR|apply Below.drew|(refine Below.setCell ?_ Ϟ _)|(refine Below.alloc ?_ ϣ _))⟩
theorem Aa9(c:Δ w b 0 (vI 2))(d:Δ w b 1 (vI x))(e:Δ w b 2 (.string ⟨#[]⟩))(f:Δ w b 3 (vI 2))(g:Δ w b 4 (vI y))(h:Δ w b 5 (.string ⟨#[]⟩)):
 vl.rowAt w (τ b) [⟨2,x,⟨#[]⟩⟩,⟨2,y,⟨#[]⟩⟩]:=by
 intro i j
 match i,j with
 |0,_=>exact⟨b,0,rfl,c,d,e⟩
 |1,_=>exact⟨b,0,rfl,f,g,h⟩
theorem Gh(x y:Int)(w:Ϙ):η 49 #[vI x,vI y] w λe f=>(∃c,e= .returned (vS c 2 2)/\vl.rowAt f c [⟨2,x,⟨#[]⟩⟩,⟨2,y,⟨#[]⟩⟩])/\ϛ w f:=by
 go_enter func49,ntmps49;go_wp2_with fail;refine(Tv _ _).mono ?_;rintro e i ⟨rfl,g⟩;go_wp2_with fail;refine(Tv _ _).mono ?_;rintro e j ⟨rfl,h⟩;have d:=bT g h;go_wp2;go_ret;exact⟨⟨_,rfl,Aa9 Ϡ Ϡ Ϡ Ϡ Ϡ Ϡ⟩,d.alloc d.size _⟩
end pl
end Go.Proofs.YtfkihidbnfkbaaaGreatDoor
