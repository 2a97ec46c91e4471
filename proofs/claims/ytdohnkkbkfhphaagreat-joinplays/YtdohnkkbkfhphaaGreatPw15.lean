import Derived.Test.YtdohnkkbkfhphaaGreatPw14
set_option linter.all false
set_option maxHeartbeats 4000000
set_option maxRecDepth 100000
open Go.ChangeShapes Go.WideShapes Go.ChangeAt Go.RowKit List
open Inhabited renaming default->ϰ
namespace Go.Proofs.YtdohnkkbkfhphaaGreat
open Go.Proofs.Tryz
namespace pl
open vl
variable {w : ϛ} {p : Pln} {x : PA} {c : List Int} {r : List Cel} {i : Nat} {side : Int} {s t : ByteArray} {a b : Bool}
def As(p:Pln)(side:Int):List Int:=if side=2 then p.right else p.left
def keysOf(p:Pln)(side:Int):List Int:=if side=2 then p.rkeys else p.lkeys
def cA(x:PA)(side:Int):Option Addr:=if side=2 then x.r else x.l
def cC(x:PA)(side:Int):Nat:=if side=2 then x.rc else x.lc
def kA(x:PA)(side:Int):Option Addr:=if side=2 then x.rk else x.lk
def kC(x:PA)(side:Int):Nat:=if side=2 then x.rkc else x.lkc
theorem ZQ(h:planAt w p x)(side:Int):AA w (cA x side) (As p side):=by
 unfold cA As;split
 ·exact h.r
 ·exact h.l
theorem Gs(h:planAt w p x)(side:Int):AA w (kA x side) (keysOf p side):=by
 unfold kA keysOf;split
 ·exact h.rk
 ·exact h.lk
theorem Mt(h:wfPlan p)(side:Int):(As p side).length<=χ:=by
 unfold As;split
 ·exact h.r
 ·exact h.l
def DD(c:Cel)(t:Int):Bool:=decide (c.k=0\/c.k=t)
def EH(r:List Cel)(c:List Int):Bool:=decide (r.length=c.length)&&allB r.length (λi=>DD (r.getD i ϰ) (c.getD i 0))
def Uy(p:Pln)(side:Int)(r:List Cel):Int:=
 if Bz side=false then 4 else if r.length≠(As p side).length then 2 else if EA r≠0 then EA r else if EH r (As p side)=false then 5 else 0
def Be(p:Pln)(side:Int)(r:List Cel):Int:=if Al p=0 then Uy p side r else Al p
theorem LP(p:Pln)(x:PA)(side:Int)(w:ϛ):
 η 155 #[Ak p x,vI side] w (θ w (vS (cA x side) (As p side).length (cC x side))):=by
 unfold cA cC As;obtain⟨o,B,A,m,G,u,left,right,z,F,k,j,f⟩:=p;obtain⟨l,q,r,C,v,y,D,E,g,h,a,e⟩:=x;unfold Ak;dsimp only;by_cases d:side=2
 ·subst d;simp only[if_true];go_enter func155,ntmps155;go_wp2;go_ret;exact⟨rfl,Ϫ⟩
 ·have n:(side==2)=false:=by simpa using d
  simp only[if_neg d];clear d;go_enter func155,ntmps155;go_wp2;go_ret;exact⟨rfl,Ϫ⟩
theorem XK(p:Pln)(x:PA)(side:Int)(w:ϛ):
 η 108 #[Ak p x,vI side] w (θ w (vS (kA x side) (keysOf p side).length (kC x side))):=by
 unfold kA kC keysOf;obtain⟨o,B,A,m,G,u,left,right,z,F,k,j,f⟩:=p;obtain⟨l,q,r,C,v,y,D,E,g,h,a,e⟩:=x;unfold Ak;dsimp only;by_cases d:side=2
 ·subst d;simp only[if_true];go_enter func108,ntmps108;go_wp2;go_ret;exact⟨rfl,Ϫ⟩
 ·have n:(side==2)=false:=by simpa using d
  simp only[if_neg d];clear d;go_enter func108,ntmps108;go_wp2;go_ret;exact⟨rfl,Ϫ⟩
theorem Ab2(i:Nat)(B:Nat)(ad:Ϝ)(z:Nat)(c:List Int)(k n:Int)(s:ByteArray)(w:ϛ)(l:i<c.length)(C:c.length<=χ)(h:AA w ad c)(g:Δ w B 0 (vS ad c.length z)):
 η 192 #[vI i,.agg #[vI k,vI n,.string s],μ B] w (θ w (.bool (DD ⟨k,n,s⟩ (c.getD i 0)))):=by
 have f:=bLt _ _ g;have D:B<w.heap.size:=f;obtain⟨y,I,A,u⟩:=h i l;subst A;have j:=bLt _ _ u;have E:y<w.heap.size:=j;have d:ϝ (DD ⟨k,n,s⟩ (c.getD i 0)=decide (k=0\/k=c.getD i 0)):=rfl;obtain⟨m,o⟩:=nM c.length;obtain⟨t,q⟩:=nM (c.getD i 0);rw[o]at l C g;rw[q]at u d⊢;have G:(0:Int)<=(i:Int):=ϟ;have H:(i:Int)<(m:Int):=ϟ;clear o q h f j;by_cases e:k=0
 ·subst e;go_enter func192,ntmps192;go_wp2
  go_quiet (fail)
  go_wp2;go_ret;exact⟨Ab (by rw[d.o];simp),Dz Ϫ _⟩
 ·have F:(k==0)=false:=by simpa using e
  have v:ϝ (DD ⟨k,n,s⟩ t=(k==t)):=by show DD ⟨k,n,s⟩ t=_;rw[d.o];exact Bool.eq_iff_iff.2 (by simp[e])
  clear e d;go_enter func192,ntmps192;go_wp2
  go_quiet (fail)
  go_wp2;go_ret;exact⟨Ab v.o.symm,Dz Ϫ _⟩
theorem XL(a ad:Ϝ)(g h:Nat)(r:List Cel)(c:List Int)(w:ϛ)(y:r.length<=χ)(v:c.length<=χ)(ha:vl.rowAt w a r)(u:AA w ad c):
 η 157 #[vS a r.length g,vS ad c.length h] w (θ w (.bool (EH r c))):=by
 have K:ϝ (∀B d,Ϟ w d->r.length=c.length->Δ d B 0 (vS ad c.length h)->
  η 191 #[vS a r.length g,.func (.func 192) #[] #[μ B]] d (θ d (.bool (allB r.length (λi=>DD (r.getD i ϰ) (c.getD i 0)))))):=by
  intro B d o G A;exact QW 192 (enters_of func192 Ϣ rfl) #[μ B] (λi=>DD (r.getD i ϰ) (c.getD i 0)) a g r d y (Ac ha o)
   (λi E F q=>Ab2 i B ad h c _ _ _ E ϟ v (Au (Au u o) q) (cLz q A))
 have f:ϝ (EH r c=(decide (r.length=c.length)&&allB r.length (λi=>DD (r.getD i ϰ) (c.getD i 0)))):=rfl;obtain⟨H,z⟩:=nM (allB r.length (λi=>DD (r.getD i ϰ) (c.getD i 0)));rw[z]at K f;obtain⟨m,n⟩:=nM r.length;obtain⟨k,l⟩:=nM c.length;rw[n,l]at K f;rw[n,l];clear n l z ha u y v;by_cases j:m=k
 ·subst j;rw[show decide (m=m)=true by simp]at f;have D:((m:Int)==m)=true:=ϡ;go_enter func157,ntmps157;go_wp2_with (go_at_call 191;refine(K.o _ _ Ϫ ϧ ϣ).mono ?_;rintro e d ⟨rfl,C⟩);go_ret;exact⟨Ab (by rw[f.o];simp),Ϫ.trans (C.mono ϡ)⟩
 ·have D:((m:Int)==k)=false:=Ϥ;rw[decide_eq_false j]at f;clear j;go_enter func157,ntmps157;go_wp2;go_ret;exact⟨Ab (by rw[f.o];rfl),Ϫ⟩
def N4(c:List Int)(r:List Cel):Int:=if r.length≠c.length then 2 else if EH r c=false then 5 else 0
theorem ZR(e:r.length=c.length)(d:i<r.length)(h:DD (r.getD i ϰ) (c.getD i 0)=false):N4 c r=5:=by
 unfold N4 EH;rw[if_neg (by simp[e]),Eh d h];simp
theorem Ab3(d:r.length=c.length)(h:∀i,i<r.length->DD (r.getD i ϰ) (c.getD i 0)=true):N4 c r=0:=by
 unfold N4 EH;rw[if_neg (by simp[d]),Bb.2 h,decide_eq_true d];simp
theorem Ow(a ad:Ϝ)(S T:Nat)(r:List Cel)(c:List Int)(w:ϛ)(hl:r.length<=χ)(Y:c.length<=χ)(ha:vl.rowAt w a r)(J:AA w ad c):
 η 84 #[vS ad c.length T,vS a r.length S] w (θ w (vI (N4 c r))):=by
 have O:=hV0 ha;have P:=hV0 J;have o:ϝ (∀i,r.length=c.length->i<r.length->DD (r.getD i ϰ) (c.getD i 0)=false->N4 c r=5):=λi n W X=>ZR n W X;have u:ϝ (r.length=c.length->(∀i,i<r.length->DD (r.getD i ϰ) (c.getD i 0)=true)->N4 c r=0):=Ab3;have q:ϝ (r.length≠c.length->N4 c r=2):=λh=>if_pos h;obtain⟨B,K⟩:=nM (N4 c r);rw[K]at o u q⊢;obtain⟨m,E⟩:=nM r.length;obtain⟨k,e⟩:=nM c.length;have R:=hV0 E;have Q:=hV0 e;rw[E]at hl o u q⊢;rw[e]at Y o u q⊢;clear K E e ha J;by_cases C:m=k
 ·subst C;have Z:((m:Int) !=m)=false:=ϡ;go_enter func84,ntmps84;go_wp2
  go_loopw [5] (λi wr=> ∃j:Nat,j<=m/\i=vI j/\Ϟ w wr/\∀i,i<j->DD (r.getD i ϰ) (c.getD i 0)=true) (λi _=>m - (intOf i).toNat)
  case atStart=>exact⟨0,Nat.zero_le _,rfl,bR,λi v=>absurd v (Nat.not_lt_zero i)⟩
  case round=>
   obtain⟨j,hj,rfl,g,I⟩:=hrel;have G:=hV0 I;clear I;by_cases D:j<m
   ·obtain⟨b1,o1,U,M,x2,x3⟩:=O.o j (by rw[R.o];exact D);obtain⟨b2,o2,V,N⟩:=P.o j (by rw[Q.o];exact D);subst U V;have q1:=cLz g M;have q2:=cLz g N;have i1:(0:Int)<=(j:Int):=ϟ;have i2:(j:Int)<(m:Int):=ϟ;have z:ϝ (DD (r.getD j ϰ) (c.getD j 0)=decide ((r.getD j ϰ).k=0\/(r.getD j ϰ).k=c.getD j 0)):=rfl;obtain⟨f,L⟩:=nM ((r.getD j ϰ).k);obtain⟨y,F⟩:=nM (c.getD j 0);rw[L]at q1 z;rw[F]at q2;have A:ϝ (DD (r.getD j ϰ) (c.getD j 0)=decide (f=0\/f=y)):=by show DD (r.getD j ϰ) (c.getD j 0)=_;rw[z.o,F]
    clear L F M x2 x3 N z;have H:ϝ (DD (r.getD j ϰ) (c.getD j 0)=true->∀i,i<j+1->DD (r.getD i ϰ) (c.getD i 0)=true):=λh i v=>by
     rcases Nat.lt_succ_iff_lt_or_eq.1 v with n|n
     ·exact G.o i n
     ·rw[n];exact h
    by_cases e:f=0
    ·subst e;have d:ϝ (DD (r.getD j ϰ) (c.getD j 0)=true):=by show DD (r.getD j ϰ) (c.getD j 0)=true;rw[A.o];simp
     go_wp2
     go_quiet (fail)
     go_wp2;go_roundw
     case rel=>exact⟨j+1,ϟ,by go_num,Dz g _,H.o d.o⟩
     case measure=>simp[intOf];omega
    ·have ab:(f !=0)=true:=by simpa using e
     by_cases l:f=y
     ·have aa:(f !=y)=false:=by simpa using l
      have d:ϝ (DD (r.getD j ϰ) (c.getD j 0)=true):=by show DD (r.getD j ϰ) (c.getD j 0)=true;rw[A.o];exact decide_eq_true (.inr l)
      clear e l;go_wp2
      go_quiet (fail)
      go_wp2;go_roundw
      case rel=>exact⟨j+1,ϟ,by go_num,Dz g _,H.o d.o⟩
      case measure=>simp[intOf];omega
     ·have aa:(f !=y)=true:=by simpa using l
      have d:ϝ (B=5):=o.o j ϧ D (by rw[A.o];exact decide_eq_false (λh=>h.elim e l));clear e l;go_wp2
      go_quiet (fail)
      go_wp2;go_ret;exact⟨Af d.o.symm,Dz g _⟩
   ·have d:ϝ (B=0):=u.o ϧ (λi v=>G.o i ϟ);go_wp2;go_ret;exact⟨Af d.o.symm,g⟩
 ·have Z:((m:Int) !=k)=true:=Ϥ;have d:ϝ (B=2):=q.o C;clear C;go_enter func84,ntmps84;go_wp2;go_ret;exact⟨Af d.o.symm,bR⟩
def Is(sb:Bool)(n m:Nat)(er:Int)(tb:Bool):Int:=if sb=false then 4 else if n≠m then 2 else if er≠0 then er else if tb=false then 5 else 0
theorem Wd(p:Pln)(x:PA)(side:Int)(N:Ϝ)(cr:Nat)(r:List Cel)(w:ϛ)(y:wfPlan p)(hp:planAt w p x)(hr:vl.rowAt w N r)(a6:Cj r)(ao:r.length<=χ):
 η 106 #[Ak p x,vI side,vS N r.length cr] w (θ w (vI (Be p side r))):=by
 have u:=hIz (λ(m:ϛ) (G:Ϟ w m)=>EO p x m y (Aj hp G));have v:=hIz (λ(m:ϛ)=>LP p x side m);have M:=hIz (λ(m:ϛ) (G:Ϟ w m)=>XL N (cA x side) cr (cC x side) r (As p side) m ao (Mt y side) (Ac hr G) (Au (ZQ hp side) G));have d:ϝ (Be p side r=if Al p=0 then Is (Bz side) r.length (As p side).length (EA r) (EH r (As p side))else Al p):=rfl;have az:=Mt y side;have HR:=hV0 hr;obtain⟨J,ap⟩:=nM (Al p);obtain⟨k,ae⟩:=nM (Be p side r);obtain⟨ca,X⟩:=nM (cA x side);obtain⟨cc,Y⟩:=nM (cC x side);obtain⟨ka,a1⟩:=nM (kA x side);obtain⟨kc,a2⟩:=nM (kC x side);obtain⟨cn,C⟩:=nM ((As p side).length);obtain⟨kn,a3⟩:=nM ((keysOf p side).length);obtain⟨tb,ag⟩:=nM (EH r (As p side));rw[ap]at u d;rw[X,Y,C]at v;rw[X,Y,C,ag]at M;rw[ae,C,ag]at d;rw[C]at az;rw[ae];clear ap ae X Y a1 a2 C a3 ag hp y hr;obtain⟨n,hn⟩:=nM r.length;have E:=hV0 hn;rw[hn]at M d ao⊢;clear hn;obtain⟨bc,bh,bg,bb,bm,bd,left,right,a7,a8,a9,av,au⟩:=p;obtain⟨l,lc,rr,rc,lk,be,rk,bk,g,gc,a,ac⟩:=x;unfold Ak at u v⊢;dsimp only at u v⊢;obtain⟨n6,R⟩:∃n,left.length=n:=⟨_,rfl⟩;obtain⟨n7,S⟩:∃n,right.length=n:=⟨_,rfl⟩;obtain⟨n8,T⟩:∃n,a7.length=n:=⟨_,rfl⟩;obtain⟨n9,U⟩:∃n,a8.length=n:=⟨_,rfl⟩;obtain⟨bi,P⟩:∃n,av.length=n:=⟨_,rfl⟩;obtain⟨bj,Q⟩:∃n,au.length=n:=⟨_,rfl⟩;rw[R,S,T,U,P,Q]at u v;rw[R,S,T,U,P,Q];clear R S T U P Q;go_enter func106,ntmps106;go_wp2_with fail;refine(u.o _ Ϫ).mono ?_;rintro e m ⟨rfl,V⟩;have W:=Ϫ.trans (V.mono ϡ);obtain⟨ay,a0⟩:=D3 V;by_cases F:J=0
 ·subst F;rw[if_pos rfl]at d
  cases hsb:Bz side
  ·rw[hsb]at d;go_wp2_with (go_at_call 87;refine(Dr _ _).mono ?_;rintro e w' ⟨rfl,y⟩;subst y);go_ret;exact⟨Af (by rw[d.o];rfl),W⟩
  rw[hsb]at d;go_wp2_with fail;refine(Dr _ _).mono ?_;rintro e w' ⟨rfl,a5⟩;subst a5;rw[hsb];go_wp2_with fail;refine(v.o _).mono ?_;rintro e w2 ⟨rfl,al⟩;have am:=bT W al;clear ay a0 u v V al;by_cases ad:n=cn
  ·subst ad;have a4:((n:Int) !=n)=false:=ϡ;go_wp2
   go_loopw [11,30] (λ_ i wr=> ∃j:Nat,j<=n/\i=vI j/\Ϟ w wr/\∀i,i<j->(r.getD i ϰ).ok) (λ_ i _=>n - (intOf i).toNat)
   case atStart=>exact⟨0,Nat.zero_le _,rfl,am,λi Z=>absurd Z (Nat.not_lt_zero i)⟩
   case round=>
    obtain⟨j,hj,rfl,f,ak⟩:=hrel;have L:=hV0 ak;have af:=f.size;clear ak;by_cases ab:j<n
    ·obtain⟨b1,o1,e1,x1,x2,x3⟩:=HR.o j (by rw[E.o];exact ab);subst e1;have q1:=cLz f x1;have q2:=cLz f x2;have q3:=cLz f x3;have ah:=YX a6 j (by rw[E.o];exact ab);have D:ϝ (¬(r.getD j ϰ).ok->EA r=chk (r.getD j ϰ).k (r.getD j ϰ).n (r.getD j ϰ).s):=PY r j (by rw[E.o];exact ab) L.o;have A:ϝ ((r.getD j ϰ).ok↔chk (r.getD j ϰ).k (r.getD j ϰ).n (r.getD j ϰ).s=0):=Iff.rfl;have ai:ϝ ((r.getD j ϰ).ok->∀i,i<j+1->(r.getD i ϰ).ok):=λh i Z=>by
      rcases Nat.lt_succ_iff_lt_or_eq.1 Z with O|O
      ·exact L.o i O
      ·rw[O];exact h
     obtain⟨OK,aj⟩:=nM ((r.getD j ϰ).ok);rw[aj]at D A ai;obtain⟨⟨H,I,K⟩,an⟩:∃z,r.getD j ϰ=z:=⟨_,rfl⟩;rw[an]at q1 q2 q3 ah D A;dsimp only at q1 q2 q3 ah D A;obtain⟨⟨bn,bo⟩,aq⟩:=ah;have i1:(0:Int)<=(j:Int):=ϟ;have i2:(j:Int)<(n:Int):=ϟ;clear aj an x1 x2 x3;by_cases q:chk H I K=0
     ·have ax:(chk H I K !=0)=false:=by simpa using q
      have HO:ϝ OK:=A.o.2 q;clear q;go_wp2_with (go_at_call 156;refine(vl.Ce _ _ _ _ aq).mono ?_;rintro e wc ⟨rfl,B⟩;have aa:=(f.alloc af _).trans (B.mono Ϥ));go_roundw
      case rel=>exact⟨j+1,ϟ,by go_num,aa,ai.o HO.o⟩
      case measure=>simp[intOf];omega
     ·have ax:(chk H I K !=0)=true:=by simpa using q
      have o:ϝ (k=chk H I K):=by
       show k=_;rw[d.o,D.o (λh=>q (A.o.1 h))];unfold Is;rw[if_neg Ϡ,if_neg ϡ,if_pos q]
      clear q;go_wp2_with (go_at_call 156;refine(vl.Ce _ _ _ _ aq).mono ?_;rintro e wc ⟨rfl,B⟩;have aa:=(f.alloc af _).trans (B.mono Ϥ));go_ret;exact⟨Af o.o.symm,aa⟩
    ·have o:ϝ (k=if tb=false then 5 else 0):=by
      show k=_;rw[d.o,MF r j (by rw[E.o];omega) L.o];unfold Is;rw[if_neg Ϡ,if_neg ϡ,if_neg ϡ]
     go_wp2_with fail;refine(M.o _ f).mono ?_;rintro e w3 ⟨rfl,aw⟩;have B:=f.trans (aw.mono af)
     cases tb
     all_goals
      go_wp2;go_ret;exact⟨Af o.o.symm,B⟩
  ·have a4:((n:Int) !=cn)=true:=Ϥ;have o:ϝ (k=2):=by
    show k=2;rw[d.o];unfold Is;rw[if_neg Ϡ,if_pos ad]
   clear ad;go_wp2;go_ret;exact⟨Af o.o.symm,am⟩
 ·have ba:(J !=0)=true:=by simpa using F
  have o:ϝ (k=J):=by show k=J;rw[d.o,if_neg F]
  clear F;go_wp2;go_ret;exact⟨Af o.o.symm,W⟩
theorem ZS(h:r.length<=8):A3 r=EA r:=by unfold A3;rw[if_neg ϟ]
theorem Ki(p:Pln)(x:PA)(side:Int)(E:Ϝ)(I:Nat)(r:List Cel)(w:ϛ)(V:wfPlan p)(hp:planAt w p x)(Z:Al p=0)(S:vl.rowAt w E r)(aa:Cj r)(Q:r.length<=χ):
 η 44 #[Ak p x,vI side,vS E r.length I] w (θ w (vI (Uy p side r))):=by
 have ae:=DI (Bj Z).2.2.1;have C:=hIz (λ(y:ϛ) (H:Ϟ w y)=>vl.Dt E I r y (Ac S H) aa Q);have D:=hIz (λ(y:ϛ) (H:Ϟ w y)=>Ow E (cA x side) I (cC x side) r (As p side) y Q (Mt V side) (Ac S H) (Au (ZQ hp side) H));have f:ϝ (Uy p side r=Is (Bz side) r.length (As p side).length (EA r) (EH r (As p side))):=rfl;have B:ϝ (N4 (As p side) r=if r.length≠(As p side).length then 2 else if EH r (As p side)=false then 5 else 0):=rfl;have o:ϝ (r.length=(As p side).length->A3 r=EA r):=λh=>ZS (by rw[h];unfold As;split<;>omega);have A:ϝ (side=2->cA x side=x.r/\cC x side=x.rc/\(As p side).length=p.right.length):=λh=>by show cA x side=x.r/\cC x side=x.rc/\_;unfold cA cC As;simp only[if_pos h];exact⟨trivial,trivial,trivial⟩
 have z:ϝ (¬side=2->cA x side=x.l/\cC x side=x.lc/\(As p side).length=p.left.length):=λh=>by show cA x side=x.l/\cC x side=x.lc/\_;unfold cA cC As;simp only[if_neg h];exact⟨trivial,trivial,trivial⟩
 have ad:=Mt V side;obtain⟨d,T⟩:=nM (Uy p side r);obtain⟨ca,L⟩:=nM (cA x side);obtain⟨cc,M⟩:=nM (cC x side);obtain⟨F,u⟩:=nM ((As p side).length);obtain⟨tb,U⟩:=nM (EH r (As p side));obtain⟨m,Y⟩:=nM (A3 r);obtain⟨er,N⟩:=nM (EA r);obtain⟨G,O⟩:=nM (N4 (As p side) r);rw[Y]at C o;rw[L,M,u,O]at D;rw[T,u,U,N]at f;rw[O,u,U]at B;rw[N,u]at o;rw[L,M,u]at z A;rw[u]at ad;rw[T];clear T L M u U Y N O hp V S Z ae;obtain⟨n,hn⟩:=nM r.length;rw[hn]at C D f B o Q⊢;clear hn aa;obtain⟨al,aq,ap,ak,aw,am,left,right,ao,av,aj,ai,ah⟩:=p;obtain⟨l,lc,rr,rc,lk,an,rk,au,g,gc,a,ac⟩:=x;unfold Ak;dsimp only at z A⊢;obtain⟨n6,W⟩:∃n,left.length=n:=⟨_,rfl⟩;obtain⟨n7,X⟩:∃n,right.length=n:=⟨_,rfl⟩;rw[W]at z⊢;rw[X]at A⊢;clear W X
 cases hsb:Bz side
 ·rw[hsb]at f;have af:¬(side=1\/side=2):=of_decide_eq_false hsb;have s2:(side==2)=false:=Ϥ;have s1:(side !=1)=true:=Ϥ;clear af;go_enter func44,ntmps44;go_wp2;go_ret;exact⟨Af (by rw[f.o];rfl),Ϫ⟩
 rw[hsb]at f;have ag:side=1\/side=2:=of_decide_eq_true hsb;rcases ag with rfl|rfl
 ·obtain⟨rfl,rfl,rfl⟩:=z.o Ϡ;clear z A hsb;by_cases v:n=F
  ·subst v;have R:((n:Int) !=n)=false:=ϡ;have P:=o.o ϧ;subst P;clear o;go_enter func44,ntmps44;go_wp2_with fail;refine(C.o _ Ϫ).mono ?_;rintro e y ⟨rfl,J⟩;have q:=Ϫ.trans (J.mono ϡ);by_cases k:m=0
   ·subst k;have j:ϝ (d=G):=by
     show d=G;rw[f.o,B.o];unfold Is;simp
    go_wp2_with fail;refine(D.o _ q).mono ?_;rintro e w2 ⟨rfl,K⟩;go_wp2;go_ret;exact⟨Af j.o.symm,bT q K⟩
   ·have ab:(m !=0)=true:=by simpa using k
    have j:ϝ (d=m):=by
     show d=m;rw[f.o];unfold Is;rw[if_neg Ϡ,if_neg ϡ,if_pos k]
    clear k;go_wp2;go_ret;exact⟨Af j.o.symm,q⟩
  ·have R:((n:Int) !=F)=true:=Ϥ;have j:ϝ (d=2):=by
    show d=2;rw[f.o];unfold Is;rw[if_neg Ϡ,if_pos v]
   clear v;go_enter func44,ntmps44;go_wp2;go_ret;exact⟨Af j.o.symm,Ϫ⟩
 ·obtain⟨rfl,rfl,rfl⟩:=A.o rfl;clear z A hsb;by_cases v:n=F
  ·subst v;have R:((n:Int) !=n)=false:=ϡ;have P:=o.o ϧ;subst P;clear o;go_enter func44,ntmps44;go_wp2_with fail;refine(C.o _ Ϫ).mono ?_;rintro e y ⟨rfl,J⟩;have q:=Ϫ.trans (J.mono ϡ);by_cases k:m=0
   ·subst k;have j:ϝ (d=G):=by
     show d=G;rw[f.o,B.o];unfold Is;simp
    go_wp2_with fail;refine(D.o _ q).mono ?_;rintro e w2 ⟨rfl,K⟩;go_wp2;go_ret;exact⟨Af j.o.symm,bT q K⟩
   ·have ab:(m !=0)=true:=by simpa using k
    have j:ϝ (d=m):=by
     show d=m;rw[f.o];unfold Is;rw[if_neg Ϡ,if_neg ϡ,if_pos k]
    clear k;go_wp2;go_ret;exact⟨Af j.o.symm,q⟩
  ·have R:((n:Int) !=F)=true:=Ϥ;have j:ϝ (d=2):=by
    show d=2;rw[f.o];unfold Is;rw[if_neg Ϡ,if_pos v]
   clear v;go_enter func44,ntmps44;go_wp2;go_ret;exact⟨Af j.o.symm,Ϫ⟩
def BB(r:List Cel)(l:List Int):List Cel:=l.map λi=>r.getD i.toNat ϰ
theorem N5(l:List Int)(k:Nat)(h:k<l.length):l.take (k+1)=l.take k++[l.getD k 0]:=by
 rw[take_succ_eq_append_getElem h,E7 h]
theorem ZT(a ad:Ϝ)(ca cp:Nat)(r:List Cel)(l:List Int)(w:ϛ)(ak:r.length<=χ)(aj:l.length<=1000)(ha:vl.rowAt w a r)(S:AA w ad l)(y:∀x∈l,0<=x/\x<(r.length:Int)):
 η 107 #[vS a r.length ca,vS ad l.length cp] w λe w'=>(∃N O,e= .returned (vS N (BB r l).length O)/\A4 w' w (vS N (BB r l).length O) (BB r l))/\Ϟ w w':=by
 have HA:=hV0 ha;have HL:=hV0 S;have B:ϝ (∀i,i<l.length->0<=l.getD i 0/\l.getD i 0<(r.length:Int)):=λi q=>y _ (D4 q);obtain⟨m,D⟩:=nM r.length;obtain⟨n,E⟩:=nM l.length;have HM:=hV0 D;have j:=hV0 E;rw[D]at ak B⊢;rw[E]at aj B⊢;clear D E ha S y;obtain⟨i0,q,Z,aa,ab⟩:=info_parts Tryz.infoV;obtain⟨w0,al,U,R⟩:=run_make_own (P:=Tryz.prog) w w.heap.size 41 103 i0 (.agg #[ω,ω,ϊ]) 3 underlying41 q Z aa .i64 .i64 n (by rw[ab];omega) ϩ nR;have ag:Ϟ w w0:=bR.grown R nR (λb hb=>by cases hb);have ac:=hV0 U;clear q Z aa ab U R;have K:ϝ (∀k,k<n->BB r (l.take (k+1))=BB r (l.take k)++[r.getD (l.getD k 0).toNat ϰ]):=λk u=>by
  show BB r (l.take (k+1))=_;rw[N5 l k (by rw[j.o];exact u)];simp[BB]
 have I:ϝ (∀k,n<=k->BB r (l.take k)=BB r l):=λk u=>by
  show BB r (l.take k)=_;rw[take_of_length_le (by rw[j.o];exact u)]
 have M:ϝ (∀k,(BB r (l.take k)).length<=n):=λk=>by
  show(BB r (l.take k)).length<=n;have:(l.take k).length<=l.length:=by rw[length_take];omega
  unfold BB;rw[lMp,<-j.o];exact this
 obtain⟨pn,G⟩:=nM ((BB r l).length);have ae:=hV0 G;rw[G];clear G;go_enter func107,ntmps107;go_wp2
 go_loopw [5,7,13] (λv _ i wr=> ∃k:Nat,k<=n/\i=vI k/\A4 wr w v (BB r (l.take k))/\Ϟ w wr) (λ_ _ i _=>n - (intOf i).toNat)
 case atStart=>exact⟨0,Nat.zero_le _,rfl,ac.o,ag⟩
 case round=>
  obtain⟨k,u,rfl,T,d⟩:=hrel;have f:=hV0 T;have X:=d.size;clear T al;by_cases C:k<n
  ·obtain⟨b,o,e,H⟩:=HL.o k (by rw[j.o];exact C);subst e;have F:=B.o k C;have g:=K.o k C;obtain⟨z,Y⟩:=nM (l.getD k 0);rw[Y]at H F g;obtain⟨A,rfl⟩:=Int.eq_ofNat_of_zero_le F.1;rw[Int.toNat_natCast]at g;obtain⟨b1,o1,e1,x1,x2,x3⟩:=HA.o A (by rw[HM.o];omega);subst e1;have qk:=cLz d H;have q1:=cLz d x1;have q2:=cLz d x2;have q3:=cLz d x3;obtain⟨⟨kv,nv,sv⟩,Q⟩:∃z,r.getD A ϰ=z:=⟨_,rfl⟩;rw[Q]at q1 q2 q3 g;dsimp only at q1 q2 q3;have L:ϝ (BB r (l.take (k+1))=BB r (l.take k)++[⟨kv,nv,sv⟩]):=g;have i1:(0:Int)<=(k:Int):=ϟ;have i2:(k:Int)<(n:Int):=ϟ;have i3:(0:Int)<=(A:Int):=ϟ;have i4:(A:Int)<(m:Int):=ϟ;have y:=M.o k;obtain⟨pr,W⟩:=nM (BB r (l.take k));rw[W]at f L y;clear H x1 x2 x3 Y Q g F W;go_wp2_with (at_builtin;refine Es rfl (.tmp 17) (.tmp 22) rfl w.heap.size u5 pr rfl wr f.o ⟨kv,nv,sv⟩ wr.heap.size rfl rfl ϟ X ?_;intro v2 w3 V ai);obtain⟨af,c2,h,_⟩:=C0 V;have ah:=D8 d X f.o ai;subst h;go_roundw
   case rel=>exact⟨k+1,ϟ,by go_num,by rw[L.o];exact V,ah⟩
   case measure=>simp[intOf];omega
  ·have J:=I.o k ϟ;obtain⟨af,c2,h,_⟩:=C0 f.o;rw[J]at f h;rw[ae.o]at h;subst h;clear J I K M;go_wp2;go_ret;exact⟨⟨_,_,rfl,f.o⟩,d⟩
def FD(r:List Cel):Bool:=r.any λc=>c.k==0
theorem Px(d:i<r.length)(h:(r.getD i ϰ).k=0):FD r=true:=by
 unfold FD;rw[any_eq_true];exact⟨_,D4 d,by simpa using h⟩
theorem Sp(h:∀i,i<r.length->(r.getD i ϰ).k≠0):FD r=false:=by
 unfold FD;rw[any_eq_false];intro c e;have:=(E8 (d:=ϰ) (Q:=λc:Cel=>c.k≠0)).1 h c e;simpa using this
def Cp(p:Pln)(side:Int)(r:List Cel):List Cel:=BB r (keysOf p side)
def hasB(p:Pln)(side:Int)(r:List Cel):Bool:=decide (Be p side r=0)&& !FD (Cp p side r)
def Ap(p:Pln)(side:Int)(r:List Cel):ByteArray:=⟨(if hasB p side r=true then encR (Cp p side r)else []).toArray⟩
theorem D7(h:Be p side r=0):Al p=0/\Bz side=true/\r.length=(As p side).length/\EA r=0/\EH r (As p side)=true:=by
 unfold Be at h;by_cases d:Al p=0
 ·rw[if_pos d]at h;unfold Uy at h
  cases h1:Bz side with
  |false=>rw[h1]at h;cases h
  |true=>
   rw[h1,if_neg Ϡ]at h;by_cases f:r.length=(As p side).length
   ·rw[if_neg (by simp[f])]at h;by_cases e:EA r=0
    ·rw[if_neg (by simp[e])]at h
     cases h4:EH r (As p side)with
     |false=>rw[h4]at h;cases h
     |true=>exact⟨d,rfl,f,e,rfl⟩
    ·rw[if_pos e]at h;exact absurd h e
   ·rw[if_pos f]at h;cases h
 ·rw[if_neg d]at h;exact absurd h d
theorem keys_in(h:Al p=0):(∀x∈keysOf p side,0<=x/\x<((As p side).length:Int))/\(keysOf p side).length<=4:=by
 obtain⟨_,_,e,_,d⟩:=Bj h;have f:=DI e;unfold keysOf As;split
 ·exact⟨d.2.1.2.2.1.1,ϟ⟩
 ·exact⟨d.2.1.2.1.1,ϟ⟩
theorem Q2{l:List Int}(h:l.length<=8)(j:∀x∈l,0<=x/\x<(r.length:Int))(f:EA r=0)(k:Cj r):rowOk (BB r l):=by
 refine⟨by unfold BB;rw[lMp];exact h,λc e=>?_⟩;obtain⟨i,g,rfl⟩:=mem_map.1 e;have:=j i g;have d:r.getD i.toNat ϰ∈r:=D4 ϟ;exact⟨Lk f _ d,k _ d⟩
theorem Lx{x y:Int}(h1:s=t)(d:a=b)(e:x=y):Ending.returned (.tuple #[.string s,.bool a,vI x])= .returned (.tuple #[.string t,.bool b,vI y]):=by rw[h1,d,e]
theorem Py(p:Pln)(x:PA)(side:Int)(H:Ϝ)(P:Nat)(r:List Cel)(w:ϛ)(hw:wfPlan p)(hp:planAt w p x)(hr:vl.rowAt w H r)(al:Cj r)(ak:r.length<=χ):
 η 56 #[Ak p x,vI side,vS H r.length P] w (θ w (.tuple #[.string (Ap p side r),.bool (hasB p side r),vI (Be p side r)])):=by
 have C:=hIz (λ(k:ϛ) (f:Ϟ w k)=>Wd p x side H P r k hw (Aj hp f) (Ac hr f) al ak);have D:=hIz (λ(k:ϛ)=>XK p x side k);have O:ϝ (∀k,Be p side r=0->Ϟ w k->CT 107 #[vS H r.length P,vS (kA x side) (keysOf p side).length (kC x side)] k λe w'=>(∃y E,e= .returned (vS y (Cp p side r).length E)/\A4 w' k (vS y (Cp p side r).length E) (Cp p side r))/\Ϟ k w'):=λk o f=>by
  have h:=D7 o;have u:=keys_in (side:=side) h.1;exact ZT H (kA x side) P (kC x side) r (keysOf p side) k ak ϟ (Ac hr f) (Au (Gs hp side) f) (by rw[h.2.2.1];exact u.1)
 have T:ϝ (Be p side r=0->rowOk (Cp p side r)):=λo=>by
  have h:=D7 o;have u:=keys_in (side:=side) h.1;exact Q2 ϟ (by rw[h.2.2.1];exact u.1) h.2.2.2.1 al
 have K:ϝ (hasB p side r=(decide (Be p side r=0)&& !FD (Cp p side r))):=rfl;have L:ϝ (Ap p side r=⟨(if hasB p side r=true then encR (Cp p side r)else []).toArray⟩):=rfl;obtain⟨re,F⟩:=nM (Be p side r);obtain⟨d,J⟩:=nM (Cp p side r);obtain⟨f,Q⟩:=nM (hasB p side r);obtain⟨v,aj⟩:=nM (Ap p side r);obtain⟨ca,a6⟩:=nM (cA x side);obtain⟨cc,a7⟩:=nM (cC x side);obtain⟨ka,ag⟩:=nM (kA x side);obtain⟨kc,ah⟩:=nM (kC x side);obtain⟨cn,a8⟩:=nM ((As p side).length);obtain⟨kn,ai⟩:=nM ((keysOf p side).length);obtain⟨n,R⟩:=nM r.length;rw[F,R]at C;rw[ag,ah,ai]at D;rw[F,ag,ah,ai,J,R]at O;rw[F,J]at T;rw[F,J,Q]at K;rw[Q,J,aj]at L;rw[aj,Q,F,R];clear F J Q aj a6 a7 ag ah a8 ai R hp hw hr al ak;obtain⟨q,hq⟩:=nM d.length;have B:=hV0 hq;rw[hq]at O;clear hq;obtain⟨bj,bo,bn,bg,bs,bk,left,right,bb,bc,bd,a2,a1⟩:=p;obtain⟨l,lc,rr,rc,lk,bm,rk,br,g,gc,a,ac⟩:=x;unfold Ak at C D⊢;dsimp only at C D⊢;obtain⟨n6,X⟩:∃n,left.length=n:=⟨_,rfl⟩;obtain⟨n7,Y⟩:∃n,right.length=n:=⟨_,rfl⟩;obtain⟨n8,Z⟩:∃n,bb.length=n:=⟨_,rfl⟩;obtain⟨n9,h9⟩:∃n,bc.length=n:=⟨_,rfl⟩;obtain⟨bp,V⟩:∃n,a2.length=n:=⟨_,rfl⟩;obtain⟨bq,W⟩:∃n,a1.length=n:=⟨_,rfl⟩;rw[X,Y,Z,h9,V,W]at C D;rw[X,Y,Z,h9,V,W];clear X Y Z h9 V W;go_enter func56,ntmps56;go_wp2_with fail;refine(C.o _ Ϫ).mono ?_;rintro e k ⟨rfl,aa⟩;have ab:=Ϫ.trans (aa.mono ϡ);obtain⟨a5,a9⟩:=D3 aa;by_cases o:re=0
 ·subst o;have S:ϝ (rowOk d):=T.o rfl;have HH:=hV0 K.o;clear T K;go_wp2_with fail;refine(D.o _).mono ?_;rintro e w2 ⟨rfl,aq⟩;have ae:=bT ab aq;go_wp2_with fail;refine(O.o _ ϧ ae).mono ?_;rintro e w3 ⟨⟨y,E,rfl,ax⟩,au⟩;have a4:=bT ae au;have an:ϝ (vl.rowAt w3 y d):=by
   have:=E6 (r:=d) (cap:=E) (ad:=y) (base:=w2.heap.size) (w:=w3) (by rw[B.o];exact ax);exact this
  clear a5 a9 C D O aa aq au ax ab ae;have bi:q<=8:=by have:=S.o.1;rw[B.o]at this;exact this
  go_wp2
  go_loopw [12,29] (λ_ i wr=> ∃j:Nat,j<=q/\i=vI j/\Ϟ w3 wr/\∀i,i<j->(d.getD i ϰ).k≠0) (λ_ i _=>q - (intOf i).toNat)
  case atStart=>exact⟨0,Nat.zero_le _,rfl,bR,λi I=>absurd I (Nat.not_lt_zero i)⟩
  case round=>
   obtain⟨j,hj,rfl,A,ap⟩:=hrel;have am:=hV0 ap;have ba:=A.size;have af:=bT a4 A;clear ap;by_cases aw:j<q
   ·obtain⟨b1,o1,e1,x1,x2,x3⟩:=an.o j (by rw[B.o];exact aw);subst e1;have q1:=cLz A x1;have q2:=cLz A x2;have q3:=cLz A x3;have M:ϝ ((d.getD j ϰ).k=0->FD d=true):=λh=>Px (by rw[B.o];exact aw) h;have N:ϝ ((d.getD j ϰ).k≠0->∀i,i<j+1->(d.getD i ϰ).k≠0):=λh i I=>by
     rcases Nat.lt_succ_iff_lt_or_eq.1 I with U|U
     ·exact am.o i U
     ·rw[U];exact h
    obtain⟨⟨kv,nv,sv⟩,av⟩:∃z,d.getD j ϰ=z:=⟨_,rfl⟩;rw[av]at q1 q2 q3 M N;dsimp only at q1 q2 q3 M N;have i1:(0:Int)<=(j:Int):=ϟ;have i2:(j:Int)<(q:Int):=ϟ;clear av x1 x2 x3;by_cases u:kv=0
    ·subst u;have m:ϝ (f=false):=by show f=false;rw[HH.o,M.o rfl];rfl
     have G:ϝ (v=⟨#[]⟩):=by show v=_;rw[L.o,m.o];rfl
     go_wp2
     go_ret3
     exact⟨Lx G.o.symm m.o.symm rfl,af.alloc af.size _⟩
    ·have bh:(kv==0)=false:=by simpa using u
     have ao:=N.o u;have a0:ϝ (∀i,i<j+1->(d.getD i ϰ).k≠0):=ao;clear u ao N M;go_wp2;go_roundw
     case rel=>exact⟨j+1,ϟ,by go_num,A.alloc ba _,a0.o⟩
     case measure=>simp[intOf];omega
   ·have az:ϝ (FD d=false):=Sp (λi I=>am.o i (by rw[B.o]at I;omega));have m:ϝ (f=true):=by show f=true;rw[HH.o,az.o];rfl
    have G:ϝ (v=⟨(encR d).toArray⟩):=by show v=_;rw[L.o,m.o];rfl
    have KK:ϝ (CT 109 #[vS y q E] wr (θ wr (.tuple #[.string (FV d),ω]))):=by
     have:=vl.Adj y E d wr (Ac an.o A) S.o;rwa[B.o]at this
    have ay:ϝ (FV d=v):=by
     show FV d=v;rw[G.o];apply str_eq;rw[K8 S.o]
    go_wp2_with fail;refine KK.o.mono ?_;rintro e w4 ⟨rfl,a3⟩;go_wp2
    go_ret3
    exact⟨Lx ay.o m.o.symm rfl,bT af a3⟩
 ·have be:(re !=0)=true:=by simpa using o
  have m:ϝ (f=false):=by show f=false;rw[K.o,decide_eq_false o];rfl
  have G:ϝ (v=⟨#[]⟩):=by show v=_;rw[L.o,m.o];rfl
  clear o;go_wp2
  go_ret3
  exact⟨Lx G.o.symm m.o.symm rfl,ab⟩
theorem Q3(h1:s=t)(d:a=b):Ending.returned (.tuple #[.string s,.bool a])= .returned (.tuple #[.string t,.bool b]):=by rw[h1,d]
theorem ZU(r:List Cel)(l:List Int)(k:Nat)(h:k<l.length):(BB r l).getD k ϰ=r.getD (l.getD k 0).toNat ϰ:=by
 unfold BB;simp[gDe,h]
theorem N6(p:Pln)(x:PA)(side:Int)(ar:Ϝ)(cr:Nat)(r:List Cel)(w:ϛ)(hw:wfPlan p)(hp:planAt w p x)(h0:Be p side r=0)(hr:vl.rowAt w ar r)(ba:Cj r)(bc:r.length<=χ):
 η 45 #[Ak p x,vI side,vS ar r.length cr] w (θ w (.tuple #[.string (Ap p side r),.bool (hasB p side r)])):=by
 have h:=D7 h0;have y:=keys_in (side:=side) h.1;have a6:=y.2;have aq:ϝ (rowOk (Cp p side r)):=Q2 ϟ (by rw[h.2.2.1];exact y.1) h.2.2.2.1 ba;have HH:ϝ (hasB p side r= !FD (Cp p side r)):=by show(decide (Be p side r=0)&& !FD (Cp p side r))=_;rw[decide_eq_true h0];rfl
 have S:ϝ (Ap p side r=⟨(if hasB p side r=true then encR (Cp p side r)else []).toArray⟩):=rfl;have HA:=hV0 hr;have HL:ϝ (AA w (kA x side) (keysOf p side)):=Gs hp side;have HP:ϝ (∀i,i<(keysOf p side).length->0<=(keysOf p side).getD i 0/\(keysOf p side).getD i 0<(r.length:Int)):=λi q=>by rw[h.2.2.1];exact y.1 _ (D4 q)
 have aa:ϝ (∀k,k<(keysOf p side).length->BB r ((keysOf p side).take (k+1))=BB r ((keysOf p side).take k)++[r.getD ((keysOf p side).getD k 0).toNat ϰ]):=λk y=>by
  show BB r ((keysOf p side).take (k+1))=_;rw[N5 _ k y];simp[BB]
 have T:ϝ (∀k,(keysOf p side).length<=k->BB r ((keysOf p side).take k)=Cp p side r):=λk y=>by
  show BB r ((keysOf p side).take k)=_;rw[take_of_length_le y];rfl
 have ab:ϝ (∀k,(BB r ((keysOf p side).take k)).length<=(keysOf p side).length):=λk=>by
  show(BB r ((keysOf p side).take k)).length<=_;unfold BB;rw[lMp,length_take];omega
 have af:ϝ (∀k,k<(keysOf p side).length->(Cp p side r).getD k ϰ=r.getD ((keysOf p side).getD k 0).toNat ϰ):=λk y=>ZU r _ k y;have C:ϝ ((Cp p side r).length=(keysOf p side).length):=by show(Cp p side r).length=_;unfold Cp BB;rw[lMp]
 have ah:ϝ (∀j,j<(keysOf p side).length->((Cp p side r).getD j ϰ).k=0->FD (Cp p side r)=true):=λj hj h=>Px (by rw[C.o];exact hj) h;have ag:ϝ ((∀i,i<(keysOf p side).length->((Cp p side r).getD i ϰ).k≠0)->FD (Cp p side r)=false):=λh=>Sp (λi q=>h i (by rw[C.o]at q;exact q));have K:ϝ (side=2->kA x side=x.rk/\kC x side=x.rkc/\(keysOf p side).length=p.rkeys.length):=λh=>by show kA x side=x.rk/\kC x side=x.rkc/\_;unfold kA kC keysOf;simp only[if_pos h];exact⟨trivial,trivial,trivial⟩
 have J:ϝ (¬side=2->kA x side=x.lk/\kC x side=x.lkc/\(keysOf p side).length=p.lkeys.length):=λh=>by show kA x side=x.lk/\kC x side=x.lkc/\_;unfold kA kC keysOf;simp only[if_neg h];exact⟨trivial,trivial,trivial⟩
 obtain⟨d,a7⟩:=nM (Cp p side r);obtain⟨Q,a3⟩:=nM (hasB p side r);obtain⟨R,a8⟩:=nM (Ap p side r);obtain⟨ka,a4⟩:=nM (kA x side);obtain⟨kc,a5⟩:=nM (kC x side);obtain⟨H,a9⟩:=nM (keysOf p side);rw[a7]at aq HH S T af C ah ag;rw[a3]at HH S⊢;rw[a8]at S⊢;rw[a4]at HL J K;rw[a5]at J K;rw[a9]at HL HP aa T ab af C ah ag J K a6;obtain⟨I,a0⟩:=nM H.length;have a2:=hV0 a0;rw[a0]at HP aa T ab af C ah ag J K a6;obtain⟨m,hm⟩:=nM r.length;have HM:=hV0 hm;rw[hm]at HP bc⊢;clear a7 a3 a8 a4 a5 a9 a0 hm h y h0 hp hw hr ba;obtain⟨bk,bp,bo,bj,bs,bm,left,right,bd,be,bi,bh,bg⟩:=p;obtain⟨l,lc,rr,rc,lk,bn,rk,bq,g,gc,a,ac⟩:=x;unfold Ak;dsimp only at J K⊢;obtain⟨n8,h8⟩:∃n,bd.length=n:=⟨_,rfl⟩;obtain⟨n9,h9⟩:∃n,be.length=n:=⟨_,rfl⟩;rw[h8]at J⊢;rw[h9]at K⊢;clear h8 h9;by_cases s2:side=2
 ·subst s2;obtain⟨rfl,rfl,rfl⟩:=K.o rfl;clear J K;go_enter func45,ntmps45;go_wp2
  go_loopw [9,10] (λv i wr=> ∃k:Nat,k<=I/\i=vI k/\A4 wr w v (BB r (H.take k))/\Ϟ w wr/\∀i,i<k->(d.getD i ϰ).k≠0) (λ_ i _=>I - (intOf i).toNat)
  case atStart=>exact⟨0,Nat.zero_le _,rfl,World.ownsRow_nil _ _ _ _,Ϫ,λi q=>absurd q (Nat.not_lt_zero i)⟩
  case round=>
   obtain⟨k,y,rfl,an,f,ak⟩:=hrel;have u:=hV0 an;have ae:=hV0 ak;have W:=f.size;clear an ak;by_cases E:k<I
   ·obtain⟨b,o,e,Z⟩:=HL.o k (by rw[a2.o];exact E);subst e;have V:=HP.o k E;have B:=aa.o k E;have A:=af.o k E;obtain⟨z,hz⟩:=nM (H.getD k 0);rw[hz]at Z V B A;obtain⟨P,rfl⟩:=Int.eq_ofNat_of_zero_le V.1;rw[Int.toNat_natCast]at B A;obtain⟨b1,o1,e1,x1,x2,x3⟩:=HA.o P (by rw[HM.o];omega);subst e1;have qk:=cLz f Z;have q1:=cLz f x1;have q2:=cLz f x2;have q3:=cLz f x3;obtain⟨⟨G,X,Y⟩,al⟩:∃z,r.getD P ϰ=z:=⟨_,rfl⟩;rw[al]at q1 q2 q3 B A;dsimp only at q1 q2 q3;have aj:ϝ (BB r (H.take (k+1))=BB r (H.take k)++[⟨G,X,Y⟩]):=B;have ad:ϝ (d.getD k ϰ=⟨G,X,Y⟩):=A;have i1:(0:Int)<=(k:Int):=ϟ;have i2:(k:Int)<(I:Int):=ϟ;have i3:(0:Int)<=(P:Int):=ϟ;have i4:(P:Int)<(m:Int):=ϟ;have a1:=ab.o k;obtain⟨pr,ap⟩:=nM (BB r (H.take k));rw[ap]at u aj a1;clear Z x1 x2 x3 hz al B A V ap;by_cases O:G=0
    ·subst O;have D:ϝ (Q=false):=by show Q=false;rw[HH.o,ah.o k E (by rw[ad.o])];rfl
     have L:ϝ (R=⟨#[]⟩):=by show R=_;rw[S.o,D.o];rfl
     go_wp2
     go_ret2
     exact⟨Q3 L.o.symm D.o.symm,f⟩
    ·have bb:(G==0)=false:=by simpa using O
     have aw:ϝ (∀i,i<k+1->(d.getD i ϰ).k≠0):=λi q=>by
      rcases Nat.lt_succ_iff_lt_or_eq.1 q with U|U
      ·exact ae.o i U
      ·rw[U,ad.o];exact O
     clear O;go_wp2_with (at_builtin;refine Es rfl (.tmp 32) (.tmp 40) rfl w.heap.size u9 pr rfl wr u.o ⟨G,X,Y⟩ wr.heap.size rfl rfl ϟ W ?_;intro v2 w3 ao az);obtain⟨M,N,F,_⟩:=C0 ao;have ay:=D8 f W u.o az;subst F;go_roundw
     case rel=>exact⟨k+1,ϟ,by go_num,by rw[aj.o];exact ao,ay,aw.o⟩
     case measure=>simp[intOf];omega
   ·have ai:=T.o k ϟ;have au:ϝ (FD d=false):=ag.o (λi q=>ae.o i ϟ);have D:ϝ (Q=true):=by show Q=true;rw[HH.o,au.o];rfl
    have L:ϝ (R=⟨(encR d).toArray⟩):=by show R=_;rw[S.o,D.o];rfl
    obtain⟨M,N,F,_⟩:=C0 u.o;rw[ai]at u F;rw[C.o]at F;subst F;have av:ϝ (vl.rowAt wr M d):=E6 (cap:=N) (base:=w.heap.size) (by rw[C.o];exact u.o);have KK:ϝ (CT 85 #[vS M I N] wr (θ wr (.string ⟨(encR d).toArray⟩))):=by
     have:=vl.I0 M N d wr av.o aq.o;rwa[C.o]at this
    obtain⟨kb,am⟩:=nM (⟨(encR d).toArray⟩:ByteArray);rw[am]at KK L;clear ai T aa ab am;go_wp2_with fail;refine KK.o.mono ?_;rintro e w4 ⟨rfl,ax⟩;go_wp2
    go_ret2
    exact⟨Q3 L.o.symm D.o.symm,f.trans (ax.mono W)⟩
 ·obtain⟨rfl,rfl,rfl⟩:=J.o s2;have br:(side==2)=false:=by simpa using s2
  clear J K s2;go_enter func45,ntmps45;go_wp2
  go_loopw [9,10] (λv i wr=> ∃k:Nat,k<=I/\i=vI k/\A4 wr w v (BB r (H.take k))/\Ϟ w wr/\∀i,i<k->(d.getD i ϰ).k≠0) (λ_ i _=>I - (intOf i).toNat)
  case atStart=>exact⟨0,Nat.zero_le _,rfl,World.ownsRow_nil _ _ _ _,Ϫ,λi q=>absurd q (Nat.not_lt_zero i)⟩
  case round=>
   obtain⟨k,y,rfl,an,f,ak⟩:=hrel;have u:=hV0 an;have ae:=hV0 ak;have W:=f.size;clear an ak;by_cases E:k<I
   ·obtain⟨b,o,e,Z⟩:=HL.o k (by rw[a2.o];exact E);subst e;have V:=HP.o k E;have B:=aa.o k E;have A:=af.o k E;obtain⟨z,hz⟩:=nM (H.getD k 0);rw[hz]at Z V B A;obtain⟨P,rfl⟩:=Int.eq_ofNat_of_zero_le V.1;rw[Int.toNat_natCast]at B A;obtain⟨b1,o1,e1,x1,x2,x3⟩:=HA.o P (by rw[HM.o];omega);subst e1;have qk:=cLz f Z;have q1:=cLz f x1;have q2:=cLz f x2;have q3:=cLz f x3;obtain⟨⟨G,X,Y⟩,al⟩:∃z,r.getD P ϰ=z:=⟨_,rfl⟩;rw[al]at q1 q2 q3 B A;dsimp only at q1 q2 q3;have aj:ϝ (BB r (H.take (k+1))=BB r (H.take k)++[⟨G,X,Y⟩]):=B;have ad:ϝ (d.getD k ϰ=⟨G,X,Y⟩):=A;have i1:(0:Int)<=(k:Int):=ϟ;have i2:(k:Int)<(I:Int):=ϟ;have i3:(0:Int)<=(P:Int):=ϟ;have i4:(P:Int)<(m:Int):=ϟ;have a1:=ab.o k;obtain⟨pr,ap⟩:=nM (BB r (H.take k));rw[ap]at u aj a1;clear Z x1 x2 x3 hz al B A V ap;by_cases O:G=0
    ·subst O;have D:ϝ (Q=false):=by show Q=false;rw[HH.o,ah.o k E (by rw[ad.o])];rfl
     have L:ϝ (R=⟨#[]⟩):=by show R=_;rw[S.o,D.o];rfl
     go_wp2
     go_ret2
     exact⟨Q3 L.o.symm D.o.symm,f⟩
    ·have bb:(G==0)=false:=by simpa using O
     have aw:ϝ (∀i,i<k+1->(d.getD i ϰ).k≠0):=λi q=>by
      rcases Nat.lt_succ_iff_lt_or_eq.1 q with U|U
      ·exact ae.o i U
      ·rw[U,ad.o];exact O
     clear O;go_wp2_with (at_builtin;refine Es rfl (.tmp 32) (.tmp 40) rfl w.heap.size u9 pr rfl wr u.o ⟨G,X,Y⟩ wr.heap.size rfl rfl ϟ W ?_;intro v2 w3 ao az);obtain⟨M,N,F,_⟩:=C0 ao;have ay:=D8 f W u.o az;subst F;go_roundw
     case rel=>exact⟨k+1,ϟ,by go_num,by rw[aj.o];exact ao,ay,aw.o⟩
     case measure=>simp[intOf];omega
   ·have ai:=T.o k ϟ;have au:ϝ (FD d=false):=ag.o (λi q=>ae.o i ϟ);have D:ϝ (Q=true):=by show Q=true;rw[HH.o,au.o];rfl
    have L:ϝ (R=⟨(encR d).toArray⟩):=by show R=_;rw[S.o,D.o];rfl
    obtain⟨M,N,F,_⟩:=C0 u.o;rw[ai]at u F;rw[C.o]at F;subst F;have av:ϝ (vl.rowAt wr M d):=E6 (cap:=N) (base:=w.heap.size) (by rw[C.o];exact u.o);have KK:ϝ (CT 85 #[vS M I N] wr (θ wr (.string ⟨(encR d).toArray⟩))):=by
     have:=vl.I0 M N d wr av.o aq.o;rwa[C.o]at this
    obtain⟨kb,am⟩:=nM (⟨(encR d).toArray⟩:ByteArray);rw[am]at KK L;clear ai T aa ab am;go_wp2_with fail;refine KK.o.mono ?_;rintro e w4 ⟨rfl,ax⟩;go_wp2
    go_ret2
    exact⟨Q3 L.o.symm D.o.symm,f.trans (ax.mono W)⟩
end pl
namespace bt
open vl pl
end bt
namespace bt
open vl pl
def AE(n:Nat):List Cel:=List.replicate n ⟨0,0,⟨#[]⟩⟩
def GH(p:Pln)(l r:Int):Bool:=if p.kind=1 then tm.D9 l r p.low p.high else decide (tm.start l p.size=tm.start r p.size)
def Q4(p:Pln):Bool:=decide (p.mode=2\/p.mode=4)
def Q5(p:Pln):Bool:=decide (p.mode=3\/p.mode=4)
end bt
namespace pl
open vl
theorem N7{j:Array Oper}{rest:List Oper}{o:Oper}{a:Act}{Q:Exit->Act->World->Prop}(y:o.guard=none)(s x:Operand)
 (A:o.op= .call {callee:=.builtin .append,args:=#[s,x],argTypes:=#[22,22]}) (base:Nat) (v:Value) (l:List Int) (D:a.eval s=v) (d:ϛ)
 (C:Dm d base v l) (n:Int) (B:Nat) (q:d.heap.size=B) (E:a.eval x=vS (τ B) 1 1) (K:l.length<=1000000) (J:base<=d.heap.size)
 (h:∀f e,Dm e base f (l++[n])->(d.alloc (.cells #[vI n] 3)).grownBy e v.ownBlock->wpList Tryz.prog j Q rest (a.put o.dst f) e):
 wpList Tryz.prog j Q (o::rest) a (ξ d #[vI n] 3):=by
 subst q;obtain⟨I,z,F,G,H⟩:=info_parts Tryz.info3;refine wpList_append_own _ y s x 22 A base 3 I (vI 0) 1 8 underlying22 z F G H rfl Ϡ v l.length (l.map FY) D
  (World.ownsRow.alloc C _) ⟨d,0,none⟩ 1 1 [vI n] E rfl (cell_one_new _ _ _) (by intro u g;simp at g;subst g;rfl) ϩ ϟ Ϥ ?_
 intro f e k m _;refine h f e ?_ m;unfold Dm;rw[lAp,map_append];exact k
theorem Jo{base:Nat}{w d e:ϛ}{v:Value}{l:List Int}{o:Obj}(f:Below base w d)(h0:base<=d.heap.size)(j:Dm d base v l)(g:(d.alloc o).grownBy e v.ownBlock):Below base w e:=
 (f.alloc h0 o).grown g Ϥ (λk h=>(World.ownsRow.lt j k h).1)
theorem Q6(g h:Ϝ)(v y:Nat)(l:List Int)(w:ϛ)(h1:AA w g l)(j:AA w h l)(C:l.length<=1000000):
 η 21 #[vS g l.length v,vS h l.length y] w (θ w (.bool true)):=by
 obtain⟨n,e⟩:=nM l.length;have f:=hV0 e;rw[e]at C⊢;clear e;have I:((n:Int) !=n)=false:=ϡ;go_enter func21,ntmps21;go_wp2
 go_loopw [5] (λi wr=> ∃k:Nat,k<=n/\i=vI k/\Ϟ w wr) (λi _=>n - (intOf i).toNat)
 case atStart=>exact⟨0,Nat.zero_le _,rfl,bR⟩
 case round=>
  obtain⟨k,H,rfl,d⟩:=hrel;by_cases m:k<n
  ·obtain⟨F,M,A,q⟩:=h1 k (by rw[f.o];exact m);obtain⟨G,N,B,u⟩:=j k (by rw[f.o];exact m);subst A B;have D:=cLz d q;have E:=cLz d u;obtain⟨z,o⟩:=nM (l.getD k 0);rw[o]at D E;clear q u o h1 j;have K:(0:Int)<=(k:Int):=ϟ;have L:(k:Int)<(n:Int):=ϟ;have J:(z !=z)=false:=ϡ;go_wp2
   go_quiet (fail)
   go_wp2;go_roundw
   case rel=>exact⟨k+1,ϟ,by go_num,Dz d _⟩
   case measure=>simp[intOf];omega
  ·go_wp2;go_ret;exact⟨rfl,d⟩
end pl
namespace bt
open vl pl
theorem wrapN(x:Int):IntKind.i64.wrap x=(x+9223372036854775808) % 18446744073709551616 - 9223372036854775808:=by
 simp only[IntKind.wrap,IntKind.signed,IntKind.bits];simp;split<;>omega
end bt
end Go.Proofs.YtdohnkkbkfhphaaGreat
