import Derived.Test.YtfkihidbnfkbaaaGreatDoorPv9
import Derived.Test.YtfkihidbnfkbaaaGreatDoorPv11
set_option linter.all false
set_option maxHeartbeats 8000000
set_option maxRecDepth 100000
open Go.ChangeShapes Go.WideShapes Go.ChangeAt Go.RowKit List
open Inhabited renaming default->ϰ
namespace Go.Proofs.YtfkihidbnfkbaaaGreatDoor
open Go.Proofs.Tryz
namespace pl
open vl
variable {side t : Int} {a b : Bool} {c : List Int} {p : Pln} {w : Ϡ} {x : PA} {r : List Cel} {i : Nat} {s : ByteArray}
theorem Ta:fit t↔tm.Bt t=true:=by rw[tm.KY];exact Iff.rfl
theorem N8(h:fit t):tm.Bt t=true:=Ta.1 h
def LI(m s:Int):Int:=if m=1099511627776 then 1099511627776 else m - s
theorem ET{a b c d:Int}(h1:a=c)(e:b=d):Ending.returned (.tuple #[vI a,vI b])= .returned (.tuple #[vI c,vI d]):=by rw[h1,e]
theorem AdC(m s:Int)(w:Ϡ)(g:fit m)(j:fit s):
 χ 359 #[vI m,vI s] w (ψ w (.tuple #[vI (LI m s),Ϗ])):=by
 have h:tm.Ac4 m s=true:=by unfold tm.Ac4;rw[N8 g,N8 j];rfl
 obtain⟨l,n⟩:=g;obtain⟨o,q⟩:=j;by_cases e:m=1099511627776
 ·subst e;have d:Ϣ (LI 1099511627776 s=1099511627776):=rfl;go_enter func359,ntmps359;go_wp2_with (go_at_call 366;refine(tm.Wx _ 1099511627776 s _ Ϩ Ϩ).mono ?_;rintro e k ⟨rfl,f⟩;subst f)
  go_ret2
  refine⟨ET d.o.symm rfl,?_⟩
  repeat (first|exact bR|apply Below.drew|(refine Below.alloc ?_ ϫ _))
 ·have u:(m==1099511627776)=false:=by simpa using e
  have d:Ϣ (LI m s=m - s):=if_neg e;clear e;go_enter func359,ntmps359;go_wp2_with (go_at_call 366;refine(tm.Wx _ m s _ Ϩ Ϩ).mono ?_;rintro e k ⟨rfl,f⟩;subst f)
  go_ret2
  refine⟨ET d.o.symm rfl,?_⟩
  repeat (first|exact bR|apply Below.drew|(refine Below.alloc ?_ ϫ _))
def Yz(mark size:Int):Int:=if mark=1099511627776 then 1099511627776 else tm.start (mark+1) size - 1
def GW(p:Pln)(side mark:Int):Int:=
 if p.kind=1 then LI mark (if side=2 then -p.low else p.high)else if p.kind=2 then Yz mark p.size else if side=2 then -1099511627777 else mark
def B8(side:Int):Bool:=decide (side=1\/side=2)
def MH(p:Pln)(side mark:Int):Int:=if Ag p=0 then(if B8 side=true then(if tm.Bt mark=true then 0 else 3)else 4)else Ag p
def PW(p:Pln)(side mark:Int):Int:=if MH p side mark=0 then GW p side mark else 0
theorem Dz(side:Int)(w:Ϡ):χ 210 #[vI side] w λe g=>e= .returned (.bool (B8 side))/\g=w:=by
 by_cases d:side=1
 ·subst d;go_enter func210,ntmps210;go_wp2;go_ret;exact⟨rfl,rfl⟩
 ·have h:(side==1)=false:=by simpa using d
  have f:Ϣ (B8 side=(side==2)):=by show B8 side=_;unfold B8;exact Bool.eq_iff_iff.2 (by simp[d])
  clear d;go_enter func210,ntmps210;go_wp2;go_ret;exact⟨Aa f.o.symm,rfl⟩
theorem Y0(p:Pln)(x:PA)(side:Int)(w:Ϡ)(e:fit p.low):
 χ 360 #[Aj p x,vI side] w (ψ w (vI (if side=2 then -p.low else p.high))):=by
 obtain⟨v,E,D,q,J,z,left,right,C,I,m,k,h⟩:=p;obtain⟨l,y,r,F,A,B,G,H,g,j,a,f⟩:=x;unfold Aj;dsimp only at e⊢;obtain⟨n,o⟩:=e;by_cases d:side=2
 ·subst d;rw[if_pos rfl];go_enter func360,ntmps360;go_wp2;go_ret;exact⟨Ad (by first|rfl|omega),ϯ⟩
 ·have u:(side==2)=false:=by simpa using d
  rw[if_neg d];clear d;go_enter func360,ntmps360;go_wp2;go_ret;exact⟨rfl,ϯ⟩
theorem Tb(d size:Int)(w:Ϡ)(m:fit d)(h1:1<=size)(k:size<=1099511627776):
 χ 361 #[vI d,vI size] w (ψ w (.tuple #[vI (Yz d size),Ϗ])):=by
 obtain⟨v,y⟩:=m;by_cases e:d=1099511627776
 ·subst e;have f:Ϣ (Yz 1099511627776 size=1099511627776):=rfl;go_enter func361,ntmps361;go_wp2
  go_ret2
  exact⟨ET f.o.symm rfl,bR⟩
 ·have z:(d==1099511627776)=false:=by simpa using e
  have l:tm.Bt (d+1)=true:=N8 ⟨Ϥ,Ϥ⟩;have f:Ϣ (Yz d size=tm.start (d+1) size - 1):=if_neg e;have o:=tm.ZK (d+1) size Ϥ;obtain⟨q,u⟩:=o;clear e;have K:Ϣ (∀g,CT 367 #[vI (d+1),vI size] g λe j=>e= .returned (.tuple #[vI (tm.start (d+1) size),vI (tm.start (d+1) size+size),Ϗ])/\j=g):=λg=>tm.Ux (d+1) size g l h1 k;obtain⟨A,h⟩:=nM (tm.start (d+1) size);rw[h]at K f q u;clear h;go_enter func361,ntmps361;go_wp2_with (go_at_call 367;refine(K.o _).mono ?_;rintro e j ⟨rfl,n⟩;subst n)
  go_ret2
  exact⟨ET f.o.symm rfl,bR⟩
theorem AfO(h:Ag p=0)(d:p.kind=1):fit p.low/\fit p.high:=by
 have:=(Bv h).2.1.1;rw[if_pos d]at this;exact this
theorem ok_2(h:Ag p=0)(d:p.kind=2):1<=p.size/\p.size<=1099511627776:=by
 have:=(Bv h).2.1.2.1;rw[if_pos d]at this;exact this
theorem AdD(h:fit t):fit (-t):=by unfold fit at *;omega
def GY(pe:Int)(sb fb:Bool):Int:=if pe=0 then(if sb=true then(if fb=true then 0 else 3)else 4)else pe
theorem Kz(p:Pln)(x:PA)(side f:Int)(w:Ϡ)(d:wfPlan p)(hp:planAt w p x):
 χ 349 #[Aj p x,vI side,vI f] w (ψ w (.tuple #[vI (PW p side f),vI (MH p side f)])):=by
 have H:Ϣ (∀j,ϣ w j->CT 32 #[Aj p x] j (ψ j (vI (Ag p)))):=λj hb=>Dd p x j d (Ae hp hb);have m:Ϣ (MH p side f=GY (Ag p) (B8 side) (tm.Bt f)):=rfl;have k:Ϣ (PW p side f=if GY (Ag p) (B8 side) (tm.Bt f)=0 then GW p side f else 0):=rfl;have q:Ϣ (∀j,Ag p=0->p.kind=1->CT 360 #[Aj p x,vI side] j (ψ j (vI (if side=2 then -p.low else p.high)))):=λj h I=>Y0 p x side j (AfO h I).1;have u:Ϣ (Ag p=0->p.kind=1->fit (if side=2 then -p.low else p.high)):=λh I=>by
  have:=AfO h I;split
  ·exact AdD this.1
  ·exact this.2
 have D:Ϣ (Ag p=0->p.kind=2->1<=p.size/\p.size<=1099511627776):=λh I=>ok_2 h I;have v:Ϣ (p.kind=1->GW p side f=LI f (if side=2 then -p.low else p.high)):=λh=>if_pos h;have B:Ϣ (p.kind=2->GW p side f=Yz f p.size):=λh=>by show GW p side f=_;unfold GW;rw[if_neg Ϥ,if_pos h]
 have C:Ϣ (¬p.kind=1->¬p.kind=2->GW p side f=if side=2 then -1099511627777 else f):=λh1 h2=>by show GW p side f=_;unfold GW;rw[if_neg h1,if_neg h2]
 obtain⟨N,ae⟩:=nM (Ag p);rw[ae]at H m k q u D;obtain⟨Y,af⟩:=nM (if side=2 then -p.low else p.high);rw[af]at q u v;obtain⟨O,ad⟩:=nM (PW p side f);obtain⟨ge,ab⟩:=nM (MH p side f);obtain⟨K,aa⟩:=nM (GW p side f);rw[ad]at k⊢;rw[ab]at m⊢;rw[aa]at k v B C;clear ae af ad ab aa d hp;obtain⟨M,av,au,ao,ag,ap,left,right,ar,az,al,ak,aj⟩:=p;obtain⟨l,lc,r,rc,lk,aq,rk,ay,g,gc,a,ac⟩:=x;unfold Aj at H q⊢;dsimp only at H q u D v B C⊢;obtain⟨n6,R⟩:∃n,left.length=n:=⟨_,rfl⟩;obtain⟨n7,S⟩:∃n,right.length=n:=⟨_,rfl⟩;obtain⟨n8,T⟩:∃n,ar.length=n:=⟨_,rfl⟩;obtain⟨n9,U⟩:∃n,az.length=n:=⟨_,rfl⟩;obtain⟨aw,P⟩:∃n,ak.length=n:=⟨_,rfl⟩;obtain⟨ax,Q⟩:∃n,aj.length=n:=⟨_,rfl⟩;rw[R,S,T,U,P,Q]at H q;rw[R,S,T,U,P,Q];clear R S T U P Q;go_enter func349,ntmps349;go_wp2_with fail;refine(H.o _ ϯ).mono ?_;rintro e j ⟨rfl,V⟩;have z:=ϯ.trans (V.mono Ϧ);obtain⟨a1,a2⟩:=Cu V;have a3:w.heap.size<j.heap.size:=(by have:=V.size;simp at this;omega);by_cases F:N=0
 ·subst F
  cases hsb:B8 side
  ·rw[hsb]at m k;go_wp2_with (go_at_call 210;refine(Dz _ _).mono ?_;rintro e o ⟨rfl,d⟩;subst d)
   go_ret2
   exact⟨ET (by rw[k.o];rfl) (by rw[m.o];rfl),z⟩
  rw[hsb]at m k
  cases hfb:tm.Bt f
  ·rw[hfb]at m k;go_wp2_with (first
    |(go_at_call 210;refine(Dz _ _).mono ?_;rintro e o ⟨rfl,d⟩;subst d)
    |(go_at_call 197;refine(tm.Dr _ _).mono ?_;rintro e o ⟨rfl,d⟩;subst d))
   go_ret2
   exact⟨ET (by rw[k.o];rfl) (by rw[m.o];rfl),z⟩
  rw[hfb]at m k;have Z:Ϣ (fit f):=Ta.2 hfb;have E:Ϣ (O=K):=k.o;have A:Ϣ (ge=0):=m.o;clear k m;by_cases J:M=1
  ·subst J;have HG:=v.o rfl;have y:Ϣ (K=LI f Y):=HG;have KR:Ϣ (∀j,CT 360 #[.agg #[vI 1,vI av,vI au,vI ao,vI ag,vI ap,vS l n6 lc,vS r n7 rc,vS lk n8 aq,vS rk n9 ay,.bool al,vS g aw gc,vS a ax ac],vI side] j (ψ j (vI Y))):=λj=>q.o j rfl rfl;have ah:Ϣ (fit Y):=u.o rfl rfl;clear HG q u v B C D;go_wp2_with (first
    |(go_at_call 210;refine(Dz _ _).mono ?_;rintro e o ⟨rfl,d⟩;subst d)
    |(go_at_call 197;refine(tm.Dr _ _).mono ?_;rintro e o ⟨rfl,d⟩;subst d)
    |(go_at_call 360;refine(KR.o _).mono ?_;rintro e w2 ⟨rfl,am⟩;have an:=bT z am)
    |(go_at_call 359;refine(AdC _ _ _ Z.o ah.o).mono ?_;rintro e w3 ⟨rfl,W⟩;have X:=bT an W))
   go_ret2
   exact⟨ET (by rw[E.o,y.o]) A.o.symm,X⟩
  ·have a4:(M==1)=false:=by simpa using J
   by_cases L:M=2
   ·subst L;have y:Ϣ (K=Yz f ag):=B.o rfl;have ai:=D.o rfl rfl;obtain⟨s1,G⟩:=ai;clear q u v B C D J;go_wp2_with (first
     |(go_at_call 210;refine(Dz _ _).mono ?_;rintro e o ⟨rfl,d⟩;subst d)
     |(go_at_call 197;refine(tm.Dr _ _).mono ?_;rintro e o ⟨rfl,d⟩;subst d)
     |(go_at_call 361;refine(Tb _ _ _ Z.o s1 G).mono ?_;rintro e w3 ⟨rfl,W⟩;have X:=bT z W))
    go_ret2
    exact⟨ET (by rw[E.o,y.o]) A.o.symm,X⟩
   ·have a5:(M==2)=false:=by simpa using L
    have y:Ϣ (K=if side=2 then -1099511627777 else f):=C.o J L;clear q u v B C D J L;by_cases G:side=2
    ·subst G;go_wp2_with (first
      |(go_at_call 210;refine(Dz _ _).mono ?_;rintro e o ⟨rfl,d⟩;subst d)
      |(go_at_call 197;refine(tm.Dr _ _).mono ?_;rintro e o ⟨rfl,d⟩;subst d))
     go_ret2
     exact⟨ET (by rw[E.o,y.o];rfl) A.o.symm,z⟩
    ·have a6:(side==2)=false:=by simpa using G
     rw[if_neg G]at y;clear G;go_wp2_with (first
      |(go_at_call 210;refine(Dz _ _).mono ?_;rintro e o ⟨rfl,d⟩;subst d)
      |(go_at_call 197;refine(tm.Dr _ _).mono ?_;rintro e o ⟨rfl,d⟩;subst d))
     go_ret2
     exact⟨ET (by rw[E.o,y.o]) A.o.symm,z⟩
 ·have a0:(N !=0)=true:=by simpa using F
  have A:Ϣ (ge=N):=by show ge=N;rw[m.o];exact if_neg F
  have E:Ϣ (O=0):=by
   show O=0;rw[k.o,if_neg];unfold GY;rw[if_neg F];exact F
  clear F m k;go_wp2
  go_ret2
  exact⟨ET E.o.symm A.o.symm,z⟩
def AD(p:Pln)(side:Int):List Int:=if side=2 then p.right else p.left
def keysOf(p:Pln)(side:Int):List Int:=if side=2 then p.rkeys else p.lkeys
def cA(x:PA)(side:Int):Option Addr:=if side=2 then x.r else x.l
def cC(x:PA)(side:Int):Nat:=if side=2 then x.rc else x.lc
def kA(x:PA)(side:Int):Option Addr:=if side=2 then x.rk else x.lk
def kC(x:PA)(side:Int):Nat:=if side=2 then x.rkc else x.lkc
theorem AaX(h:planAt w p x)(side:Int):Ay w (cA x side) (AD p side):=by
 unfold cA AD;split
 ·exact h.r
 ·exact h.l
theorem GV(h:planAt w p x)(side:Int):Ay w (kA x side) (keysOf p side):=by
 unfold kA keysOf;split
 ·exact h.rk
 ·exact h.lk
theorem MI(h:wfPlan p)(side:Int):(AD p side).length<=ύ:=by
 unfold AD;split
 ·exact h.r
 ·exact h.l
def DN(c:Cel)(t:Int):Bool:=decide (c.k=0\/c.k=t)
def BU(r:List Cel)(c:List Int):Bool:=decide (r.length=c.length)&&allB r.length (λi=>DN (r.getD i ϰ) (c.getD i 0))
def Y1(p:Pln)(side:Int)(r:List Cel):Int:=
 if B8 side=false then 4 else if r.length≠(AD p side).length then 2 else if Ff r≠0 then Ff r else if BU r (AD p side)=false then 5 else 0
def Bn(p:Pln)(side:Int)(r:List Cel):Int:=if Ag p=0 then Y1 p side r else Ag p
theorem Mu(p:Pln)(x:PA)(side:Int)(w:Ϡ):
 χ 280 #[Aj p x,vI side] w (ψ w (vS (cA x side) (AD p side).length (cC x side))):=by
 unfold cA cC AD;obtain⟨o,B,A,m,G,u,left,right,z,F,k,j,f⟩:=p;obtain⟨l,q,r,C,v,y,D,E,g,h,a,e⟩:=x;unfold Aj;dsimp only;by_cases d:side=2
 ·subst d;simp only[if_true];go_enter func280,ntmps280;go_wp2;go_ret;exact⟨rfl,ϯ⟩
 ·have n:(side==2)=false:=by simpa using d
  simp only[if_neg d];clear d;go_enter func280,ntmps280;go_wp2;go_ret;exact⟨rfl,ϯ⟩
theorem Y2(p:Pln)(x:PA)(side:Int)(w:Ϡ):
 χ 255 #[Aj p x,vI side] w (ψ w (vS (kA x side) (keysOf p side).length (kC x side))):=by
 unfold kA kC keysOf;obtain⟨o,B,A,m,G,u,left,right,z,F,k,j,f⟩:=p;obtain⟨l,q,r,C,v,y,D,E,g,h,a,e⟩:=x;unfold Aj;dsimp only;by_cases d:side=2
 ·subst d;simp only[if_true];go_enter func255,ntmps255;go_wp2;go_ret;exact⟨rfl,ϯ⟩
 ·have n:(side==2)=false:=by simpa using d
  simp only[if_neg d];clear d;go_enter func255,ntmps255;go_wp2;go_ret;exact⟨rfl,ϯ⟩
theorem AdE(i:Nat)(B:Nat)(ad:ϡ)(z:Nat)(c:List Int)(k n:Int)(s:ByteArray)(w:Ϡ)(l:i<c.length)(C:c.length<=ύ)(h:Ay w ad c)(g:Δ w B 0 (vS ad c.length z)):
 χ 242 #[vI i,.agg #[vI k,vI n,.string s],ω B] w (ψ w (.bool (DN ⟨k,n,s⟩ (c.getD i 0)))):=by
 have f:=bLt _ _ g;have D:B<w.heap.size:=f;obtain⟨y,I,A,u⟩:=h i l;subst A;have j:=bLt _ _ u;have E:y<w.heap.size:=j;have d:Ϣ (DN ⟨k,n,s⟩ (c.getD i 0)=decide (k=0\/k=c.getD i 0)):=rfl;obtain⟨m,o⟩:=nM c.length;obtain⟨t,q⟩:=nM (c.getD i 0);rw[o]at l C g;rw[q]at u d⊢;have G:=nn0 i;have H:(i:Int)<(m:Int):=Ϥ;clear o q h f j;by_cases e:k=0
 ·subst e;go_enter func242,ntmps242;go_wp2
  go_quiet (fail)
  go_wp2;go_ret;exact⟨Aa (by rw[d.o];simp),Dn ϯ _⟩
 ·have F:(k==0)=false:=by simpa using e
  have v:Ϣ (DN ⟨k,n,s⟩ t=(k==t)):=by show DN ⟨k,n,s⟩ t=_;rw[d.o];exact Bool.eq_iff_iff.2 (by simp[e])
  clear e d;go_enter func242,ntmps242;go_wp2
  go_quiet (fail)
  go_wp2;go_ret;exact⟨Aa v.o.symm,Dn ϯ _⟩
theorem LJ(a ad:ϡ)(g h:Nat)(r:List Cel)(c:List Int)(w:Ϡ)(y:r.length<=ύ)(v:c.length<=ύ)(ha:vl.rowAt w a r)(u:Ay w ad c):
 χ 177 #[vS a r.length g,vS ad c.length h] w (ψ w (.bool (BU r c))):=by
 have K:Ϣ (∀B d,ϣ w d->r.length=c.length->Δ d B 0 (vS ad c.length h)->
  χ 241 #[vS a r.length g,.func (.func 242) #[] #[ω B]] d (ψ d (.bool (allB r.length (λi=>DN (r.getD i ϰ) (c.getD i 0)))))):=by
  intro B d o F e0;exact Q2 242 (enters_of func242 ϧ rfl) #[ω B] (λi=>DN (r.getD i ϰ) (c.getD i 0)) a g r d y (Ac ha o)
   (λi D E q=>AdE i B ad h c _ _ _ D Ϥ v (Al (Al u o) q) (cLz q e0))
 have f:Ϣ (BU r c=(decide (r.length=c.length)&&allB r.length (λi=>DN (r.getD i ϰ) (c.getD i 0)))):=rfl;obtain⟨G,z⟩:=nM (allB r.length (λi=>DN (r.getD i ϰ) (c.getD i 0)));rw[z]at K f;obtain⟨m,n⟩:=nM r.length;obtain⟨k,l⟩:=nM c.length;rw[n,l]at K f;rw[n,l];clear n l z ha u y v;by_cases j:m=k
 ·subst j;rw[show decide (m=m)=true by simp]at f;have C:((m:Int)==m)=true:=Ϧ;go_enter func177,ntmps177;go_wp2_with (go_at_call 241;refine(K.o _ _ ϯ Ϭ Ϩ).mono ?_;rintro e d ⟨rfl,A⟩);go_ret;exact⟨Aa (by rw[f.o];simp),ϯ.trans (A.mono Ϧ)⟩
 ·have C:((m:Int)==k)=false:=ϩ;rw[decide_eq_false j]at f;clear j;go_enter func177,ntmps177;go_wp2;go_ret;exact⟨Aa (by rw[f.o];rfl),ϯ⟩
def Dt(c:List Int)(r:List Cel):Int:=if r.length≠c.length then 2 else if BU r c=false then 5 else 0
theorem AaY(e:r.length=c.length)(d:i<r.length)(h:DN (r.getD i ϰ) (c.getD i 0)=false):Dt c r=5:=by
 unfold Dt BU;rw[if_neg (by simp[e]),CP d h];simp
theorem AdF(d:r.length=c.length)(h:∀i,i<r.length->DN (r.getD i ϰ) (c.getD i 0)=true):Dt c r=0:=by
 unfold Dt BU;rw[if_neg (by simp[d]),AF.2 h,decide_eq_true d];simp
theorem GZ(a ad:ϡ)(S T:Nat)(r:List Cel)(c:List Int)(w:Ϡ)(hl:r.length<=ύ)(Y:c.length<=ύ)(ha:vl.rowAt w a r)(J:Ay w ad c):
 χ 65 #[vS ad c.length T,vS a r.length S] w (ψ w (vI (Dt c r))):=by
 have O:Ϣ (vl.rowAt w a r):=ha;have P:Ϣ (Ay w ad c):=J;have o:Ϣ (∀i,r.length=c.length->i<r.length->DN (r.getD i ϰ) (c.getD i 0)=false->Dt c r=5):=λi n W X=>AaY n W X;have u:Ϣ (r.length=c.length->(∀i,i<r.length->DN (r.getD i ϰ) (c.getD i 0)=true)->Dt c r=0):=AdF;have q:Ϣ (r.length≠c.length->Dt c r=2):=λh=>if_pos h;obtain⟨B,K⟩:=nM (Dt c r);rw[K]at o u q⊢;obtain⟨m,E⟩:=nM r.length;obtain⟨k,e⟩:=nM c.length;have R:Ϣ (r.length=m):=E;have Q:Ϣ (c.length=k):=e;rw[E]at hl o u q⊢;rw[e]at Y o u q⊢;clear K E e ha J;by_cases C:m=k
 ·subst C;have Z:((m:Int) !=m)=false:=Ϧ;go_enter func65,ntmps65;go_wp2
  go_loopw [5] (λi wr=> ∃j:Nat,j<=m/\i=vI j/\ϣ w wr/\∀i,i<j->DN (r.getD i ϰ) (c.getD i 0)=true) (λi _=>m - (intOf i).toNat)
  case atStart=>exact⟨0,Nat.zero_le _,rfl,bR,λi v=>absurd v (Nat.not_lt_zero i)⟩
  case round=>
   obtain⟨j,hj,rfl,g,I⟩:=hrel;have G:Ϣ (∀i,i<j->DN (r.getD i ϰ) (c.getD i 0)=true):=I;clear I;by_cases D:j<m
   ·obtain⟨b1,o1,U,M,x2,x3⟩:=O.o j (by rw[R.o];exact D);obtain⟨b2,o2,V,N⟩:=P.o j (by rw[Q.o];exact D);subst U V;have q1:=cLz g M;have q2:=cLz g N;have i1:=nn0 j;have i2:(j:Int)<(m:Int):=Ϥ;have z:Ϣ (DN (r.getD j ϰ) (c.getD j 0)=decide ((r.getD j ϰ).k=0\/(r.getD j ϰ).k=c.getD j 0)):=rfl;obtain⟨f,L⟩:=nM ((r.getD j ϰ).k);obtain⟨y,F⟩:=nM (c.getD j 0);rw[L]at q1 z;rw[F]at q2;have A:Ϣ (DN (r.getD j ϰ) (c.getD j 0)=decide (f=0\/f=y)):=by show DN (r.getD j ϰ) (c.getD j 0)=_;rw[z.o,F]
    clear L F M x2 x3 N z;have H:Ϣ (DN (r.getD j ϰ) (c.getD j 0)=true->∀i,i<j+1->DN (r.getD i ϰ) (c.getD i 0)=true):=λh i v=>by
     rcases Nat.lt_succ_iff_lt_or_eq.1 v with n|n
     ·exact G.o i n
     ·rw[n];exact h
    by_cases e:f=0
    ·subst e;have d:Ϣ (DN (r.getD j ϰ) (c.getD j 0)=true):=by show DN (r.getD j ϰ) (c.getD j 0)=true;rw[A.o];simp
     go_wp2
     go_quiet (fail)
     go_wp2;go_roundw;exact⟨j+1,Ϥ,by go_num,Dn g _,H.o d.o⟩;simp[intOf];omega
    ·have ab:(f !=0)=true:=by simpa using e
     by_cases l:f=y
     ·have aa:(f !=y)=false:=by simpa using l
      have d:Ϣ (DN (r.getD j ϰ) (c.getD j 0)=true):=by show DN (r.getD j ϰ) (c.getD j 0)=true;rw[A.o];exact decide_eq_true (.inr l)
      clear e l;go_wp2
      go_quiet (fail)
      go_wp2;go_roundw;exact⟨j+1,Ϥ,by go_num,Dn g _,H.o d.o⟩;simp[intOf];omega
     ·have aa:(f !=y)=true:=by simpa using l
      have d:Ϣ (B=5):=o.o j Ϭ D (by rw[A.o];exact decide_eq_false (λh=>h.elim e l));clear e l;go_wp2
      go_quiet (fail)
      go_wp2;go_ret;exact⟨Ad d.o.symm,Dn g _⟩
   ·have d:Ϣ (B=0):=u.o Ϭ (λi v=>G.o i Ϥ);go_wp2;go_ret;exact⟨Ad d.o.symm,g⟩
 ·have Z:((m:Int) !=k)=true:=ϩ;have d:Ϣ (B=2):=q.o C;clear C;go_enter func65,ntmps65;go_wp2;go_ret;exact⟨Ad d.o.symm,bR⟩
def I7(sb:Bool)(n m:Nat)(er:Int)(tb:Bool):Int:=if sb=false then 4 else if n≠m then 2 else if er≠0 then er else if tb=false then 5 else 0
theorem Hx(p:Pln)(x:PA)(side:Int)(F:ϡ)(cr:Nat)(r:List Cel)(w:Ϡ)(y:wfPlan p)(hp:planAt w p x)(hr:vl.rowAt w F r)(a6:Bq r)(ao:r.length<=ύ):
 χ 251 #[Aj p x,vI side,vS F r.length cr] w (ψ w (vI (Bn p side r))):=by
 have q:=hIz (λ(k:Ϡ) (H:ϣ w k)=>Dd p x k y (Ae hp H));have u:=hIz (λ(k:Ϡ)=>Mu p x side k);have N:=hIz (λ(k:Ϡ) (H:ϣ w k)=>LJ F (cA x side) cr (cC x side) r (AD p side) k ao (MI y side) (Ac hr H) (Al (AaX hp side) H));have d:Ϣ (Bn p side r=if Ag p=0 then I7 (B8 side) r.length (AD p side).length (Ff r) (BU r (AD p side))else Ag p):=rfl;have az:=MI y side;have HR:Ϣ (vl.rowAt w F r):=hr;obtain⟨K,ap⟩:=nM (Ag p);obtain⟨f,ae⟩:=nM (Bn p side r);obtain⟨ca,X⟩:=nM (cA x side);obtain⟨cc,Y⟩:=nM (cC x side);obtain⟨ka,a1⟩:=nM (kA x side);obtain⟨kc,a2⟩:=nM (kC x side);obtain⟨cn,C⟩:=nM ((AD p side).length);obtain⟨kn,a3⟩:=nM ((keysOf p side).length);obtain⟨tb,ag⟩:=nM (BU r (AD p side));rw[ap]at q d;rw[X,Y,C]at u;rw[X,Y,C,ag]at N;rw[ae,C,ag]at d;rw[C]at az;rw[ae];clear ap ae X Y a1 a2 C a3 ag hp y hr;obtain⟨n,hn⟩:=nM r.length;have E:Ϣ (r.length=n):=hn;rw[hn]at N d ao⊢;clear hn;obtain⟨bc,bh,bg,bb,bm,bd,left,right,a7,a8,a9,av,au⟩:=p;obtain⟨l,lc,rr,rc,lk,be,rk,bk,g,gc,a,ac⟩:=x;unfold Aj at q u⊢;dsimp only at q u⊢;obtain⟨n6,R⟩:∃n,left.length=n:=⟨_,rfl⟩;obtain⟨n7,S⟩:∃n,right.length=n:=⟨_,rfl⟩;obtain⟨n8,T⟩:∃n,a7.length=n:=⟨_,rfl⟩;obtain⟨n9,U⟩:∃n,a8.length=n:=⟨_,rfl⟩;obtain⟨bi,P⟩:∃n,av.length=n:=⟨_,rfl⟩;obtain⟨bj,Q⟩:∃n,au.length=n:=⟨_,rfl⟩;rw[R,S,T,U,P,Q]at q u;rw[R,S,T,U,P,Q];clear R S T U P Q;go_enter func251,ntmps251;go_wp2_with fail;refine(q.o _ ϯ).mono ?_;rintro e k ⟨rfl,V⟩;have W:=ϯ.trans (V.mono Ϧ);obtain⟨ay,a0⟩:=Cu V;by_cases G:K=0
 ·subst G;rw[if_pos rfl]at d
  cases hsb:B8 side
  ·rw[hsb]at d;go_wp2_with (go_at_call 210;refine(Dz _ _).mono ?_;rintro e w' ⟨rfl,y⟩;subst y);go_ret;exact⟨Ad (by rw[d.o];rfl),W⟩
  rw[hsb]at d;go_wp2_with fail;refine(Dz _ _).mono ?_;rintro e w' ⟨rfl,a5⟩;subst a5;rw[hsb];go_wp2_with fail;refine(u.o _).mono ?_;rintro e w2 ⟨rfl,al⟩;have am:=bT W al;clear ay a0 q u V al;by_cases ad:n=cn
  ·subst ad;have a4:((n:Int) !=n)=false:=Ϧ;go_wp2
   go_loopw [11,30] (λ_ i wr=> ∃j:Nat,j<=n/\i=vI j/\ϣ w wr/\∀i,i<j->(r.getD i ϰ).ok) (λ_ i _=>n - (intOf i).toNat)
   case atStart=>exact⟨0,Nat.zero_le _,rfl,am,λi Z=>absurd Z (Nat.not_lt_zero i)⟩
   case round=>
    obtain⟨j,hj,rfl,v,ak⟩:=hrel;have M:Ϣ (∀i,i<j->(r.getD i ϰ).ok):=ak;have af:=v.size;clear ak;by_cases ab:j<n
    ·obtain⟨b1,o1,e1,x1,x2,x3⟩:=HR.o j (by rw[E.o];exact ab);subst e1;obtain⟨q1,q2,q3⟩:=lk3 v x1 x2 x3;have ah:=Abl a6 j (by rw[E.o];exact ab);have D:Ϣ (¬(r.getD j ϰ).ok->Ff r=chk (r.getD j ϰ).k (r.getD j ϰ).n (r.getD j ϰ).s):=QR r j (by rw[E.o];exact ab) M.o;have A:Ϣ ((r.getD j ϰ).ok↔chk (r.getD j ϰ).k (r.getD j ϰ).n (r.getD j ϰ).s=0):=Iff.rfl;have ai:Ϣ ((r.getD j ϰ).ok->∀i,i<j+1->(r.getD i ϰ).ok):=λh i Z=>by
      rcases Nat.lt_succ_iff_lt_or_eq.1 Z with O|O
      ·exact M.o i O
      ·rw[O];exact h
     obtain⟨OK,aj⟩:=nM ((r.getD j ϰ).ok);rw[aj]at D A ai;obtain⟨⟨I,J,L⟩,an⟩:∃z,r.getD j ϰ=z:=⟨_,rfl⟩;rw[an]at q1 q2 q3 ah D A;dsimp only at q1 q2 q3 ah D A;obtain⟨⟨bn,bo⟩,aq⟩:=ah;have i1:=nn0 j;have i2:(j:Int)<(n:Int):=Ϥ;clear aj an x1 x2 x3;by_cases o:chk I J L=0
     ·have ax:(chk I J L !=0)=false:=by simpa using o
      have HO:Ϣ OK:=A.o.2 o;clear o;go_wp2_with (go_at_call 183;refine(vl.Bi _ _ _ _ aq).mono ?_;rintro e wc ⟨rfl,B⟩;have aa:=(v.alloc af _).trans (B.mono ϩ));go_roundw;exact⟨j+1,Ϥ,by go_num,aa,ai.o HO.o⟩;simp[intOf];omega
     ·have ax:(chk I J L !=0)=true:=by simpa using o
      have m:Ϣ (f=chk I J L):=by
       show f=_;rw[d.o,D.o (λh=>o (A.o.1 h))];unfold I7;rw[if_neg ϥ,if_neg Ϧ,if_pos o]
      clear o;go_wp2_with (go_at_call 183;refine(vl.Bi _ _ _ _ aq).mono ?_;rintro e wc ⟨rfl,B⟩;have aa:=(v.alloc af _).trans (B.mono ϩ));go_ret;exact⟨Ad m.o.symm,aa⟩
    ·have m:Ϣ (f=if tb=false then 5 else 0):=by
      show f=_;rw[d.o,K7 r j (by rw[E.o];omega) M.o];unfold I7;rw[if_neg ϥ,if_neg Ϧ,if_neg Ϧ]
     go_wp2_with fail;refine(N.o _ v).mono ?_;rintro e w3 ⟨rfl,aw⟩;have B:=v.trans (aw.mono af)
     cases tb
     all_goals
      go_wp2;go_ret;exact⟨Ad m.o.symm,B⟩
  ·have a4:((n:Int) !=cn)=true:=ϩ;have m:Ϣ (f=2):=by
    show f=2;rw[d.o];unfold I7;rw[if_neg ϥ,if_pos ad]
   clear ad;go_wp2;go_ret;exact⟨Ad m.o.symm,am⟩
 ·have ba:(K !=0)=true:=by simpa using G
  have m:Ϣ (f=K):=by show f=K;rw[d.o,if_neg G]
  clear G;go_wp2;go_ret;exact⟨Ad m.o.symm,W⟩
theorem AaZ(h:r.length<=8):Au r=Ff r:=by unfold Au;rw[if_neg Ϥ]
theorem QJ(p:Pln)(x:PA)(side:Int)(E:ϡ)(I:Nat)(r:List Cel)(w:Ϡ)(V:wfPlan p)(hp:planAt w p x)(Z:Ag p=0)(S:vl.rowAt w E r)(aa:Bq r)(Q:r.length<=ύ):
 χ 116 #[Aj p x,vI side,vS E r.length I] w (ψ w (vI (Y1 p side r))):=by
 have ae:=Dp (Bv Z).2.2.1;have C:=hIz (λ(y:Ϡ) (H:ϣ w y)=>vl.Cr E I r y (Ac S H) aa Q);have D:=hIz (λ(y:Ϡ) (H:ϣ w y)=>GZ E (cA x side) I (cC x side) r (AD p side) y Q (MI V side) (Ac S H) (Al (AaX hp side) H));have f:Ϣ (Y1 p side r=I7 (B8 side) r.length (AD p side).length (Ff r) (BU r (AD p side))):=rfl;have B:Ϣ (Dt (AD p side) r=if r.length≠(AD p side).length then 2 else if BU r (AD p side)=false then 5 else 0):=rfl;have o:Ϣ (r.length=(AD p side).length->Au r=Ff r):=λh=>AaZ (by rw[h];unfold AD;split<;>omega);have A:Ϣ (side=2->cA x side=x.r/\cC x side=x.rc/\(AD p side).length=p.right.length):=λh=>by show cA x side=x.r/\cC x side=x.rc/\_;unfold cA cC AD;simp only[if_pos h];exact⟨trivial,trivial,trivial⟩
 have z:Ϣ (¬side=2->cA x side=x.l/\cC x side=x.lc/\(AD p side).length=p.left.length):=λh=>by show cA x side=x.l/\cC x side=x.lc/\_;unfold cA cC AD;simp only[if_neg h];exact⟨trivial,trivial,trivial⟩
 have ad:=MI V side;obtain⟨d,T⟩:=nM (Y1 p side r);obtain⟨ca,L⟩:=nM (cA x side);obtain⟨cc,M⟩:=nM (cC x side);obtain⟨F,u⟩:=nM ((AD p side).length);obtain⟨tb,U⟩:=nM (BU r (AD p side));obtain⟨m,Y⟩:=nM (Au r);obtain⟨er,N⟩:=nM (Ff r);obtain⟨G,O⟩:=nM (Dt (AD p side) r);rw[Y]at C o;rw[L,M,u,O]at D;rw[T,u,U,N]at f;rw[O,u,U]at B;rw[N,u]at o;rw[L,M,u]at z A;rw[u]at ad;rw[T];clear T L M u U Y N O hp V S Z ae;obtain⟨n,hn⟩:=nM r.length;rw[hn]at C D f B o Q⊢;clear hn aa;obtain⟨al,aq,ap,ak,aw,am,left,right,ao,av,aj,ai,ah⟩:=p;obtain⟨l,lc,rr,rc,lk,an,rk,au,g,gc,a,ac⟩:=x;unfold Aj;dsimp only at z A⊢;obtain⟨n6,W⟩:∃n,left.length=n:=⟨_,rfl⟩;obtain⟨n7,X⟩:∃n,right.length=n:=⟨_,rfl⟩;rw[W]at z⊢;rw[X]at A⊢;clear W X
 cases hsb:B8 side
 ·rw[hsb]at f;have af:¬(side=1\/side=2):=of_decide_eq_false hsb;have s2:(side==2)=false:=ϩ;have s1:(side !=1)=true:=ϩ;clear af;go_enter func116,ntmps116;go_wp2;go_ret;exact⟨Ad (by rw[f.o];rfl),ϯ⟩
 rw[hsb]at f;have ag:side=1\/side=2:=of_decide_eq_true hsb;rcases ag with rfl|rfl
 ·obtain⟨rfl,rfl,rfl⟩:=z.o ϥ;clear z A hsb;by_cases v:n=F
  ·subst v;have R:((n:Int) !=n)=false:=Ϧ;have P:=o.o Ϭ;subst P;clear o;go_enter func116,ntmps116;go_wp2_with fail;refine(C.o _ ϯ).mono ?_;rintro e y ⟨rfl,J⟩;have q:=ϯ.trans (J.mono Ϧ);by_cases k:m=0
   ·subst k;have j:Ϣ (d=G):=by
     show d=G;rw[f.o,B.o];unfold I7;simp
    go_wp2_with fail;refine(D.o _ q).mono ?_;rintro e w2 ⟨rfl,K⟩;go_wp2;go_ret;exact⟨Ad j.o.symm,bT q K⟩
   ·have ab:(m !=0)=true:=by simpa using k
    have j:Ϣ (d=m):=by
     show d=m;rw[f.o];unfold I7;rw[if_neg ϥ,if_neg Ϧ,if_pos k]
    clear k;go_wp2;go_ret;exact⟨Ad j.o.symm,q⟩
  ·have R:((n:Int) !=F)=true:=ϩ;have j:Ϣ (d=2):=by
    show d=2;rw[f.o];unfold I7;rw[if_neg ϥ,if_pos v]
   clear v;go_enter func116,ntmps116;go_wp2;go_ret;exact⟨Ad j.o.symm,ϯ⟩
 ·obtain⟨rfl,rfl,rfl⟩:=A.o rfl;clear z A hsb;by_cases v:n=F
  ·subst v;have R:((n:Int) !=n)=false:=Ϧ;have P:=o.o Ϭ;subst P;clear o;go_enter func116,ntmps116;go_wp2_with fail;refine(C.o _ ϯ).mono ?_;rintro e y ⟨rfl,J⟩;have q:=ϯ.trans (J.mono Ϧ);by_cases k:m=0
   ·subst k;have j:Ϣ (d=G):=by
     show d=G;rw[f.o,B.o];unfold I7;simp
    go_wp2_with fail;refine(D.o _ q).mono ?_;rintro e w2 ⟨rfl,K⟩;go_wp2;go_ret;exact⟨Ad j.o.symm,bT q K⟩
   ·have ab:(m !=0)=true:=by simpa using k
    have j:Ϣ (d=m):=by
     show d=m;rw[f.o];unfold I7;rw[if_neg ϥ,if_neg Ϧ,if_pos k]
    clear k;go_wp2;go_ret;exact⟨Ad j.o.symm,q⟩
  ·have R:((n:Int) !=F)=true:=ϩ;have j:Ϣ (d=2):=by
    show d=2;rw[f.o];unfold I7;rw[if_neg ϥ,if_pos v]
   clear v;go_enter func116,ntmps116;go_wp2;go_ret;exact⟨Ad j.o.symm,ϯ⟩
def B9(r:List Cel)(l:List Int):List Cel:=l.map λi=>r.getD i.toNat ϰ
theorem Hy(l:List Int)(k:Nat)(h:k<l.length):l.take (k+1)=l.take k++[l.getD k 0]:=by
 rw[take_succ_eq_append_getElem h,EN h]
theorem Aba(a ad:ϡ)(ca cp:Nat)(r:List Cel)(l:List Int)(w:Ϡ)(ak:r.length<=ύ)(aj:l.length<=1000)(ha:vl.rowAt w a r)(S:Ay w ad l)(y:∀x∈l,0<=x/\x<(r.length:Int)):
 χ 217 #[vS a r.length ca,vS ad l.length cp] w λe w'=>(∃N O,e= .returned (vS N (B9 r l).length O)/\AM w' w (vS N (B9 r l).length O) (B9 r l))/\ϣ w w':=by
 have HA:Ϣ (vl.rowAt w a r):=ha;have HL:Ϣ (Ay w ad l):=S;have B:Ϣ (∀i,i<l.length->0<=l.getD i 0/\l.getD i 0<(r.length:Int)):=λi j=>y _ (CQ j);obtain⟨m,D⟩:=nM r.length;obtain⟨n,E⟩:=nM l.length;have HM:Ϣ (r.length=m):=D;have h:Ϣ (l.length=n):=E;rw[D]at ak B⊢;rw[E]at aj B⊢;clear D E ha S y;obtain⟨i0,j,Z,aa,ab⟩:=info_parts Tryz.infoV;obtain⟨w0,al,U,R⟩:=run_make_own (P:=Tryz.prog) w w.heap.size 80 119 i0 (.agg #[Ϗ,Ϗ,ϐ]) 3 underlying80 j Z aa .i64 .i64 n (by rw[ab];omega) Ϯ nR;have ag:ϣ w w0:=bR.grown R nR (λb hb=>by cases hb);have ac:Ϣ (AM w0 w (vS (ϋ w) 0 n) []):=U;clear j Z aa ab U R;have K:Ϣ (∀k,k<n->B9 r (l.take (k+1))=B9 r (l.take k)++[r.getD (l.getD k 0).toNat ϰ]):=λk q=>by
  show B9 r (l.take (k+1))=_;rw[Hy l k (by rw[h.o];exact q)];simp[B9]
 have I:Ϣ (∀k,n<=k->B9 r (l.take k)=B9 r l):=λk q=>by
  show B9 r (l.take k)=_;rw[take_of_length_le (by rw[h.o];exact q)]
 have M:Ϣ (∀k,(B9 r (l.take k)).length<=n):=λk=>by
  show(B9 r (l.take k)).length<=n;have:(l.take k).length<=l.length:=by rw[length_take];omega
  unfold B9;rw[lMp,<-h.o];exact this
 obtain⟨pn,G⟩:=nM ((B9 r l).length);have ae:Ϣ ((B9 r l).length=pn):=G;rw[G];clear G;go_enter func217,ntmps217;go_wp2
 go_loopw [5,7,13] (λv _ i wr=> ∃k:Nat,k<=n/\i=vI k/\AM wr w v (B9 r (l.take k))/\ϣ w wr) (λ_ _ i _=>n - (intOf i).toNat)
 case atStart=>exact⟨0,Nat.zero_le _,rfl,ac.o,ag⟩
 case round=>
  obtain⟨k,q,rfl,T,u⟩:=hrel;have d:Ϣ (AM wr w u5 (B9 r (l.take k))):=T;have X:=u.size;clear T al;by_cases C:k<n
  ·obtain⟨b,o,e,H⟩:=HL.o k (by rw[h.o];exact C);subst e;have F:=B.o k C;have f:=K.o k C;obtain⟨z,Y⟩:=nM (l.getD k 0);rw[Y]at H F f;obtain⟨A,rfl⟩:=Int.eq_ofNat_of_zero_le F.1;rw[Int.toNat_natCast]at f;obtain⟨b1,o1,e1,x1,x2,x3⟩:=HA.o A (by rw[HM.o];omega);subst e1;obtain⟨qk,q1,q2,q3⟩:=lk4 u H x1 x2 x3;obtain⟨⟨kv,nv,sv⟩,Q⟩:∃z,r.getD A ϰ=z:=⟨_,rfl⟩;rw[Q]at q1 q2 q3 f;dsimp only at q1 q2 q3;have L:Ϣ (B9 r (l.take (k+1))=B9 r (l.take k)++[⟨kv,nv,sv⟩]):=f;have i1:=nn0 k;have i2:(k:Int)<(n:Int):=Ϥ;have i3:=nn0 A;have i4:(A:Int)<(m:Int):=Ϥ;have y:=M.o k;obtain⟨pr,W⟩:=nM (B9 r (l.take k));rw[W]at d L y;clear H x1 x2 x3 Y Q f F W;go_wp2_with (at_builtin;refine ED rfl (.tmp 17) (.tmp 22) rfl w.heap.size u5 pr rfl wr d.o ⟨kv,nv,sv⟩ wr.heap.size rfl rfl Ϥ X ?_;intro v2 w3 V ai);obtain⟨af,c2,g,_⟩:=Bw V;have ah:=DC u X d.o ai;subst g;go_roundw;exact⟨k+1,Ϥ,by go_num,by rw[L.o];exact V,ah⟩;simp[intOf];omega
  ·have J:=I.o k Ϥ;obtain⟨af,c2,g,_⟩:=Bw d.o;rw[J]at d g;rw[ae.o]at g;subst g;clear J I K M;go_wp2;go_ret;exact⟨⟨_,_,rfl,d.o⟩,u⟩
def Gh(r:List Cel):Bool:=r.any λc=>c.k==0
theorem PX(d:i<r.length)(h:(r.getD i ϰ).k=0):Gh r=true:=by
 unfold Gh;rw[any_eq_true];exact⟨_,CQ d,by simpa using h⟩
theorem Tc(h:∀i,i<r.length->(r.getD i ϰ).k≠0):Gh r=false:=by
 unfold Gh;rw[any_eq_false];intro c e;have:=(EL (d:=ϰ) (Q:=λc:Cel=>c.k≠0)).1 h c e;simpa using this
def Cd(p:Pln)(side:Int)(r:List Cel):List Cel:=B9 r (keysOf p side)
def hasB(p:Pln)(side:Int)(r:List Cel):Bool:=decide (Bn p side r=0)&& !Gh (Cd p side r)
def A6(p:Pln)(side:Int)(r:List Cel):ByteArray:=⟨(if hasB p side r=true then encR (Cd p side r)else []).toArray⟩
theorem Fv(h:Bn p side r=0):Ag p=0/\B8 side=true/\r.length=(AD p side).length/\Ff r=0/\BU r (AD p side)=true:=by
 unfold Bn at h;by_cases d:Ag p=0
 ·rw[if_pos d]at h;unfold Y1 at h
  cases h1:B8 side with
  |false=>rw[h1]at h;cases h
  |true=>
   rw[h1,if_neg ϥ]at h;by_cases f:r.length=(AD p side).length
   ·rw[if_neg (by simp[f])]at h;by_cases e:Ff r=0
    ·rw[if_neg (by simp[e])]at h
     cases h4:BU r (AD p side)with
     |false=>rw[h4]at h;cases h
     |true=>exact⟨d,rfl,f,e,rfl⟩
    ·rw[if_pos e]at h;exact absurd h e
   ·rw[if_pos f]at h;cases h
 ·rw[if_neg d]at h;exact absurd h d
theorem keys_in(h:Ag p=0):(∀x∈keysOf p side,0<=x/\x<((AD p side).length:Int))/\(keysOf p side).length<=4:=by
 obtain⟨_,_,e,_,d⟩:=Bv h;have f:=Dp e;unfold keysOf AD;split
 ·exact⟨d.2.1.2.2.1.1,Ϥ⟩
 ·exact⟨d.2.1.2.1.1,Ϥ⟩
theorem QK{l:List Int}(h:l.length<=8)(j:∀x∈l,0<=x/\x<(r.length:Int))(f:Ff r=0)(k:Bq r):rowOk (B9 r l):=by
 refine⟨by unfold B9;rw[lMp];exact h,λc e=>?_⟩;obtain⟨i,g,rfl⟩:=mem_map.1 e;have:=j i g;have d:r.getD i.toNat ϰ∈r:=CQ Ϥ;exact⟨I9 f _ d,k _ d⟩
theorem LK{t:ByteArray}{x y:Int}(h1:s=t)(d:a=b)(e:x=y):Ending.returned (.tuple #[.string s,.bool a,vI x])= .returned (.tuple #[.string t,.bool b,vI y]):=by rw[h1,d,e]
theorem PY(p:Pln)(x:PA)(side:Int)(G:ϡ)(P:Nat)(r:List Cel)(w:Ϡ)(hw:wfPlan p)(hp:planAt w p x)(hr:vl.rowAt w G r)(al:Bq r)(ak:r.length<=ύ):
 χ 214 #[Aj p x,vI side,vS G r.length P] w (ψ w (.tuple #[.string (A6 p side r),.bool (hasB p side r),vI (Bn p side r)])):=by
 have B:=hIz (λ(k:Ϡ) (f:ϣ w k)=>Hx p x side G P r k hw (Ae hp f) (Ac hr f) al ak);have C:=hIz (λ(k:Ϡ)=>Y2 p x side k);have O:Ϣ (∀k,Bn p side r=0->ϣ w k->CT 217 #[vS G r.length P,vS (kA x side) (keysOf p side).length (kC x side)] k λe w'=>(∃y D,e= .returned (vS y (Cd p side r).length D)/\AM w' k (vS y (Cd p side r).length D) (Cd p side r))/\ϣ k w'):=λk o f=>by
  have h:=Fv o;have u:=keys_in (side:=side) h.1;exact Aba G (kA x side) P (kC x side) r (keysOf p side) k ak Ϥ (Ac hr f) (Al (GV hp side) f) (by rw[h.2.2.1];exact u.1)
 have T:Ϣ (Bn p side r=0->rowOk (Cd p side r)):=λo=>by
  have h:=Fv o;have u:=keys_in (side:=side) h.1;exact QK Ϥ (by rw[h.2.2.1];exact u.1) h.2.2.2.1 al
 have K:Ϣ (hasB p side r=(decide (Bn p side r=0)&& !Gh (Cd p side r))):=rfl;have L:Ϣ (A6 p side r=⟨(if hasB p side r=true then encR (Cd p side r)else []).toArray⟩):=rfl;obtain⟨re,E⟩:=nM (Bn p side r);obtain⟨d,I⟩:=nM (Cd p side r);obtain⟨f,Q⟩:=nM (hasB p side r);obtain⟨v,aj⟩:=nM (A6 p side r);obtain⟨ca,a6⟩:=nM (cA x side);obtain⟨cc,a7⟩:=nM (cC x side);obtain⟨ka,ag⟩:=nM (kA x side);obtain⟨kc,ah⟩:=nM (kC x side);obtain⟨cn,a8⟩:=nM ((AD p side).length);obtain⟨kn,ai⟩:=nM ((keysOf p side).length);obtain⟨n,R⟩:=nM r.length;rw[E,R]at B;rw[ag,ah,ai]at C;rw[E,ag,ah,ai,I,R]at O;rw[E,I]at T;rw[E,I,Q]at K;rw[Q,I,aj]at L;rw[aj,Q,E,R];clear E I Q aj a6 a7 ag ah a8 ai R hp hw hr al ak;obtain⟨q,hq⟩:=nM d.length;have A:Ϣ (d.length=q):=hq;rw[hq]at O;clear hq;obtain⟨bj,bo,bn,bg,bs,bk,left,right,bb,bc,bd,a2,a1⟩:=p;obtain⟨l,lc,rr,rc,lk,bm,rk,br,g,gc,a,ac⟩:=x;unfold Aj at B C⊢;dsimp only at B C⊢;obtain⟨n6,X⟩:∃n,left.length=n:=⟨_,rfl⟩;obtain⟨n7,Y⟩:∃n,right.length=n:=⟨_,rfl⟩;obtain⟨n8,Z⟩:∃n,bb.length=n:=⟨_,rfl⟩;obtain⟨n9,h9⟩:∃n,bc.length=n:=⟨_,rfl⟩;obtain⟨bp,V⟩:∃n,a2.length=n:=⟨_,rfl⟩;obtain⟨bq,W⟩:∃n,a1.length=n:=⟨_,rfl⟩;rw[X,Y,Z,h9,V,W]at B C;rw[X,Y,Z,h9,V,W];clear X Y Z h9 V W;go_enter func214,ntmps214;go_wp2_with fail;refine(B.o _ ϯ).mono ?_;rintro e k ⟨rfl,aa⟩;have ab:=ϯ.trans (aa.mono Ϧ);obtain⟨a5,a9⟩:=Cu aa;by_cases o:re=0
 ·subst o;have S:Ϣ (rowOk d):=T.o rfl;have HH:Ϣ (f= !Gh d):=K.o;clear T K;go_wp2_with fail;refine(C.o _).mono ?_;rintro e w2 ⟨rfl,aq⟩;have ae:=bT ab aq;go_wp2_with fail;refine(O.o _ Ϭ ae).mono ?_;rintro e w3 ⟨⟨y,D,rfl,ax⟩,au⟩;have a4:=bT ae au;have an:Ϣ (vl.rowAt w3 y d):=by
   have:=FF (r:=d) (cap:=D) (ad:=y) (base:=w2.heap.size) (w:=w3) (by rw[A.o];exact ax);exact this
  clear a5 a9 B C O aa aq au ax ab ae;have bi:q<=8:=by have:=S.o.1;rw[A.o]at this;exact this
  go_wp2
  go_loopw [12,29] (λ_ i wr=> ∃j:Nat,j<=q/\i=vI j/\ϣ w3 wr/\∀i,i<j->(d.getD i ϰ).k≠0) (λ_ i _=>q - (intOf i).toNat)
  case atStart=>exact⟨0,Nat.zero_le _,rfl,bR,λi H=>absurd H (Nat.not_lt_zero i)⟩
  case round=>
   obtain⟨j,hj,rfl,J,ap⟩:=hrel;have am:Ϣ (∀i,i<j->(d.getD i ϰ).k≠0):=ap;have ba:=J.size;have af:=bT a4 J;clear ap;by_cases aw:j<q
   ·obtain⟨b1,o1,e1,x1,x2,x3⟩:=an.o j (by rw[A.o];exact aw);subst e1;obtain⟨q1,q2,q3⟩:=lk3 J x1 x2 x3;have M:Ϣ ((d.getD j ϰ).k=0->Gh d=true):=λh=>PX (by rw[A.o];exact aw) h;have N:Ϣ ((d.getD j ϰ).k≠0->∀i,i<j+1->(d.getD i ϰ).k≠0):=λh i H=>by
     rcases Nat.lt_succ_iff_lt_or_eq.1 H with U|U
     ·exact am.o i U
     ·rw[U];exact h
    obtain⟨⟨kv,nv,sv⟩,av⟩:∃z,d.getD j ϰ=z:=⟨_,rfl⟩;rw[av]at q1 q2 q3 M N;dsimp only at q1 q2 q3 M N;have i1:=nn0 j;have i2:(j:Int)<(q:Int):=Ϥ;clear av x1 x2 x3;by_cases u:kv=0
    ·subst u;have m:Ϣ (f=false):=by show f=false;rw[HH.o,M.o rfl];rfl
     have F:Ϣ (v=⟨#[]⟩):=by show v=_;rw[L.o,m.o];rfl
     go_wp2
     go_ret3
     exact⟨LK F.o.symm m.o.symm rfl,af.alloc af.size _⟩
    ·have bh:(kv==0)=false:=by simpa using u
     have ao:=N.o u;have a0:Ϣ (∀i,i<j+1->(d.getD i ϰ).k≠0):=ao;clear u ao N M;go_wp2;go_roundw;exact⟨j+1,Ϥ,by go_num,J.alloc ba _,a0.o⟩;simp[intOf];omega
   ·have az:Ϣ (Gh d=false):=Tc (λi H=>am.o i (by rw[A.o]at H;omega));have m:Ϣ (f=true):=by show f=true;rw[HH.o,az.o];rfl
    have F:Ϣ (v=⟨(encR d).toArray⟩):=by show v=_;rw[L.o,m.o];rfl
    have KK:Ϣ (CT 112 #[vS y q D] wr (ψ wr (.tuple #[.string (FR d),Ϗ]))):=by
     have:=vl.AeP y D d wr (Ac an.o J) S.o;rwa[A.o]at this
    have ay:Ϣ (FR d=v):=by
     show FR d=v;rw[F.o];apply str_eq;rw[Ke S.o]
    go_wp2_with fail;refine KK.o.mono ?_;rintro e w4 ⟨rfl,a3⟩;go_wp2
    go_ret3
    exact⟨LK ay.o m.o.symm rfl,bT af a3⟩
 ·have be:(re !=0)=true:=by simpa using o
  have m:Ϣ (f=false):=by show f=false;rw[K.o,decide_eq_false o];rfl
  have F:Ϣ (v=⟨#[]⟩):=by show v=_;rw[L.o,m.o];rfl
  clear o;go_wp2
  go_ret3
  exact⟨LK F.o.symm m.o.symm rfl,ab⟩
theorem QL{t:ByteArray}(h1:s=t)(d:a=b):Ending.returned (.tuple #[.string s,.bool a])= .returned (.tuple #[.string t,.bool b]):=by rw[h1,d]
theorem Abb(r:List Cel)(l:List Int)(k:Nat)(h:k<l.length):(B9 r l).getD k ϰ=r.getD (l.getD k 0).toNat ϰ:=by
 unfold B9;simp[gDe,h]
theorem Vb(p:Pln)(x:PA)(side:Int)(ar:ϡ)(cr:Nat)(r:List Cel)(w:Ϡ)(hw:wfPlan p)(hp:planAt w p x)(h0:Bn p side r=0)(hr:vl.rowAt w ar r)(ba:Bq r)(bc:r.length<=ύ):
 χ 117 #[Aj p x,vI side,vS ar r.length cr] w (ψ w (.tuple #[.string (A6 p side r),.bool (hasB p side r)])):=by
 have h:=Fv h0;have y:=keys_in (side:=side) h.1;have a6:=y.2;have aq:Ϣ (rowOk (Cd p side r)):=QK Ϥ (by rw[h.2.2.1];exact y.1) h.2.2.2.1 ba;have HH:Ϣ (hasB p side r= !Gh (Cd p side r)):=by show(decide (Bn p side r=0)&& !Gh (Cd p side r))=_;rw[decide_eq_true h0];rfl
 have S:Ϣ (A6 p side r=⟨(if hasB p side r=true then encR (Cd p side r)else []).toArray⟩):=rfl;have HA:Ϣ (vl.rowAt w ar r):=hr;have HL:Ϣ (Ay w (kA x side) (keysOf p side)):=GV hp side;have HP:Ϣ (∀i,i<(keysOf p side).length->0<=(keysOf p side).getD i 0/\(keysOf p side).getD i 0<(r.length:Int)):=λi f=>by rw[h.2.2.1];exact y.1 _ (CQ f)
 have aa:Ϣ (∀k,k<(keysOf p side).length->B9 r ((keysOf p side).take (k+1))=B9 r ((keysOf p side).take k)++[r.getD ((keysOf p side).getD k 0).toNat ϰ]):=λk y=>by
  show B9 r ((keysOf p side).take (k+1))=_;rw[Hy _ k y];simp[B9]
 have T:Ϣ (∀k,(keysOf p side).length<=k->B9 r ((keysOf p side).take k)=Cd p side r):=λk y=>by
  show B9 r ((keysOf p side).take k)=_;rw[take_of_length_le y];rfl
 have ab:Ϣ (∀k,(B9 r ((keysOf p side).take k)).length<=(keysOf p side).length):=λk=>by
  show(B9 r ((keysOf p side).take k)).length<=_;unfold B9;rw[lMp,length_take];omega
 have af:Ϣ (∀k,k<(keysOf p side).length->(Cd p side r).getD k ϰ=r.getD ((keysOf p side).getD k 0).toNat ϰ):=λk y=>Abb r _ k y;have C:Ϣ ((Cd p side r).length=(keysOf p side).length):=by show(Cd p side r).length=_;unfold Cd B9;rw[lMp]
 have ah:Ϣ (∀j,j<(keysOf p side).length->((Cd p side r).getD j ϰ).k=0->Gh (Cd p side r)=true):=λj hj h=>PX (by rw[C.o];exact hj) h;have ag:Ϣ ((∀i,i<(keysOf p side).length->((Cd p side r).getD i ϰ).k≠0)->Gh (Cd p side r)=false):=λh=>Tc (λi f=>h i (by rw[C.o]at f;exact f));have K:Ϣ (side=2->kA x side=x.rk/\kC x side=x.rkc/\(keysOf p side).length=p.rkeys.length):=λh=>by show kA x side=x.rk/\kC x side=x.rkc/\_;unfold kA kC keysOf;simp only[if_pos h];exact⟨trivial,trivial,trivial⟩
 have J:Ϣ (¬side=2->kA x side=x.lk/\kC x side=x.lkc/\(keysOf p side).length=p.lkeys.length):=λh=>by show kA x side=x.lk/\kC x side=x.lkc/\_;unfold kA kC keysOf;simp only[if_neg h];exact⟨trivial,trivial,trivial⟩
 obtain⟨d,a7⟩:=nM (Cd p side r);obtain⟨Q,a3⟩:=nM (hasB p side r);obtain⟨R,a8⟩:=nM (A6 p side r);obtain⟨ka,a4⟩:=nM (kA x side);obtain⟨kc,a5⟩:=nM (kC x side);obtain⟨q,a9⟩:=nM (keysOf p side);rw[a7]at aq HH S T af C ah ag;rw[a3]at HH S⊢;rw[a8]at S⊢;rw[a4]at HL J K;rw[a5]at J K;rw[a9]at HL HP aa T ab af C ah ag J K a6;obtain⟨H,a0⟩:=nM q.length;have a2:Ϣ (q.length=H):=a0;rw[a0]at HP aa T ab af C ah ag J K a6;obtain⟨m,hm⟩:=nM r.length;have HM:Ϣ (r.length=m):=hm;rw[hm]at HP bc⊢;clear a7 a3 a8 a4 a5 a9 a0 hm h y h0 hp hw hr ba;obtain⟨bk,bp,bo,bj,bs,bm,left,right,bd,be,bi,bh,bg⟩:=p;obtain⟨l,lc,rr,rc,lk,bn,rk,bq,g,gc,a,ac⟩:=x;unfold Aj;dsimp only at J K⊢;obtain⟨n8,h8⟩:∃n,bd.length=n:=⟨_,rfl⟩;obtain⟨n9,h9⟩:∃n,be.length=n:=⟨_,rfl⟩;rw[h8]at J⊢;rw[h9]at K⊢;clear h8 h9;by_cases s2:side=2
 ·subst s2;obtain⟨rfl,rfl,rfl⟩:=K.o rfl;clear J K;go_enter func117,ntmps117;go_wp2
  go_loopw [9,10] (λv i wr=> ∃k:Nat,k<=H/\i=vI k/\AM wr w v (B9 r (q.take k))/\ϣ w wr/\∀i,i<k->(d.getD i ϰ).k≠0) (λ_ i _=>H - (intOf i).toNat)
  case atStart=>exact⟨0,Nat.zero_le _,rfl,World.ownsRow_nil _ _ _ _,ϯ,λi f=>absurd f (Nat.not_lt_zero i)⟩
  case round=>
   obtain⟨k,y,rfl,an,F,ak⟩:=hrel;have u:Ϣ (AM wr w u9 (B9 r (q.take k))):=an;have ae:Ϣ (∀i,i<k->(d.getD i ϰ).k≠0):=ak;have W:=F.size;clear an ak;by_cases E:k<H
   ·obtain⟨b,o,e,Z⟩:=HL.o k (by rw[a2.o];exact E);subst e;have V:=HP.o k E;have B:=aa.o k E;have A:=af.o k E;obtain⟨z,hz⟩:=nM (q.getD k 0);rw[hz]at Z V B A;obtain⟨P,rfl⟩:=Int.eq_ofNat_of_zero_le V.1;rw[Int.toNat_natCast]at B A;obtain⟨b1,o1,e1,x1,x2,x3⟩:=HA.o P (by rw[HM.o];omega);subst e1;obtain⟨qk,q1,q2,q3⟩:=lk4 F Z x1 x2 x3;obtain⟨⟨I,X,Y⟩,al⟩:∃z,r.getD P ϰ=z:=⟨_,rfl⟩;rw[al]at q1 q2 q3 B A;dsimp only at q1 q2 q3;have aj:Ϣ (B9 r (q.take (k+1))=B9 r (q.take k)++[⟨I,X,Y⟩]):=B;have ad:Ϣ (d.getD k ϰ=⟨I,X,Y⟩):=A;have i1:=nn0 k;have i2:(k:Int)<(H:Int):=Ϥ;have i3:=nn0 P;have i4:(P:Int)<(m:Int):=Ϥ;have a1:=ab.o k;obtain⟨pr,ap⟩:=nM (B9 r (q.take k));rw[ap]at u aj a1;clear Z x1 x2 x3 hz al B A V ap;by_cases O:I=0
    ·subst O;have D:Ϣ (Q=false):=by show Q=false;rw[HH.o,ah.o k E (by rw[ad.o])];rfl
     have L:Ϣ (R=⟨#[]⟩):=by show R=_;rw[S.o,D.o];rfl
     go_wp2
     go_ret2
     exact⟨QL L.o.symm D.o.symm,F⟩
    ·have bb:(I==0)=false:=by simpa using O
     have aw:Ϣ (∀i,i<k+1->(d.getD i ϰ).k≠0):=λi f=>by
      rcases Nat.lt_succ_iff_lt_or_eq.1 f with U|U
      ·exact ae.o i U
      ·rw[U,ad.o];exact O
     clear O;go_wp2_with (at_builtin;refine ED rfl (.tmp 32) (.tmp 40) rfl w.heap.size u9 pr rfl wr u.o ⟨I,X,Y⟩ wr.heap.size rfl rfl Ϥ W ?_;intro v2 w3 ao az);obtain⟨M,N,G,_⟩:=Bw ao;have ay:=DC F W u.o az;subst G;go_roundw;exact⟨k+1,Ϥ,by go_num,by rw[aj.o];exact ao,ay,aw.o⟩;simp[intOf];omega
   ·have ai:=T.o k Ϥ;have au:Ϣ (Gh d=false):=ag.o (λi f=>ae.o i Ϥ);have D:Ϣ (Q=true):=by show Q=true;rw[HH.o,au.o];rfl
    have L:Ϣ (R=⟨(encR d).toArray⟩):=by show R=_;rw[S.o,D.o];rfl
    obtain⟨M,N,G,_⟩:=Bw u.o;rw[ai]at u G;rw[C.o]at G;subst G;have av:Ϣ (vl.rowAt wr M d):=FF (cap:=N) (base:=w.heap.size) (by rw[C.o];exact u.o);have KK:Ϣ (CT 125 #[vS M H N] wr (ψ wr (.string ⟨(encR d).toArray⟩))):=by
     have:=vl.Hb M N d wr av.o aq.o;rwa[C.o]at this
    obtain⟨kb,am⟩:=nM (⟨(encR d).toArray⟩:ByteArray);rw[am]at KK L;clear ai T aa ab am;go_wp2_with fail;refine KK.o.mono ?_;rintro e w4 ⟨rfl,ax⟩;go_wp2
    go_ret2
    exact⟨QL L.o.symm D.o.symm,F.trans (ax.mono W)⟩
 ·obtain⟨rfl,rfl,rfl⟩:=J.o s2;have br:(side==2)=false:=by simpa using s2
  clear J K s2;go_enter func117,ntmps117;go_wp2
  go_loopw [9,10] (λv i wr=> ∃k:Nat,k<=H/\i=vI k/\AM wr w v (B9 r (q.take k))/\ϣ w wr/\∀i,i<k->(d.getD i ϰ).k≠0) (λ_ i _=>H - (intOf i).toNat)
  case atStart=>exact⟨0,Nat.zero_le _,rfl,World.ownsRow_nil _ _ _ _,ϯ,λi f=>absurd f (Nat.not_lt_zero i)⟩
  case round=>
   obtain⟨k,y,rfl,an,F,ak⟩:=hrel;have u:Ϣ (AM wr w u9 (B9 r (q.take k))):=an;have ae:Ϣ (∀i,i<k->(d.getD i ϰ).k≠0):=ak;have W:=F.size;clear an ak;by_cases E:k<H
   ·obtain⟨b,o,e,Z⟩:=HL.o k (by rw[a2.o];exact E);subst e;have V:=HP.o k E;have B:=aa.o k E;have A:=af.o k E;obtain⟨z,hz⟩:=nM (q.getD k 0);rw[hz]at Z V B A;obtain⟨P,rfl⟩:=Int.eq_ofNat_of_zero_le V.1;rw[Int.toNat_natCast]at B A;obtain⟨b1,o1,e1,x1,x2,x3⟩:=HA.o P (by rw[HM.o];omega);subst e1;obtain⟨qk,q1,q2,q3⟩:=lk4 F Z x1 x2 x3;obtain⟨⟨I,X,Y⟩,al⟩:∃z,r.getD P ϰ=z:=⟨_,rfl⟩;rw[al]at q1 q2 q3 B A;dsimp only at q1 q2 q3;have aj:Ϣ (B9 r (q.take (k+1))=B9 r (q.take k)++[⟨I,X,Y⟩]):=B;have ad:Ϣ (d.getD k ϰ=⟨I,X,Y⟩):=A;have i1:=nn0 k;have i2:(k:Int)<(H:Int):=Ϥ;have i3:=nn0 P;have i4:(P:Int)<(m:Int):=Ϥ;have a1:=ab.o k;obtain⟨pr,ap⟩:=nM (B9 r (q.take k));rw[ap]at u aj a1;clear Z x1 x2 x3 hz al B A V ap;by_cases O:I=0
    ·subst O;have D:Ϣ (Q=false):=by show Q=false;rw[HH.o,ah.o k E (by rw[ad.o])];rfl
     have L:Ϣ (R=⟨#[]⟩):=by show R=_;rw[S.o,D.o];rfl
     go_wp2
     go_ret2
     exact⟨QL L.o.symm D.o.symm,F⟩
    ·have bb:(I==0)=false:=by simpa using O
     have aw:Ϣ (∀i,i<k+1->(d.getD i ϰ).k≠0):=λi f=>by
      rcases Nat.lt_succ_iff_lt_or_eq.1 f with U|U
      ·exact ae.o i U
      ·rw[U,ad.o];exact O
     clear O;go_wp2_with (at_builtin;refine ED rfl (.tmp 32) (.tmp 40) rfl w.heap.size u9 pr rfl wr u.o ⟨I,X,Y⟩ wr.heap.size rfl rfl Ϥ W ?_;intro v2 w3 ao az);obtain⟨M,N,G,_⟩:=Bw ao;have ay:=DC F W u.o az;subst G;go_roundw;exact⟨k+1,Ϥ,by go_num,by rw[aj.o];exact ao,ay,aw.o⟩;simp[intOf];omega
   ·have ai:=T.o k Ϥ;have au:Ϣ (Gh d=false):=ag.o (λi f=>ae.o i Ϥ);have D:Ϣ (Q=true):=by show Q=true;rw[HH.o,au.o];rfl
    have L:Ϣ (R=⟨(encR d).toArray⟩):=by show R=_;rw[S.o,D.o];rfl
    obtain⟨M,N,G,_⟩:=Bw u.o;rw[ai]at u G;rw[C.o]at G;subst G;have av:Ϣ (vl.rowAt wr M d):=FF (cap:=N) (base:=w.heap.size) (by rw[C.o];exact u.o);have KK:Ϣ (CT 125 #[vS M H N] wr (ψ wr (.string ⟨(encR d).toArray⟩))):=by
     have:=vl.Hb M N d wr av.o aq.o;rwa[C.o]at this
    obtain⟨kb,am⟩:=nM (⟨(encR d).toArray⟩:ByteArray);rw[am]at KK L;clear ai T aa ab am;go_wp2_with fail;refine KK.o.mono ?_;rintro e w4 ⟨rfl,ax⟩;go_wp2
    go_ret2
    exact⟨QL L.o.symm D.o.symm,F.trans (ax.mono W)⟩
end pl
namespace bt
open vl pl
end bt
namespace bt
open vl pl
def D3(n:Nat):List Cel:=List.replicate n ⟨0,0,⟨#[]⟩⟩
end bt
namespace bt
open vl pl
theorem AfP:(Tryz.prog.info? 119).map (λi=>(i.zero,i.size,i.bytes))=some (some (.agg #[Ϗ,Ϗ,ϐ]),3,32):=ϧ
theorem Abc(n:Nat)(w:Ϡ)(h:n<=400):
 (Instr.makeSlice 80 (vI (n:Int)) (vI (n:Int))).run Tryz.prog w= .ok (vS (ϋ w) n n) (ϊ w (madeCells #[Ϗ,Ϗ,ϐ] (n * 3)) 119):=by
 have d:=AfP
 cases hi:Tryz.prog.info? 119 with
 |none=>rw[hi]at d;cases d
 |some i=>
  rw[hi]at d;simp only[Option.map_some,Option.some.injEq,Prod.mk.injEq]at d;obtain⟨g,e,f⟩:=d;have:=run_makeSlice (P:=Tryz.prog) (w:=w) 80 119 i _ underlying80 hi g .i64 .i64 n n Ϥ (Int.le_refl _) (by rw[e];simp;omega) (by rw[f];omega) Ϥ;rw[e,Int.toNat_natCast]at this;exact this
theorem Abd(n:Nat)(w:Ϡ)(h1:1<=n)(o:n<=4):vl.rowAt (ϊ w (madeCells #[Ϗ,Ϗ,ϐ] (n * 3)) 119) (ϋ w) (D3 n):=by
 have f:madeCells #[Ϗ,Ϗ,ϐ] (1 * 3)=#[vI 0,vI 0,.string ⟨#[]⟩]:=ϧ;have g:madeCells #[Ϗ,Ϗ,ϐ] (2 * 3)=#[vI 0,vI 0,.string ⟨#[]⟩,vI 0,vI 0,.string ⟨#[]⟩]:=ϧ;have h:madeCells #[Ϗ,Ϗ,ϐ] (3 * 3)=#[vI 0,vI 0,.string ⟨#[]⟩,vI 0,vI 0,.string ⟨#[]⟩,vI 0,vI 0,.string ⟨#[]⟩]:=ϧ;have j:madeCells #[Ϗ,Ϗ,ϐ] (4 * 3)=#[vI 0,vI 0,.string ⟨#[]⟩,vI 0,vI 0,.string ⟨#[]⟩,vI 0,vI 0,.string ⟨#[]⟩,vI 0,vI 0,.string ⟨#[]⟩]:=ϧ;have m:n=1\/n=2\/n=3\/n=4:=Ϥ;intro i k;have d:i<n:=by simpa[D3]using k
 refine⟨_,_,rfl,?_⟩;have e:(D3 n).getD i ϰ=⟨0,0,⟨#[]⟩⟩:=by simp[D3,gDe,d]
 rw[e];have l:i=0\/i=1\/i=2\/i=3:=Ϥ;rcases m with rfl|rfl|rfl|rfl<;>rcases l with rfl|rfl|rfl|rfl<;>first|(exact absurd d ϥ)|((first|rw[f]|rw[g]|rw[h]|rw[j]);clear f g h j;refine⟨?_,?_,?_⟩<;>go_simp)
theorem Y3(p:Pln)(x:PA)(side:Int)(w:Ϡ)(h1:1<=(AD p side).length)(A:(AD p side).length<=4):
 χ 365 #[Aj p x,vI side] w λe F=>(∃h,e= .returned (vS (ϋ h) (AD p side).length (AD p side).length)/\w.heap.size<=h/\vl.rowAt F (ϋ h) (D3 (AD p side).length))/\ϣ w F:=by
 have f:=hIz (λ(d:Ϡ)=>Mu p x side d);have y:Ϣ (∀d,vl.rowAt (ϊ d (madeCells #[Ϗ,Ϗ,ϐ] ((AD p side).length * 3)) 119) (ϋ d) (D3 (AD p side).length)):=λd=>Abd _ d h1 A;have z:Ϣ (∀d,(Instr.makeSlice 80 (vI ((AD p side).length:Int)) (vI ((AD p side).length:Int))).run Tryz.prog d= .ok (vS (ϋ d) (AD p side).length (AD p side).length) (ϊ d (madeCells #[Ϗ,Ϗ,ϐ] ((AD p side).length * 3)) 119)):=λd=>Abc _ d Ϥ;obtain⟨n,v⟩:∃n,(AD p side).length=n:=⟨_,rfl⟩;obtain⟨M,C⟩:=nM (cA x side);obtain⟨N,D⟩:=nM (cC x side);rw[v]at y z⊢;rw[v,C,D]at f;clear v C D h1 A;obtain⟨S,Y,X,Q,ad,U,left,right,J,K,P,H,G⟩:=p;obtain⟨l,T,rr,rc,V,W,rk,ab,g,O,a,L⟩:=x;unfold Aj at f⊢;dsimp only at f⊢;obtain⟨n6,m⟩:∃n,left.length=n:=⟨_,rfl⟩;obtain⟨n7,o⟩:∃n,right.length=n:=⟨_,rfl⟩;obtain⟨n8,q⟩:∃n,J.length=n:=⟨_,rfl⟩;obtain⟨n9,u⟩:∃n,K.length=n:=⟨_,rfl⟩;obtain⟨Z,j⟩:∃n,H.length=n:=⟨_,rfl⟩;obtain⟨aa,k⟩:∃n,G.length=n:=⟨_,rfl⟩;rw[m,o,q,u,j,k]at f;rw[m,o,q,u,j,k];clear m o q u j k;go_enter func365,ntmps365;go_wp2_with fail;refine(f.o _).mono ?_;rintro e d ⟨rfl,I⟩;have B:=ϯ.trans (I.mono Ϧ);have R:=z.o d;have E:=B.size;go_wp2;go_ret;exact⟨⟨_,rfl,E,y.o d⟩,B.alloc E _⟩
end bt
namespace bt
open vl pl
theorem Abe{p:Pln}(h:Ag p=0):p.left.length<=4/\p.right.length<=4:=by
 have d:=(Bv h).2.2.1;exact⟨d.1.1.2,d.1.2.1.2⟩
end bt
namespace bt
open vl pl
def Abf(c:Cel):Value:=.agg #[vI c.k,vI c.n,.string c.s]
abbrev Tal:=Cel×Int
def FL(w:World)(a:Option Addr)(l:List Tal):Prop:=∀i,i<l.length->∃b o,a=some ⟨b,o,none⟩/\Δ w b (o+i * 4) (vI (l.getD i ϰ).1.k)/\Δ w b (o+i * 4+1) (vI (l.getD i ϰ).1.n)/\Δ w b (o+i * 4+2) (.string (l.getD i ϰ).1.s)/\Δ w b (o+i * 4+3) (vI (l.getD i ϰ).2)
theorem Gz{w f:Ϡ}{a:ϡ}{l:List Tal}(h:FL w a l)(d:ϣ w f):FL f a l:=λi g=>by
 obtain⟨b,o,e,j,k,m,n⟩:=h i g;exact⟨b,o,e,cLz d j,cLz d k,cLz d m,cLz d n⟩
end bt
namespace pl
open vl
theorem Fw{j:Array Oper}{rest:List Oper}{o:Oper}{a:Act}{Q:Exit->Act->World->Prop}(y:o.guard=none)(s x:Operand)
 (A:o.op= .call {callee:=.builtin .append,args:=#[s,x],argTypes:=#[29,29]}) (base:Nat) (v:Value) (l:List Int) (D:a.eval s=v) (d:Ϡ)
 (C:Cm d base v l) (n:Int) (B:Nat) (q:d.heap.size=B) (E:a.eval x=vS (ϋ B) 1 1) (K:l.length<=1000000) (J:base<=d.heap.size)
 (h:∀f e,Cm e base f (l++[n])->(d.alloc (.cells #[vI n] 3)).grownBy e v.ownBlock->wpList Tryz.prog j Q rest (a.put o.dst f) e):
 wpList Tryz.prog j Q (o::rest) a (ϊ d #[vI n] 3):=by
 subst q;obtain⟨I,z,F,G,H⟩:=info_parts Tryz.info3;refine wpList_append_own _ y s x 29 A base 3 I (vI 0) 1 8 underlying29 z F G H rfl ϥ v l.length (l.map Gc) D
  (World.ownsRow.alloc C _) ⟨d,0,none⟩ 1 1 [vI n] E rfl (cell_one_new _ _ _) (by intro u g;simp at g;subst g;rfl) Ϯ Ϥ ϩ ?_
 intro f e k m _;refine h f e ?_ m;unfold Cm;rw[lAp,map_append];exact k
theorem D8{base:Nat}{w d e:Ϡ}{v:Value}{l:List Int}{o:Obj}(f:Below base w d)(h0:base<=d.heap.size)(j:Cm d base v l)(g:(d.alloc o).grownBy e v.ownBlock):Below base w e:=
 (f.alloc h0 o).grown g ϩ (λk h=>(World.ownsRow.lt j k h).1)
def EI(c:List Int)(a:Int×Int):Int:=if a.1=3\/a.1=4 then c.getD a.2.toNat 0 else 2
def Ce(p:Pln):List Int:=if p.grouped=true then p.group.map (λi=>(A7 p).getD i.toNat 0)++p.aggs.map (EI (A7 p))else A7 p
theorem Td(f k:Int)(ad:ϡ)(F:Nat)(c:List Int)(w:Ϡ)(u:Ay w ad c)(G:c.length<=ύ)(ha:CN c (f,k))(J:1<=f/\f<=4):
 χ 173 #[.agg #[vI f,vI k],vS ad c.length F] w (ψ w (vI (EI c (f,k)))):=by
 have d:Ϣ (EI c (f,k)=if f=3\/f=4 then c.getD k.toNat 0 else 2):=rfl;obtain⟨n,j⟩:=nM c.length;have E:Ϣ (c.length=n):=j;have l:Ϣ (f≠1->0<=k/\k<(n:Int)):=λh=>by
  unfold CN at ha;dsimp only at ha;rw[if_neg h]at ha;rw[<-j];exact ha.1
 rw[j]at G⊢;clear j ha;obtain⟨v,y⟩:=nM (EI c (f,k));rw[y]at d⊢;clear y;by_cases g:f=3\/f=4
 ·rw[if_pos g]at d;have A:=l.o Ϥ;obtain⟨m,rfl⟩:=Int.eq_ofNat_of_zero_le A.1;rw[Int.toNat_natCast]at d;obtain⟨b,o,e,D⟩:=u m (by rw[E.o];omega);subst e;have B:=bLt _ _ D;have K:b<w.heap.size:=B;obtain⟨z,C⟩:=nM (c.getD m 0);rw[C]at D d;have L:=nn0 m;have M:(m:Int)<(n:Int):=Ϥ;have q:Ϣ (v=z):=d.o;clear C u A d l B;rcases g with rfl|rfl
  all_goals
   go_enter func173,ntmps173;go_wp2;go_ret;exact⟨Ad q.o.symm,ϯ⟩
 ·rw[if_neg g]at d;have H:(f==3)=false:=ϩ;have I:(f==4)=false:=ϩ;have q:Ϣ (v=2):=d.o;clear g u d l;go_enter func173,ntmps173;go_wp2;go_ret;exact⟨Ad q.o.symm,ϯ⟩
theorem takeA(l:List (Int×Int))(k:Nat)(h:k<l.length):l.take (k+1)=l.take k++[l.getD k (0,0)]:=by
 rw[take_succ_eq_append_getElem h];simp[gDe,h]
def QM(p:Pln)(base:Nat)(e:Ending)(w':World):Prop:=
 (Ag p≠0/\e= .returned (.tuple #[ώ,vI (Ag p)]))\/
 (Ag p=0/\∃ad cap,e= .returned (.tuple #[vS ad (Ce p).length cap,Ϗ])/\Ay w' ad (Ce p))
theorem WX(p:Pln)(x:PA)(w:Ϡ)(hw:wfPlan p)(hp:planAt w p x):
 χ 105 #[Aj p x] w λe u=>QM p w.heap.size e u/\ϣ w u:=by
 have O:=hIz (λ(y:Ϡ) (X:ϣ w y)=>Dd p x y hw (Ae hp X));have Q:=λh:Ag p=0=>Bv h;have E:Ϣ (∀y,Ag p=0->ϣ w y->CT 133 #[Aj p x] y λe u=>(∃B D,e= .returned (vS B (A7 p).length D)/\Cm u y.heap.size (vS B (A7 p).length D) (A7 p))/\ϣ y u):=λy h X=>by
  have hm:=Dp (Q h).2.2.1;exact Ew p x y (Ae hp X) Ϥ Ϥ Ϥ Ϥ
 have L:Ϣ (Ag p=0->(∀j,j<p.group.length->0<=p.group.getD j 0/\p.group.getD j 0<((A7 p).length:Int))/\p.group.length<=8/\p.aggs.length<=4/\(A7 p).length<=8):=λh=>by
  have hm:=Dp (Q h).2.2.1;refine⟨UA (Q h).2.2.2.2,Ϥ,Ϥ,?_⟩;unfold A7;rw[lAp];omega
 have K:Ϣ (Ag p=0->p.grouped=true->∀j,j<p.aggs.length->CN (A7 p) (p.aggs.getD j (0,0))/\(1<=(p.aggs.getD j (0,0)).1/\(p.aggs.getD j (0,0)).1<=4)):=λh hg j hj=>⟨UC (Q h).2.2.2.2 j hj,(Q h).1.2.2 hg _ (CQ hj)⟩;have N:yes p.grouped (Ce p=p.group.map (λi=>(A7 p).getD i.toNat 0)++p.aggs.map (EI (A7 p))):=λh=>if_pos h;have M:yes (!p.grouped) (Ce p=A7 p):=λh=>if_neg (by simpa using h);have a3:Ϣ (Ay w x.g p.group):=hp.g;have a2:Ϣ (DI w x.a p.aggs):=hp.a;have ag:Ϣ (Ag p≠0->∀e u,e= .returned (.tuple #[ώ,vI (Ag p)])->QM p w.heap.size e u):=λh e u he=>.inl ⟨h,he⟩;have V:Ϣ (Ag p=0->∀e u B D,e= .returned (.tuple #[vS B (Ce p).length D,Ϗ])->Ay u B (Ce p)->QM p w.heap.size e u):=λh e u B D he hi=>.inr ⟨h,B,D,he,hi⟩;obtain⟨a4,a6⟩:=nM (QM p w.heap.size);rw[a6]at ag V⊢;obtain⟨pe,bj⟩:=nM (Ag p);rw[bj]at O E L K ag V;obtain⟨d,a8⟩:=nM (A7 p);rw[a8]at E L K N M;obtain⟨R,bg⟩:=nM (Ce p);rw[bg]at N M V;clear a6 bj a8 bg hw hp Q;obtain⟨b7,cb,ca,b6,cg,b8,left,right,bw,bx,a5,f,q⟩:=p;obtain⟨l,lc,r,rc,lk,b9,rk,cc,g,gc,a,ac⟩:=x;unfold Aj at O E⊢;dsimp only at O E L K N M a3 a2⊢;obtain⟨n6,h6⟩:∃n,left.length=n:=⟨_,rfl⟩;obtain⟨n7,h7⟩:∃n,right.length=n:=⟨_,rfl⟩;obtain⟨n8,h8⟩:∃n,bw.length=n:=⟨_,rfl⟩;obtain⟨n9,h9⟩:∃n,bx.length=n:=⟨_,rfl⟩;obtain⟨I,P⟩:∃n,f.length=n:=⟨_,rfl⟩;obtain⟨J,G⟩:∃n,q.length=n:=⟨_,rfl⟩;obtain⟨cn,ak⟩:∃n,d.length=n:=⟨_,rfl⟩;have ab:Ϣ (f.length=I):=P;have am:Ϣ (q.length=J):=G;have ae:Ϣ (d.length=cn):=ak;rw[h6,h7,h8,h9,P,G]at O;rw[h6,h7,h8,h9,P,G,ak]at E;rw[P,G,ak]at L;rw[G]at K;rw[h6,h7,h8,h9,P,G];clear h6 h7 h8 h9 P G ak;go_enter func105,ntmps105;go_wp2_with fail;refine(O.o _ ϯ).mono ?_;rintro e y ⟨rfl,ai⟩;have ao:=ϯ.trans (ai.mono Ϧ);obtain⟨aj,bs⟩:=Cu ai;have ay:w.heap.size<y.heap.size:=(by have:=ai.size;simp at this;omega);by_cases h0:pe=0
 ·subst h0;go_wp2_with fail;refine(E.o _ Ϭ ao).mono ?_;rintro e C ⟨⟨B,D,rfl,ho⟩,Y⟩;have ap:=bT ao Y;have af:Ϣ (Ay C B d):=(Ea ho).1;have cd:Δ C w 10 (.bool a5):=by rw[(Cu Y).1 _ _ ay,aj _ _ Ϧ];go_simp
  have cf:Δ C w 11 (vS g I gc):=by rw[(Cu Y).1 _ _ ay,aj _ _ Ϧ];go_simp
  have bz:Δ C w 12 (vS a J ac):=by rw[(Cu Y).1 _ _ ay,aj _ _ Ϧ];go_simp
  obtain⟨bc,bu,b4,b5⟩:=L.o Ϭ;have bp:Ϣ (∀j,j<I->0<=f.getD j 0/\f.getD j 0<(cn:Int)):=bc;have HR:Ϣ (∀e u B D,e= .returned (.tuple #[vS B R.length D,Ϗ])->Ay u B R->a4 e u):=V.o Ϭ;clear aj bs ai Y ho O E bc L ag V
  cases a5 with
  |false=>
   have U:Ϣ (R=d):=M rfl;clear N M;go_wp2
   go_ret2
   exact⟨HR.o _ _ B D (by rw[U.o,ae.o];rfl) (by rw[U.o];exact af.o),ap⟩
  |true=>
   have U:Ϣ (R=f.map (λi=>d.getD i.toNat 0)++q.map (EI d)):=N rfl;clear N M;have bo:Ϣ (∀j,j<J->CN d (q.getD j (0,0))/\(1<=(q.getD j (0,0)).1/\(q.getD j (0,0)).1<=4)):=K.o Ϭ Ϭ;clear K;go_wp2
   go_loopw [6,8,25] (λv _ i wr=> ∃k:Nat,k<=I/\i=vI k/\Cm wr C.heap.size v ((f.take k).map (λi=>d.getD i.toNat 0))/\ϣ C wr) (λ_ _ i _=>I - (intOf i).toNat)
   case atStart=>exact⟨0,Nat.zero_le _,rfl,World.ownsRow_nil _ _ _ _,bR⟩
   case round=>
    obtain⟨k,hk,rfl,bh,H⟩:=hrel;have S:Ϣ (Cm wr C.heap.size u6 ((f.take k).map (λi=>d.getD i.toNat 0))):=bh;have bk:=H.size;have br:=bT ap H;have b2:=cLz H bz;clear bh;by_cases av:k<I
    ·obtain⟨b,o,e,xk⟩:=a3.o k (by rw[ab.o];exact av);subst e;have ax:=bp.o k av;have A:Ϣ ((f.take (k+1)).map (λi=>d.getD i.toNat 0)=(f.take k).map (λi=>d.getD i.toNat 0)++[d.getD (f.getD k 0).toNat 0]):=by
      show(f.take (k+1)).map _=_;rw[Hy f k (by rw[ab.o];exact av),map_append];rfl
     have an:((f.take k).map (λi=>d.getD i.toNat 0)).length<=8:=by rw[lMp,length_take];omega
     obtain⟨z,hz⟩:=nM (f.getD k 0);rw[hz]at xk ax A;obtain⟨zn,rfl⟩:=Int.eq_ofNat_of_zero_le ax.1;rw[Int.toNat_natCast]at A;obtain⟨b1,o1,e1,x1⟩:=af.o zn (by rw[ae.o];omega);subst e1;have qk:=cLz br xk;have q1:=cLz H x1;obtain⟨cv,a9⟩:=nM (d.getD zn 0);rw[a9]at q1 A;obtain⟨pr,aa⟩:=nM ((f.take k).map (λi=>d.getD i.toNat 0));rw[aa]at S A an;have i1:=nn0 k;have i2:(k:Int)<(I:Int):=Ϥ;have i3:=nn0 zn;have i4:(zn:Int)<(cn:Int):=Ϥ;clear xk x1 hz a9 ax aa;go_wp2_with (at_builtin;refine Fw rfl (.tmp 29) (.tmp 34) rfl C.heap.size u6 pr rfl wr S.o cv wr.heap.size rfl rfl Ϥ bk ?_;intro v2 w3 Z au);obtain⟨ah,c2,hv,_⟩:=Bw Z;have aq:=D8 H bk S.o au;subst hv;go_roundw;exact⟨k+1,Ϥ,by go_num,by rw[A.o];exact Z,aq⟩;simp[intOf];omega
    ·have A:Ϣ (f.take k=f):=take_of_length_le (by rw[ab.o];omega);have az:Ϣ (Cm wr C.heap.size u6 (f.map (λi=>d.getD i.toNat 0))):=by
      have:=S.o;rw[A.o]at this;exact this
     have bv:(f.map (λi=>d.getD i.toNat 0)).length<=8:=by rw[lMp,ab.o];exact bu
     obtain⟨F,bd⟩:=nM (f.map (λi=>d.getD i.toNat 0));rw[bd]at az U bv;obtain⟨W2,rfl⟩:∃x,x=wr:=⟨_,rfl⟩;have b0:Ϣ (Ay W2 B d):=Al af.o H;clear S A bd;go_wp2
     go_loopw [6,10,40] (λv _ i wr=> ∃k:Nat,k<=J/\i=vI k/\Cm wr C.heap.size v (F++(q.take k).map (EI d))/\ϣ C wr) (λ_ _ i _=>J - (intOf i).toNat)
     case atStart=>exact⟨0,Nat.zero_le _,rfl,by simpa using az.o,H⟩
     case round=>
      obtain⟨m,hm,rfl,bi,al⟩:=hrel;have T:Ϣ (Cm wr C.heap.size u6 (F++(q.take m).map (EI d))):=bi;have bm:=al.size;have ar:=bT ap al;clear bi;by_cases aw:m<J
      ·obtain⟨b,o,e,xa,xb⟩:=a2.o m (by rw[am.o];exact aw);subst e;have qa:=cLz ar xa;have qb:=cLz ar xb;have W:=bo.o m aw;have A:Ϣ (F++(q.take (m+1)).map (EI d)=F++(q.take m).map (EI d)++[EI d (q.getD m (0,0))]):=by
        show F++(q.take (m+1)).map (EI d)=_;rw[takeA q m (by rw[am.o];exact aw),map_append,<-append_assoc];rfl
       have an:(F++(q.take m).map (EI d)).length<=100:=by rw[lAp,lMp,length_take];omega
       obtain⟨⟨fv,kv⟩,ba⟩:∃z,q.getD m (0,0)=z:=⟨_,rfl⟩;rw[ba]at qa qb W A;dsimp only at qa qb W;have KF:Ϣ (∀y,ϣ C y->CT 173 #[.agg #[vI fv,vI kv],vS B cn D] y (ψ y (vI (EI d (fv,kv))))):=λy X=>by
        have:=Td fv kv B D d y (Al af.o X) (by rw[ae.o];omega) W.1 W.2;rwa[ae.o]at this
       obtain⟨ft,bb⟩:=nM (EI d (fv,kv));rw[bb]at KF A;obtain⟨pr,aa⟩:=nM (F++(q.take m).map (EI d));rw[aa]at T A an;have i1:=nn0 m;have i2:(m:Int)<(J:Int):=Ϥ;clear xa xb ba W bb aa;go_wp2_with fail;refine(KF.o _ (al.alloc bm _)).mono ?_;rintro e w5 ⟨rfl,a7⟩;have be:=(al.alloc bm _).trans (a7.mono ϩ);have a1:Ϣ (Cm w5 C.heap.size u6 pr):=Nb (Nb T.o ϯ) a7;have bn:=be.size;clear T;go_wp2_with (at_builtin;refine Fw rfl (.tmp 44) (.tmp 48) rfl C.heap.size u6 pr rfl w5 a1.o ft w5.heap.size rfl rfl Ϥ bn ?_;intro v2 w3 Z au);obtain⟨ah,c2,hv,_⟩:=Bw Z;have aq:=D8 be bn a1.o au;subst hv;go_roundw;exact⟨m+1,Ϥ,by go_num,by rw[A.o];exact Z,aq⟩;simp[intOf];omega
      ·have A:Ϣ (q.take m=q):=take_of_length_le (by rw[am.o];omega);have a0:Ϣ (Cm wr C.heap.size u6 R):=by
        have:=T.o;rw[A.o,<-U.o]at this;exact this
       obtain⟨ah,c2,hv,_⟩:=Bw a0.o;subst hv;have bq:Ϣ (Ay wr ah R):=(Ea a0.o).1;clear T A;go_wp2
       go_ret2
       exact⟨HR.o _ _ ah c2 rfl bq.o,ar⟩
 ·have b3:(pe !=0)=true:=by simpa using h0
  have HR:Ϣ (∀e u,e= .returned (.tuple #[ώ,vI pe])->a4 e u):=ag.o h0;clear h0;go_wp2
  go_ret2
  exact⟨HR.o _ _ rfl,ao⟩
end pl
namespace bt
open vl pl
end bt
end Go.Proofs.YtfkihidbnfkbaaaGreatDoor
