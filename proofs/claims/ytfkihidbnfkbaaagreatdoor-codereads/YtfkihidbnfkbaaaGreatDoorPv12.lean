import Derived.Test.YtfkihidbnfkbaaaGreatDoorPv10
import Derived.Test.YtfkihidbnfkbaaaGreatDoorPv11
set_option linter.all false
set_option maxHeartbeats 8000000
set_option maxRecDepth 100000
open Inhabited renaming default->ϰ
open List renaming length->ϲ
namespace Go.Proofs.YtfkihidbnfkbaaaGreatDoor
open ChangeShapes WideShapes ChangeAt RowKit List Proofs.Tryz
namespace pl
open vl
variable {a b : Bool} {c : List Int} {side t : Int} {p : Pln} {w : ϟ} {x : PA} {r : List Cel} {i : Nat} {s : ByteArray}
def Wy{a b c d e f:Nat}(h:4<a\/4<b\/4<c\/4<d\/4<e\/8<f):
 ((4:Int)<a)\/(¬(4:Int)<a/\(4:Int)<b)\/(¬(4:Int)<a/\¬(4:Int)<b/\(4:Int)<c)\/(¬(4:Int)<a/\¬(4:Int)<b/\¬(4:Int)<c/\(4:Int)<d)\/
 (¬(4:Int)<a/\¬(4:Int)<b/\¬(4:Int)<c/\¬(4:Int)<d/\(4:Int)<e)\/(¬(4:Int)<a/\¬(4:Int)<b/\¬(4:Int)<c/\¬(4:Int)<d/\¬(4:Int)<e/\(8:Int)<f):=ϣ
theorem OM(p:Pln)(x:PA)(w:ϟ)(v:wfPlan p)(Q:planAt w p x)(C:MQ p):
 χ 36 #[Ai p x] w (ψ w (vI (Ag p))):=by
 have D:=hIz (λ(d:ϟ) (M:Ϣ w d)=>Hn p x d (Cs Q.a M) v.a);have y:=hIz (λ(d:ϟ) (M:Ϣ w d)=>Jq p x d);have A:ϡ (∀d,Ϣ w d->(p.grouped=true->∀i,i<ϲ p.aggs->A8 (p.aggs.getD i (0,0)).1 1 4=true)->CT 84 #[Ai (bare p) (AbX x)] d (ψ d (.bool (!decide (Bs p))))):=λd M h=>by
  rw[<-Wo h];exact Hn (bare p) (AbX x) d (λi m=>absurd m (CA i)) (At _)
 have j:ϡ (Ag p=if decide (Bs p)=false then 4 else if decide (B9 p)=false then 3 else 2):=AbW C;have F:ϡ (∀i,p.grouped=true->i<ϲ p.aggs->A8 (p.aggs.getD i (0,0)).1 1 4=false->decide (Bs p)=false):=λi P m h=>Z6 P m h;have T:ϡ (DK w x.a p.aggs):=Q.a;have ad:=v.a;obtain⟨q1,Z⟩:=nM (decide (Bs p));obtain⟨q2,aa⟩:=nM (decide (B9 p));rw[Z]at D A j F;rw[aa]at y j;obtain⟨pe,Y⟩:=nM (Ag p);rw[Y]at j⊢;unfold MQ at C;clear Z aa v Q Y;obtain⟨ao,au,ar,an,ax,ap,left,right,ai,aj,G,af,q⟩:=p;obtain⟨l,lc,r,rc,lk,aq,rk,aw,g,gc,a,ac⟩:=x;unfold bare AbX at A;unfold Ai at D y A⊢;dsimp only[length_nil]at D y A F T ad C⊢;obtain⟨n6,I⟩:∃n,ϲ left=n:=⟨_,rfl⟩;obtain⟨n7,J⟩:∃n,ϲ right=n:=⟨_,rfl⟩;obtain⟨n8,K⟩:∃n,ϲ ai=n:=⟨_,rfl⟩;obtain⟨n9,L⟩:∃n,ϲ aj=n:=⟨_,rfl⟩;obtain⟨av,H⟩:∃n,ϲ af=n:=⟨_,rfl⟩;obtain⟨f,B⟩:∃n,ϲ q=n:=⟨_,rfl⟩;have HN:ϡ (ϲ q=f):=B;rw[I,J,K,L,H,B]at D y C;rw[I,J,K,L,H,B]at A;rw[B]at F ad;rw[I,J,K,L,H,B];have ab:=Wy C;clear I J K L H B C;by_cases ay:4<f
 ·have ak:(4:Int)<(f:Int):=ϣ;rcases ab with h|h|h|h|h|h
  all_goals
   first
   |(exfalso;omega)
   |skip
  all_goals
   go_enter func36,ntmps36;go_wp2
   go_loop [4] (λi=> ∃k:Nat,k<=f/\i=vI k/\(G=true->∀i,i<k->A8 (q.getD i (0,0)).1 1 4=true)) (λi=>f - (intOf i).toNat)
   case atStart=>exact⟨0,At _,rfl,λ_ i m=>absurd m (CA i)⟩
   case round=>
    obtain⟨k,hk,rfl,V⟩:=hrel;have S:Yt G q k:=V;clear V;by_cases X:k<f
    ·obtain⟨b,o,e,x1,x2⟩:=T.o k (by rw[HN.o];exact X);subst e;have W:=bLt _ _ x1;have al:b<w.heap.size:=W;have am:b<w.heap.size+1:=ϣ;have i1:=nn0 k;have i2:(k:Int)<(f:Int):=ϣ;obtain⟨z,R⟩:=nM ((q.getD k (0,0)).1);have U:ϡ ((q.getD k (0,0)).1=z):=R;rw[R]at x1;clear x2 W R
     cases G with
     |false=>
      go_wp2
      go_round
      case rel=>exact⟨k+1,ϣ,by go_num,λh=>absurd h Ϥ⟩
      case measure=>simp[intOf];omega
     |true=>
      cases hf:A8 z 1 4 with
      |true=>
       go_wp2_with
        (go_at_call 83;refine(An _ _ _ _).mono ?_;rintro e w' ⟨rfl,v⟩;subst v)
       go_round
       case rel=>exact⟨k+1,ϣ,by go_num,λ_ i m=>by
        rcases Fm.1 m with h|h
        ·exact S rfl i h
        ·rw[h,U.o];exact hf⟩
       case measure=>simp[intOf];omega
      |false=>
       have HX:ϡ (pe=4):=by
        show pe=4;rw[j.o,F.o k rfl X (by rw[U.o];exact hf)];rfl
       go_wp2_with
        (go_at_call 83;refine(An _ _ _ _).mono ?_;rintro e w' ⟨rfl,v⟩;subst v)
       go_ret;exact⟨Ad HX.o.symm,(by repeat (first|exact bR|(refine KZ ?_ ϥ _)|(refine DH ?_ Ϫ _)))⟩
    ·have ae:Yt G q f:=λP i m=>S P i ϣ;go_wp2_with fail;refine(A.o _ (by repeat (first|exact bR|(refine KZ ?_ ϥ _)|(refine DH ?_ Ϫ _))) ae).mono ?_;rintro e d ⟨rfl,E⟩;have u:=((by repeat (first|exact bR|(refine KZ ?_ ϥ _)|(refine DH ?_ Ϫ _))):Ϣ w _).trans (E.mono Ϩ);obtain⟨ag,ah⟩:=Cx E
     cases q1
     ·go_wp2;go_ret;exact⟨Ad j.o.symm,u⟩
     go_wp2_with fail;refine(y.o _ u).mono ?_;rintro e w2 ⟨rfl,N⟩;have O:=bT u N
     cases q2
     all_goals
      go_wp2;go_ret;exact⟨Ad j.o.symm,O⟩
 ·have ak:¬(4:Int)<(f:Int):=ϣ;rcases ab with h|h|h|h|h|h
  all_goals
   first
   |(exfalso;omega)
   |skip
  all_goals
   go_enter func36,ntmps36;go_wp2_with fail;refine(D.o _ (by repeat (first|exact bR|(refine KZ ?_ ϥ _)|(refine DH ?_ Ϫ _)))).mono ?_;rintro e d ⟨rfl,E⟩;have u:=((by repeat (first|exact bR|(refine KZ ?_ ϥ _)|(refine DH ?_ Ϫ _))):Ϣ w _).trans (E.mono Ϩ);obtain⟨ag,ah⟩:=Cx E
   cases q1
   ·go_wp2;go_ret;exact⟨Ad j.o.symm,u⟩
   go_wp2_with fail;refine(y.o _ u).mono ?_;rintro e w2 ⟨rfl,N⟩;have O:=bT u N
   cases q2
   all_goals
    go_wp2;go_ret;exact⟨Ad j.o.symm,O⟩
def FF(p:Pln)(x:PA)(w:ϟ)(f:wfPlan p)(d:planAt w p x):
 χ 36 #[Ai p x] w (ψ w (vI (Ag p))):=by
 by_cases e:MQ p
 ·exact OM p x w f d e
 ·exact Nk p x w f d e
def TP:fit t↔tm.Br t=true:=by rw[tm.L2];exact Iff.rfl
def ON(h:fit t):tm.Br t=true:=TP.1 h
def Mw(m s:Int):Int:=if m=1099511627776 then 1099511627776 else m - s
def Fi{a b c d:Int}(h1:a=c)(e:b=d):Ending.returned (.tuple #[vI a,vI b])= .returned (.tuple #[vI c,vI d]):=by rw[h1,e]
theorem AeI(m s:Int)(w:ϟ)(g:fit m)(j:fit s):
 χ 359 #[vI m,vI s] w (ψ w (.tuple #[vI (Mw m s),Ϗ])):=by
 have h:tm.Afe m s=true:=by unfold tm.Afe;rw[ON g,ON j];rfl
 obtain⟨l,n⟩:=g;obtain⟨o,q⟩:=j;by_cases e:m=1099511627776
 ·subst e;have d:ϡ (Mw 1099511627776 s=1099511627776):=rfl;go_enter func359,ntmps359;go_wp2_with (go_at_call 366;refine(tm.Ys _ 1099511627776 s _ ϧ ϧ).mono ?_;rintro e k ⟨rfl,f⟩;subst f)
  go_ret2
  refine⟨Fi d.o.symm rfl,?_⟩
  repeat (first|exact bR|apply KD|(refine DH ?_ Ϫ _))
 ·have u:(m==1099511627776)=false:=by simpa using e
  have d:ϡ (Mw m s=m - s):=AC e;clear e;go_enter func359,ntmps359;go_wp2_with (go_at_call 366;refine(tm.Ys _ m s _ ϧ ϧ).mono ?_;rintro e k ⟨rfl,f⟩;subst f)
  go_ret2
  refine⟨Fi d.o.symm rfl,?_⟩
  repeat (first|exact bR|apply KD|(refine DH ?_ Ϫ _))
def ZF(mark size:Int):Int:=if mark=1099511627776 then 1099511627776 else tm.start (mark+1) size - 1
def Hj(p:Pln)(side mark:Int):Int:=
 if p.kind=1 then Mw mark (if side=2 then -p.low else p.high)else if p.kind=2 then ZF mark p.size else if side=2 then -1099511627777 else mark
def Bw(side:Int):Bool:=decide (side=1\/side=2)
def Ny(p:Pln)(side mark:Int):Int:=if Ag p=0 then(if Bw side=true then(if tm.Br mark=true then 0 else 3)else 4)else Ag p
def Q6(p:Pln)(side mark:Int):Int:=if Ny p side mark=0 then Hj p side mark else 0
def Dz(side:Int)(w:ϟ):χ 210 #[vI side] w λe g=>e= .returned (.bool (Bw side))/\g=w:=by
 by_cases d:side=1
 ·subst d;go_enter func210,ntmps210;go_wp2;go_ret;exact⟨rfl,rfl⟩
 ·have h:(side==1)=false:=by simpa using d
  have f:ϡ (Bw side=(side==2)):=by show Bw side=_;unfold Bw;exact PJ.2 (by simp[d])
  clear d;go_enter func210,ntmps210;go_wp2;go_ret;exact⟨Aa f.o.symm,rfl⟩
def ZG(p:Pln)(x:PA)(side:Int)(w:ϟ)(e:fit p.low):
 χ 360 #[Ai p x,vI side] w (ψ w (vI (if side=2 then -p.low else p.high))):=by
 obtain⟨v,E,D,q,J,z,left,right,C,I,m,k,h⟩:=p;obtain⟨l,y,r,F,A,B,G,H,g,j,a,f⟩:=x;unfold Ai;dsimp only at e⊢;obtain⟨n,o⟩:=e;by_cases d:side=2
 ·subst d;rw[AE rfl];go_enter func360,ntmps360;go_wp2;go_ret;exact⟨Ad (by first|rfl|omega),Ϯ⟩
 ·have u:(side==2)=false:=by simpa using d
  rw[AC d];clear d;go_enter func360,ntmps360;go_wp2;go_ret;exact⟨rfl,Ϯ⟩
theorem TQ(d size:Int)(w:ϟ)(m:fit d)(h1:1<=size)(k:size<=1099511627776):
 χ 361 #[vI d,vI size] w (ψ w (.tuple #[vI (ZF d size),Ϗ])):=by
 obtain⟨v,y⟩:=m;by_cases e:d=1099511627776
 ·subst e;have f:ϡ (ZF 1099511627776 size=1099511627776):=rfl;go_enter func361,ntmps361;go_wp2
  go_ret2
  exact⟨Fi f.o.symm rfl,bR⟩
 ·have z:(d==1099511627776)=false:=by simpa using e
  have l:tm.Br (d+1)=true:=ON ⟨ϣ,ϣ⟩;have f:ϡ (ZF d size=tm.start (d+1) size - 1):=AC e;have o:=tm.AcS (d+1) size ϣ;obtain⟨q,u⟩:=o;clear e;have K:ϡ (∀g,CT 367 #[vI (d+1),vI size] g λe j=>e= .returned (.tuple #[vI (tm.start (d+1) size),vI (tm.start (d+1) size+size),Ϗ])/\j=g):=λg=>tm.Xc (d+1) size g l h1 k;obtain⟨A,h⟩:=nM (tm.start (d+1) size);rw[h]at K f q u;clear h;go_enter func361,ntmps361;go_wp2_with (go_at_call 367;refine(K.o _).mono ?_;rintro e j ⟨rfl,n⟩;subst n)
  go_ret2
  exact⟨Fi f.o.symm rfl,bR⟩
def AgX(h:Ag p=0)(d:p.kind=1):fit p.low/\fit p.high:=by
 have:=(Bt h).2.1.1;rw[AE d]at this;exact this
def ok_2(h:Ag p=0)(d:p.kind=2):1<=p.size/\p.size<=1099511627776:=by
 have:=(Bt h).2.1.2.1;rw[AE d]at this;exact this
def AeJ(h:fit t):fit (-t):=by unfold fit at *;omega
def Hk(pe:Int)(sb fb:Bool):Int:=if pe=0 then(if sb=true then(if fb=true then 0 else 3)else 4)else pe
theorem L1(p:Pln)(x:PA)(side f:Int)(w:ϟ)(d:wfPlan p)(hp:planAt w p x):
 χ 349 #[Ai p x,vI side,vI f] w (ψ w (.tuple #[vI (Q6 p side f),vI (Ny p side f)])):=by
 have H:ϡ (∀j,Ϣ w j->CT 32 #[Ai p x] j (ψ j (vI (Ag p)))):=λj hb=>CY p x j d (Ae hp hb);have m:ϡ (Ny p side f=Hk (Ag p) (Bw side) (tm.Br f)):=rfl;have k:ϡ (Q6 p side f=if Hk (Ag p) (Bw side) (tm.Br f)=0 then Hj p side f else 0):=rfl;have q:ϡ (∀j,Ag p=0->p.kind=1->CT 360 #[Ai p x,vI side] j (ψ j (vI (if side=2 then -p.low else p.high)))):=λj h I=>ZG p x side j (AgX h I).1;have u:ϡ (Ag p=0->p.kind=1->fit (if side=2 then -p.low else p.high)):=λh I=>by
  have:=AgX h I;split
  ·exact AeJ this.1
  ·exact this.2
 have D:ϡ (Ag p=0->p.kind=2->1<=p.size/\p.size<=1099511627776):=λh I=>ok_2 h I;have v:ϡ (p.kind=1->Hj p side f=Mw f (if side=2 then -p.low else p.high)):=λh=>AE h;have B:ϡ (p.kind=2->Hj p side f=ZF f p.size):=λh=>by show Hj p side f=_;unfold Hj;rw[AC ϣ,AE h]
 have C:ϡ (¬p.kind=1->¬p.kind=2->Hj p side f=if side=2 then -1099511627777 else f):=λh1 h2=>by show Hj p side f=_;unfold Hj;rw[AC h1,AC h2]
 obtain⟨N,ae⟩:=nM (Ag p);rw[ae]at H m k q u D;obtain⟨Y,af⟩:=nM (if side=2 then -p.low else p.high);rw[af]at q u v;obtain⟨O,ad⟩:=nM (Q6 p side f);obtain⟨ge,ab⟩:=nM (Ny p side f);obtain⟨K,aa⟩:=nM (Hj p side f);rw[ad]at k⊢;rw[ab]at m⊢;rw[aa]at k v B C;clear ae af ad ab aa d hp;obtain⟨M,av,au,ao,ag,ap,left,right,ar,az,al,ak,aj⟩:=p;obtain⟨l,lc,r,rc,lk,aq,rk,ay,g,gc,a,ac⟩:=x;unfold Ai at H q⊢;dsimp only at H q u D v B C⊢;obtain⟨n6,R⟩:∃n,ϲ left=n:=⟨_,rfl⟩;obtain⟨n7,S⟩:∃n,ϲ right=n:=⟨_,rfl⟩;obtain⟨n8,T⟩:∃n,ϲ ar=n:=⟨_,rfl⟩;obtain⟨n9,U⟩:∃n,ϲ az=n:=⟨_,rfl⟩;obtain⟨aw,P⟩:∃n,ϲ ak=n:=⟨_,rfl⟩;obtain⟨ax,Q⟩:∃n,ϲ aj=n:=⟨_,rfl⟩;rw[R,S,T,U,P,Q]at H q;rw[R,S,T,U,P,Q];clear R S T U P Q;go_enter func349,ntmps349;go_wp2_with fail;refine(H.o _ Ϯ).mono ?_;rintro e j ⟨rfl,V⟩;have z:=Ϯ.trans (V.mono ϥ);obtain⟨a1,a2⟩:=Cx V;have a3:w.heap.size<j.heap.size:=(by have:=V.size;simp at this;omega);by_cases F:N=0
 ·subst F
  cases hsb:Bw side
  ·rw[hsb]at m k;go_wp2_with (go_at_call 210;refine(Dz _ _).mono ?_;rintro e o ⟨rfl,d⟩;subst d)
   go_ret2
   exact⟨Fi (by rw[k.o];rfl) (by rw[m.o];rfl),z⟩
  rw[hsb]at m k
  cases hfb:tm.Br f
  ·rw[hfb]at m k;go_wp2_with (first
    |(go_at_call 210;refine(Dz _ _).mono ?_;rintro e o ⟨rfl,d⟩;subst d)
    |(go_at_call 197;refine(tm.Dn _ _).mono ?_;rintro e o ⟨rfl,d⟩;subst d))
   go_ret2
   exact⟨Fi (by rw[k.o];rfl) (by rw[m.o];rfl),z⟩
  rw[hfb]at m k;have Z:ϡ (fit f):=TP.2 hfb;have E:ϡ (O=K):=k.o;have A:ϡ (ge=0):=m.o;clear k m;by_cases J:M=1
  ·subst J;have HG:=v.o rfl;have y:ϡ (K=Mw f Y):=HG;have KR:ϡ (∀j,CT 360 #[.agg #[vI 1,vI av,vI au,vI ao,vI ag,vI ap,vS l n6 lc,vS r n7 rc,vS lk n8 aq,vS rk n9 ay,.bool al,vS g aw gc,vS a ax ac],vI side] j (ψ j (vI Y))):=λj=>q.o j rfl rfl;have ah:ϡ (fit Y):=u.o rfl rfl;clear HG q u v B C D;go_wp2_with (first
    |(go_at_call 210;refine(Dz _ _).mono ?_;rintro e o ⟨rfl,d⟩;subst d)
    |(go_at_call 197;refine(tm.Dn _ _).mono ?_;rintro e o ⟨rfl,d⟩;subst d)
    |(go_at_call 360;refine(KR.o _).mono ?_;rintro e w2 ⟨rfl,am⟩;have an:=bT z am)
    |(go_at_call 359;refine(AeI _ _ _ Z.o ah.o).mono ?_;rintro e w3 ⟨rfl,W⟩;have X:=bT an W))
   go_ret2
   exact⟨Fi (by rw[E.o,y.o]) A.o.symm,X⟩
  ·have a4:(M==1)=false:=by simpa using J
   by_cases L:M=2
   ·subst L;have y:ϡ (K=ZF f ag):=B.o rfl;have ai:=D.o rfl rfl;obtain⟨s1,G⟩:=ai;clear q u v B C D J;go_wp2_with (first
     |(go_at_call 210;refine(Dz _ _).mono ?_;rintro e o ⟨rfl,d⟩;subst d)
     |(go_at_call 197;refine(tm.Dn _ _).mono ?_;rintro e o ⟨rfl,d⟩;subst d)
     |(go_at_call 361;refine(TQ _ _ _ Z.o s1 G).mono ?_;rintro e w3 ⟨rfl,W⟩;have X:=bT z W))
    go_ret2
    exact⟨Fi (by rw[E.o,y.o]) A.o.symm,X⟩
   ·have a5:(M==2)=false:=by simpa using L
    have y:ϡ (K=if side=2 then -1099511627777 else f):=C.o J L;clear q u v B C D J L;by_cases G:side=2
    ·subst G;go_wp2_with (first
      |(go_at_call 210;refine(Dz _ _).mono ?_;rintro e o ⟨rfl,d⟩;subst d)
      |(go_at_call 197;refine(tm.Dn _ _).mono ?_;rintro e o ⟨rfl,d⟩;subst d))
     go_ret2
     exact⟨Fi (by rw[E.o,y.o];rfl) A.o.symm,z⟩
    ·have a6:(side==2)=false:=by simpa using G
     rw[AC G]at y;clear G;go_wp2_with (first
      |(go_at_call 210;refine(Dz _ _).mono ?_;rintro e o ⟨rfl,d⟩;subst d)
      |(go_at_call 197;refine(tm.Dn _ _).mono ?_;rintro e o ⟨rfl,d⟩;subst d))
     go_ret2
     exact⟨Fi (by rw[E.o,y.o]) A.o.symm,z⟩
 ·have a0:(N !=0)=true:=by simpa using F
  have A:ϡ (ge=N):=by show ge=N;rw[m.o];exact AC F
  have E:ϡ (O=0):=by
   show O=0;rw[k.o,AC];unfold Hk;rw[AC F];exact F
  clear F m k;go_wp2
  go_ret2
  exact⟨Fi E.o.symm A.o.symm,z⟩
def A9(p:Pln)(side:Int):List Int:=if side=2 then p.right else p.left
def keysOf(p:Pln)(side:Int):List Int:=if side=2 then p.rkeys else p.lkeys
def cA(x:PA)(side:Int):Option Addr:=if side=2 then x.r else x.l
def cC(x:PA)(side:Int):Nat:=if side=2 then x.rc else x.lc
def kA(x:PA)(side:Int):Option Addr:=if side=2 then x.rk else x.lk
def kC(x:PA)(side:Int):Nat:=if side=2 then x.rkc else x.lkc
def Acn(h:planAt w p x)(side:Int):Au w (cA x side) (A9 p side):=by
 unfold cA A9;split
 ·exact h.r
 ·exact h.l
def Hi(h:planAt w p x)(side:Int):Au w (kA x side) (keysOf p side):=by
 unfold kA keysOf;split
 ·exact h.rk
 ·exact h.lk
def Nz(h:wfPlan p)(side:Int):ϲ (A9 p side)<=ύ:=by
 unfold A9;split
 ·exact h.r
 ·exact h.l
def DR(c:Cel)(t:Int):Bool:=decide (c.k=0\/c.k=t)
def BQ(r:List Cel)(c:List Int):Bool:=decide (ϲ r=ϲ c)&&allB (ϲ r) (λi=>DR (r.getD i ϰ) (c.getD i 0))
def ZH(p:Pln)(side:Int)(r:List Cel):Int:=
 if Bw side=false then 4 else if (ϲ r)≠(ϲ (A9 p side)) then 2 else if F0 r≠0 then F0 r else if BQ r (A9 p side)=false then 5 else 0
def Bm(p:Pln)(side:Int)(r:List Cel):Int:=if Ag p=0 then ZH p side r else Ag p
def MU(p:Pln)(x:PA)(side:Int)(w:ϟ):
 χ 280 #[Ai p x,vI side] w (ψ w (vS (cA x side) (ϲ (A9 p side)) (cC x side))):=by
 unfold cA cC A9;obtain⟨o,B,A,m,G,u,left,right,z,F,k,j,f⟩:=p;obtain⟨l,q,r,C,v,y,D,E,g,h,a,e⟩:=x;unfold Ai;dsimp only;by_cases d:side=2
 ·subst d;simp only[bE];go_enter func280,ntmps280;go_wp2;go_ret;exact⟨rfl,Ϯ⟩
 ·have n:(side==2)=false:=by simpa using d
  simp only[AC d];clear d;go_enter func280,ntmps280;go_wp2;go_ret;exact⟨rfl,Ϯ⟩
def ZI(p:Pln)(x:PA)(side:Int)(w:ϟ):
 χ 255 #[Ai p x,vI side] w (ψ w (vS (kA x side) (ϲ (keysOf p side)) (kC x side))):=by
 unfold kA kC keysOf;obtain⟨o,B,A,m,G,u,left,right,z,F,k,j,f⟩:=p;obtain⟨l,q,r,C,v,y,D,E,g,h,a,e⟩:=x;unfold Ai;dsimp only;by_cases d:side=2
 ·subst d;simp only[bE];go_enter func255,ntmps255;go_wp2;go_ret;exact⟨rfl,Ϯ⟩
 ·have n:(side==2)=false:=by simpa using d
  simp only[AC d];clear d;go_enter func255,ntmps255;go_wp2;go_ret;exact⟨rfl,Ϯ⟩
theorem AeK(i:Nat)(B:Nat)(ad:Ϡ)(z:Nat)(c:List Int)(k n:Int)(s:ByteArray)(w:ϟ)(l:i<ϲ c)(C:ϲ c<=ύ)(h:Au w ad c)(g:Δ w B 0 (vS ad (ϲ c) z)):
 χ 242 #[vI i,.agg #[vI k,vI n,.string s],ω B] w (ψ w (.bool (DR ⟨k,n,s⟩ (c.getD i 0)))):=by
 have f:=bLt _ _ g;have D:B<w.heap.size:=f;obtain⟨y,I,A,u⟩:=h i l;subst A;have j:=bLt _ _ u;have E:y<w.heap.size:=j;have d:ϡ (DR ⟨k,n,s⟩ (c.getD i 0)=decide (k=0\/k=c.getD i 0)):=rfl;obtain⟨m,o⟩:=nM (ϲ c);obtain⟨t,q⟩:=nM (c.getD i 0);rw[o]at l C g;rw[q]at u d⊢;have G:=nn0 i;have H:(i:Int)<(m:Int):=ϣ;clear o q h f j;by_cases e:k=0
 ·subst e;go_enter func242,ntmps242;go_wp2
  go_quiet (fail)
  go_wp2;go_ret;exact⟨Aa (by rw[d.o];simp),Dl Ϯ _⟩
 ·have F:(k==0)=false:=by simpa using e
  have v:ϡ (DR ⟨k,n,s⟩ t=(k==t)):=by show DR ⟨k,n,s⟩ t=_;rw[d.o];exact PJ.2 (by simp[e])
  clear e d;go_enter func242,ntmps242;go_wp2
  go_quiet (fail)
  go_wp2;go_ret;exact⟨Aa v.o.symm,Dl Ϯ _⟩
theorem Mx(a ad:Ϡ)(g h:Nat)(r:List Cel)(c:List Int)(w:ϟ)(y:ϲ r<=ύ)(v:ϲ c<=ύ)(ha:vl.rowAt w a r)(u:Au w ad c):
 χ 177 #[vS a (ϲ r) g,vS ad (ϲ c) h] w (ψ w (.bool (BQ r c))):=by
 have K:ϡ (∀B d,Ϣ w d->ϲ r=ϲ c->Δ d B 0 (vS ad (ϲ c) h)->
  χ 241 #[vS a (ϲ r) g,.func (.func 242) #[] #[ω B]] d (ψ d (.bool (allB (ϲ r) (λi=>DR (r.getD i ϰ) (c.getD i 0)))))):=by
  intro B d o F e0;exact Sy 242 (IB func242 Ϧ rfl) #[ω B] (λi=>DR (r.getD i ϰ) (c.getD i 0)) a g r d y (Ac ha o)
   (λi D E q=>AeK i B ad h c _ _ _ D ϣ v (Al (Al u o) q) (cLz q e0))
 have f:ϡ (BQ r c=(decide (ϲ r=ϲ c)&&allB (ϲ r) (λi=>DR (r.getD i ϰ) (c.getD i 0)))):=rfl;obtain⟨G,z⟩:=nM (allB (ϲ r) (λi=>DR (r.getD i ϰ) (c.getD i 0)));rw[z]at K f;obtain⟨m,n⟩:=nM (ϲ r);obtain⟨k,l⟩:=nM (ϲ c);rw[n,l]at K f;rw[n,l];clear n l z ha u y v;by_cases j:m=k
 ·subst j;rw[show decide (m=m)=true by simp]at f;have C:((m:Int)==m)=true:=ϥ;go_enter func177,ntmps177;go_wp2_with (go_at_call 241;refine(K.o _ _ Ϯ ϫ ϧ).mono ?_;rintro e d ⟨rfl,A⟩);go_ret;exact⟨Aa (by rw[f.o];simp),Ϯ.trans (A.mono ϥ)⟩
 ·have C:((m:Int)==k)=false:=Ϩ;rw[BP j]at f;clear j;go_enter func177,ntmps177;go_wp2;go_ret;exact⟨Aa (by rw[f.o];rfl),Ϯ⟩
def Ds(c:List Int)(r:List Cel):Int:=if (ϲ r)≠(ϲ c) then 2 else if BQ r c=false then 5 else 0
def Aco(e:ϲ r=ϲ c)(d:i<ϲ r)(h:DR (r.getD i ϰ) (c.getD i 0)=false):Ds c r=5:=by
 unfold Ds BQ;rw[AC (by simp[e]),CK d h];simp
def AeL(d:ϲ r=ϲ c)(h:∀i,i<ϲ r->DR (r.getD i ϰ) (c.getD i 0)=true):Ds c r=0:=by
 unfold Ds BQ;rw[AC (by simp[d]),AA.2 h,DB d];simp
theorem Hl(a ad:Ϡ)(S T:Nat)(r:List Cel)(c:List Int)(w:ϟ)(hl:ϲ r<=ύ)(Y:ϲ c<=ύ)(ha:vl.rowAt w a r)(J:Au w ad c):
 χ 65 #[vS ad (ϲ c) T,vS a (ϲ r) S] w (ψ w (vI (Ds c r))):=by
 have O:ϡ (vl.rowAt w a r):=ha;have P:ϡ (Au w ad c):=J;have o:ϡ (∀i,ϲ r=ϲ c->i<ϲ r->DR (r.getD i ϰ) (c.getD i 0)=false->Ds c r=5):=λi n W X=>Aco n W X;have u:ϡ (ϲ r=ϲ c->(∀i,i<ϲ r->DR (r.getD i ϰ) (c.getD i 0)=true)->Ds c r=0):=AeL;have q:ϡ (ϲ r≠(ϲ c)->Ds c r=2):=λh=>AE h;obtain⟨B,K⟩:=nM (Ds c r);rw[K]at o u q⊢;obtain⟨m,E⟩:=nM (ϲ r);obtain⟨k,e⟩:=nM (ϲ c);have R:ϡ (ϲ r=m):=E;have Q:ϡ (ϲ c=k):=e;rw[E]at hl o u q⊢;rw[e]at Y o u q⊢;clear K E e ha J;by_cases C:m=k
 ·subst C;have Z:((m:Int) !=m)=false:=ϥ;go_enter func65,ntmps65;go_wp2
  go_loopw [5] (λi wr=> ∃j:Nat,j<=m/\i=vI j/\Ϣ w wr/\∀i,i<j->DR (r.getD i ϰ) (c.getD i 0)=true) (λi _=>m - (intOf i).toNat)
  case atStart=>exact⟨0,At _,rfl,bR,λi v=>absurd v (CA i)⟩
  case round=>
   obtain⟨j,hj,rfl,g,I⟩:=hrel;have G:ϡ (∀i,i<j->DR (r.getD i ϰ) (c.getD i 0)=true):=I;clear I;by_cases D:j<m
   ·obtain⟨b1,o1,U,M,x2,x3⟩:=O.o j (by rw[R.o];exact D);obtain⟨b2,o2,V,N⟩:=P.o j (by rw[Q.o];exact D);subst U V;have q1:=cLz g M;have q2:=cLz g N;have i1:=nn0 j;have i2:(j:Int)<(m:Int):=ϣ;have z:ϡ (DR (r.getD j ϰ) (c.getD j 0)=decide ((r.getD j ϰ).k=0\/(r.getD j ϰ).k=c.getD j 0)):=rfl;obtain⟨f,L⟩:=nM ((r.getD j ϰ).k);obtain⟨y,F⟩:=nM (c.getD j 0);rw[L]at q1 z;rw[F]at q2;have A:ϡ (DR (r.getD j ϰ) (c.getD j 0)=decide (f=0\/f=y)):=by show DR (r.getD j ϰ) (c.getD j 0)=_;rw[z.o,F]
    clear L F M x2 x3 N z;have H:ϡ (DR (r.getD j ϰ) (c.getD j 0)=true->∀i,i<j+1->DR (r.getD i ϰ) (c.getD i 0)=true):=λh i v=>by
     rcases Fm.1 v with n|n
     ·exact G.o i n
     ·rw[n];exact h
    by_cases e:f=0
    ·subst e;have d:ϡ (DR (r.getD j ϰ) (c.getD j 0)=true):=by show DR (r.getD j ϰ) (c.getD j 0)=true;rw[A.o];simp
     go_wp2
     go_quiet (fail)
     go_wp2;go_roundw;exact⟨j+1,ϣ,by go_num,Dl g _,H.o d.o⟩;simp[intOf];omega
    ·have ab:(f !=0)=true:=by simpa using e
     by_cases l:f=y
     ·have aa:(f !=y)=false:=by simpa using l
      have d:ϡ (DR (r.getD j ϰ) (c.getD j 0)=true):=by show DR (r.getD j ϰ) (c.getD j 0)=true;rw[A.o];exact DB (.inr l)
      clear e l;go_wp2
      go_quiet (fail)
      go_wp2;go_roundw;exact⟨j+1,ϣ,by go_num,Dl g _,H.o d.o⟩;simp[intOf];omega
     ·have aa:(f !=y)=true:=by simpa using l
      have d:ϡ (B=5):=o.o j ϫ D (by rw[A.o];exact BP (λh=>h.elim e l));clear e l;go_wp2
      go_quiet (fail)
      go_wp2;go_ret;exact⟨Ad d.o.symm,Dl g _⟩
   ·have d:ϡ (B=0):=u.o ϫ (λi v=>G.o i ϣ);go_wp2;go_ret;exact⟨Ad d.o.symm,g⟩
 ·have Z:((m:Int) !=k)=true:=Ϩ;have d:ϡ (B=2):=q.o C;clear C;go_enter func65,ntmps65;go_wp2;go_ret;exact⟨Ad d.o.symm,bR⟩
def Jc(sb:Bool)(n m:Nat)(er:Int)(tb:Bool):Int:=if sb=false then 4 else if n≠m then 2 else if er≠0 then er else if tb=false then 5 else 0
theorem Iv(p:Pln)(x:PA)(side:Int)(F:Ϡ)(cr:Nat)(r:List Cel)(w:ϟ)(y:wfPlan p)(hp:planAt w p x)(hr:vl.rowAt w F r)(a6:B8 r)(ao:ϲ r<=ύ):
 χ 251 #[Ai p x,vI side,vS F (ϲ r) cr] w (ψ w (vI (Bm p side r))):=by
 have q:=hIz (λ(k:ϟ) (H:Ϣ w k)=>CY p x k y (Ae hp H));have u:=hIz (λ(k:ϟ)=>MU p x side k);have N:=hIz (λ(k:ϟ) (H:Ϣ w k)=>Mx F (cA x side) cr (cC x side) r (A9 p side) k ao (Nz y side) (Ac hr H) (Al (Acn hp side) H));have d:ϡ (Bm p side r=if Ag p=0 then Jc (Bw side) (ϲ r) (ϲ (A9 p side)) (F0 r) (BQ r (A9 p side))else Ag p):=rfl;have az:=Nz y side;have HR:ϡ (vl.rowAt w F r):=hr;obtain⟨K,ap⟩:=nM (Ag p);obtain⟨f,ae⟩:=nM (Bm p side r);obtain⟨ca,X⟩:=nM (cA x side);obtain⟨cc,Y⟩:=nM (cC x side);obtain⟨ka,a1⟩:=nM (kA x side);obtain⟨kc,a2⟩:=nM (kC x side);obtain⟨cn,C⟩:=nM (ϲ (A9 p side));obtain⟨kn,a3⟩:=nM (ϲ (keysOf p side));obtain⟨tb,ag⟩:=nM (BQ r (A9 p side));rw[ap]at q d;rw[X,Y,C]at u;rw[X,Y,C,ag]at N;rw[ae,C,ag]at d;rw[C]at az;rw[ae];clear ap ae X Y a1 a2 C a3 ag hp y hr;obtain⟨n,hn⟩:=nM (ϲ r);have E:ϡ (ϲ r=n):=hn;rw[hn]at N d ao⊢;clear hn;obtain⟨bc,bh,bg,bb,bm,bd,left,right,a7,a8,a9,av,au⟩:=p;obtain⟨l,lc,rr,rc,lk,be,rk,bk,g,gc,a,ac⟩:=x;unfold Ai at q u⊢;dsimp only at q u⊢;obtain⟨n6,R⟩:∃n,ϲ left=n:=⟨_,rfl⟩;obtain⟨n7,S⟩:∃n,ϲ right=n:=⟨_,rfl⟩;obtain⟨n8,T⟩:∃n,ϲ a7=n:=⟨_,rfl⟩;obtain⟨n9,U⟩:∃n,ϲ a8=n:=⟨_,rfl⟩;obtain⟨bi,P⟩:∃n,ϲ av=n:=⟨_,rfl⟩;obtain⟨bj,Q⟩:∃n,ϲ au=n:=⟨_,rfl⟩;rw[R,S,T,U,P,Q]at q u;rw[R,S,T,U,P,Q];clear R S T U P Q;go_enter func251,ntmps251;go_wp2_with fail;refine(q.o _ Ϯ).mono ?_;rintro e k ⟨rfl,V⟩;have W:=Ϯ.trans (V.mono ϥ);obtain⟨ay,a0⟩:=Cx V;by_cases G:K=0
 ·subst G;rw[AE rfl]at d
  cases hsb:Bw side
  ·rw[hsb]at d;go_wp2_with (go_at_call 210;refine(Dz _ _).mono ?_;rintro e w' ⟨rfl,y⟩;subst y);go_ret;exact⟨Ad (by rw[d.o];rfl),W⟩
  rw[hsb]at d;go_wp2_with fail;refine(Dz _ _).mono ?_;rintro e w' ⟨rfl,a5⟩;subst a5;rw[hsb];go_wp2_with fail;refine(u.o _).mono ?_;rintro e w2 ⟨rfl,al⟩;have am:=bT W al;clear ay a0 q u V al;by_cases ad:n=cn
  ·subst ad;have a4:((n:Int) !=n)=false:=ϥ;go_wp2
   go_loopw [11,30] (λ_ i wr=> ∃j:Nat,j<=n/\i=vI j/\Ϣ w wr/\∀i,i<j->(r.getD i ϰ).ok) (λ_ i _=>n - (intOf i).toNat)
   case atStart=>exact⟨0,At _,rfl,am,λi Z=>absurd Z (CA i)⟩
   case round=>
    obtain⟨j,hj,rfl,v,ak⟩:=hrel;have M:ϡ (∀i,i<j->(r.getD i ϰ).ok):=ak;have af:=v.size;clear ak;by_cases ab:j<n
    ·obtain⟨b1,o1,e1,x1,x2,x3⟩:=HR.o j (by rw[E.o];exact ab);subst e1;obtain⟨q1,q2,q3⟩:=lk3 v x1 x2 x3;have ah:=Abj a6 j (by rw[E.o];exact ab);have D:ϡ (¬(r.getD j ϰ).ok->F0 r=chk (r.getD j ϰ).k (r.getD j ϰ).n (r.getD j ϰ).s):=Rr r j (by rw[E.o];exact ab) M.o;have A:ϡ ((r.getD j ϰ).ok↔chk (r.getD j ϰ).k (r.getD j ϰ).n (r.getD j ϰ).s=0):=Iff.rfl;have ai:ϡ ((r.getD j ϰ).ok->∀i,i<j+1->(r.getD i ϰ).ok):=λh i Z=>by
      rcases Fm.1 Z with O|O
      ·exact M.o i O
      ·rw[O];exact h
     obtain⟨OK,aj⟩:=nM ((r.getD j ϰ).ok);rw[aj]at D A ai;obtain⟨⟨I,J,L⟩,an⟩:∃z,r.getD j ϰ=z:=⟨_,rfl⟩;rw[an]at q1 q2 q3 ah D A;dsimp only at q1 q2 q3 ah D A;obtain⟨⟨bn,bo⟩,aq⟩:=ah;have i1:=nn0 j;have i2:(j:Int)<(n:Int):=ϣ;clear aj an x1 x2 x3;by_cases o:chk I J L=0
     ·have ax:(chk I J L !=0)=false:=by simpa using o
      have HO:ϡ OK:=A.o.2 o;clear o;go_wp2_with (go_at_call 183;refine(vl.Bb _ _ _ _ aq).mono ?_;rintro e wc ⟨rfl,B⟩;have aa:=(v.alloc af _).trans (B.mono Ϩ));go_roundw;exact⟨j+1,ϣ,by go_num,aa,ai.o HO.o⟩;simp[intOf];omega
     ·have ax:(chk I J L !=0)=true:=by simpa using o
      have m:ϡ (f=chk I J L):=by
       show f=_;rw[d.o,D.o (λh=>o (A.o.1 h))];unfold Jc;rw[AC Ϥ,AC ϥ,AE o]
      clear o;go_wp2_with (go_at_call 183;refine(vl.Bb _ _ _ _ aq).mono ?_;rintro e wc ⟨rfl,B⟩;have aa:=(v.alloc af _).trans (B.mono Ϩ));go_ret;exact⟨Ad m.o.symm,aa⟩
    ·have m:ϡ (f=if tb=false then 5 else 0):=by
      show f=_;rw[d.o,KU r j (by rw[E.o];omega) M.o];unfold Jc;rw[AC Ϥ,AC ϥ,AC ϥ]
     go_wp2_with fail;refine(N.o _ v).mono ?_;rintro e w3 ⟨rfl,aw⟩;have B:=v.trans (aw.mono af)
     cases tb
     all_goals
      go_wp2;go_ret;exact⟨Ad m.o.symm,B⟩
  ·have a4:((n:Int) !=cn)=true:=Ϩ;have m:ϡ (f=2):=by
    show f=2;rw[d.o];unfold Jc;rw[AC Ϥ,AE ad]
   clear ad;go_wp2;go_ret;exact⟨Ad m.o.symm,am⟩
 ·have ba:(K !=0)=true:=by simpa using G
  have m:ϡ (f=K):=by show f=K;rw[d.o,AC G]
  clear G;go_wp2;go_ret;exact⟨Ad m.o.symm,W⟩
def Acp(h:ϲ r<=8):Aq r=F0 r:=by unfold Aq;rw[AC ϣ]
theorem RZ(p:Pln)(x:PA)(side:Int)(E:Ϡ)(I:Nat)(r:List Cel)(w:ϟ)(V:wfPlan p)(hp:planAt w p x)(Z:Ag p=0)(S:vl.rowAt w E r)(aa:B8 r)(Q:ϲ r<=ύ):
 χ 116 #[Ai p x,vI side,vS E (ϲ r) I] w (ψ w (vI (ZH p side r))):=by
 have ae:=Dm (Bt Z).2.2.1;have C:=hIz (λ(y:ϟ) (H:Ϣ w y)=>vl.Cq E I r y (Ac S H) aa Q);have D:=hIz (λ(y:ϟ) (H:Ϣ w y)=>Hl E (cA x side) I (cC x side) r (A9 p side) y Q (Nz V side) (Ac S H) (Al (Acn hp side) H));have f:ϡ (ZH p side r=Jc (Bw side) (ϲ r) (ϲ (A9 p side)) (F0 r) (BQ r (A9 p side))):=rfl;have B:ϡ (Ds (A9 p side) r=if (ϲ r)≠(ϲ (A9 p side)) then 2 else if BQ r (A9 p side)=false then 5 else 0):=rfl;have o:ϡ (ϲ r=ϲ (A9 p side)->Aq r=F0 r):=λh=>Acp (by rw[h];unfold A9;split<;>omega);have A:ϡ (side=2->cA x side=x.r/\cC x side=x.rc/\(ϲ (A9 p side))=ϲ p.right):=λh=>by show cA x side=x.r/\cC x side=x.rc/\_;unfold cA cC A9;simp only[AE h];exact⟨trivial,trivial,trivial⟩
 have z:ϡ (¬side=2->cA x side=x.l/\cC x side=x.lc/\(ϲ (A9 p side))=ϲ p.left):=λh=>by show cA x side=x.l/\cC x side=x.lc/\_;unfold cA cC A9;simp only[AC h];exact⟨trivial,trivial,trivial⟩
 have ad:=Nz V side;obtain⟨d,T⟩:=nM (ZH p side r);obtain⟨ca,L⟩:=nM (cA x side);obtain⟨cc,M⟩:=nM (cC x side);obtain⟨F,u⟩:=nM (ϲ (A9 p side));obtain⟨tb,U⟩:=nM (BQ r (A9 p side));obtain⟨m,Y⟩:=nM (Aq r);obtain⟨er,N⟩:=nM (F0 r);obtain⟨G,O⟩:=nM (Ds (A9 p side) r);rw[Y]at C o;rw[L,M,u,O]at D;rw[T,u,U,N]at f;rw[O,u,U]at B;rw[N,u]at o;rw[L,M,u]at z A;rw[u]at ad;rw[T];clear T L M u U Y N O hp V S Z ae;obtain⟨n,hn⟩:=nM (ϲ r);rw[hn]at C D f B o Q⊢;clear hn aa;obtain⟨al,aq,ap,ak,aw,am,left,right,ao,av,aj,ai,ah⟩:=p;obtain⟨l,lc,rr,rc,lk,an,rk,au,g,gc,a,ac⟩:=x;unfold Ai;dsimp only at z A⊢;obtain⟨n6,W⟩:∃n,ϲ left=n:=⟨_,rfl⟩;obtain⟨n7,X⟩:∃n,ϲ right=n:=⟨_,rfl⟩;rw[W]at z⊢;rw[X]at A⊢;clear W X
 cases hsb:Bw side
 ·rw[hsb]at f;have af:¬(side=1\/side=2):=aO hsb;have s2:(side==2)=false:=Ϩ;have s1:(side !=1)=true:=Ϩ;clear af;go_enter func116,ntmps116;go_wp2;go_ret;exact⟨Ad (by rw[f.o];rfl),Ϯ⟩
 rw[hsb]at f;have ag:side=1\/side=2:=Fd hsb;rcases ag with rfl|rfl
 ·obtain⟨rfl,rfl,rfl⟩:=z.o Ϥ;clear z A hsb;by_cases v:n=F
  ·subst v;have R:((n:Int) !=n)=false:=ϥ;have P:=o.o ϫ;subst P;clear o;go_enter func116,ntmps116;go_wp2_with fail;refine(C.o _ Ϯ).mono ?_;rintro e y ⟨rfl,J⟩;have q:=Ϯ.trans (J.mono ϥ);by_cases k:m=0
   ·subst k;have j:ϡ (d=G):=by
     show d=G;rw[f.o,B.o];unfold Jc;simp
    go_wp2_with fail;refine(D.o _ q).mono ?_;rintro e w2 ⟨rfl,K⟩;go_wp2;go_ret;exact⟨Ad j.o.symm,bT q K⟩
   ·have ab:(m !=0)=true:=by simpa using k
    have j:ϡ (d=m):=by
     show d=m;rw[f.o];unfold Jc;rw[AC Ϥ,AC ϥ,AE k]
    clear k;go_wp2;go_ret;exact⟨Ad j.o.symm,q⟩
  ·have R:((n:Int) !=F)=true:=Ϩ;have j:ϡ (d=2):=by
    show d=2;rw[f.o];unfold Jc;rw[AC Ϥ,AE v]
   clear v;go_enter func116,ntmps116;go_wp2;go_ret;exact⟨Ad j.o.symm,Ϯ⟩
 ·obtain⟨rfl,rfl,rfl⟩:=A.o rfl;clear z A hsb;by_cases v:n=F
  ·subst v;have R:((n:Int) !=n)=false:=ϥ;have P:=o.o ϫ;subst P;clear o;go_enter func116,ntmps116;go_wp2_with fail;refine(C.o _ Ϯ).mono ?_;rintro e y ⟨rfl,J⟩;have q:=Ϯ.trans (J.mono ϥ);by_cases k:m=0
   ·subst k;have j:ϡ (d=G):=by
     show d=G;rw[f.o,B.o];unfold Jc;simp
    go_wp2_with fail;refine(D.o _ q).mono ?_;rintro e w2 ⟨rfl,K⟩;go_wp2;go_ret;exact⟨Ad j.o.symm,bT q K⟩
   ·have ab:(m !=0)=true:=by simpa using k
    have j:ϡ (d=m):=by
     show d=m;rw[f.o];unfold Jc;rw[AC Ϥ,AC ϥ,AE k]
    clear k;go_wp2;go_ret;exact⟨Ad j.o.symm,q⟩
  ·have R:((n:Int) !=F)=true:=Ϩ;have j:ϡ (d=2):=by
    show d=2;rw[f.o];unfold Jc;rw[AC Ϥ,AE v]
   clear v;go_enter func116,ntmps116;go_wp2;go_ret;exact⟨Ad j.o.symm,Ϯ⟩
def Bz(r:List Cel)(l:List Int):List Cel:=l.map λi=>r.getD i.toNat ϰ
def Iw(l:List Int)(k:Nat)(h:k<ϲ l):l.take (k+1)=l.take k++[l.getD k 0]:=by
 rw[M1 h,Fp h]
theorem Acr(a ad:Ϡ)(ca cp:Nat)(r:List Cel)(l:List Int)(w:ϟ)(ak:ϲ r<=ύ)(aj:ϲ l<=1000)(ha:vl.rowAt w a r)(S:Au w ad l)(y:∀x∈l,0<=x/\x<(ϲ r:Int)):
 χ 217 #[vS a (ϲ r) ca,vS ad (ϲ l) cp] w λe w'=>(∃N O,e= .returned (vS N (ϲ (Bz r l)) O)/\AF w' w (vS N (ϲ (Bz r l)) O) (Bz r l))/\Ϣ w w':=by
 have HA:ϡ (vl.rowAt w a r):=ha;have HL:ϡ (Au w ad l):=S;have B:ϡ (∀i,i<ϲ l->0<=l.getD i 0/\l.getD i 0<(ϲ r:Int)):=λi j=>y _ (CS j);obtain⟨m,D⟩:=nM (ϲ r);obtain⟨n,E⟩:=nM (ϲ l);have HM:ϡ (ϲ r=m):=D;have h:ϡ (ϲ l=n):=E;rw[D]at ak B⊢;rw[E]at aj B⊢;clear D E ha S y;obtain⟨i0,j,Z,aa,ab⟩:=IR Tryz.infoV;obtain⟨w0,al,U,R⟩:=fX (P:=prog) w w.heap.size 80 119 i0 (.agg #[Ϗ,Ϗ,ϐ]) 3 underlying80 j Z aa .i64 .i64 n (by rw[ab];omega) ϭ nR;have ag:Ϣ w w0:=bR.grown R nR (λb hb=>by cases hb);have ac:ϡ (AF w0 w (vS (ϋ w) 0 n) []):=U;clear j Z aa ab U R;have K:ϡ (∀k,k<n->Bz r (l.take (k+1))=Bz r (l.take k)++[r.getD (l.getD k 0).toNat ϰ]):=λk q=>by
  show Bz r (l.take (k+1))=_;rw[Iw l k (by rw[h.o];exact q)];simp[Bz]
 have I:ϡ (∀k,n<=k->Bz r (l.take k)=Bz r l):=λk q=>by
  show Bz r (l.take k)=_;rw[KI (by rw[h.o];exact q)]
 have M:ϡ (∀k,ϲ (Bz r (l.take k))<=n):=λk=>by
  show(ϲ (Bz r (l.take k)))<=n;have:ϲ (l.take k)<=ϲ l:=by rw[DA];omega
  unfold Bz;rw[lMp,<-h.o];exact this
 obtain⟨pn,G⟩:=nM (ϲ (Bz r l));have ae:ϡ (ϲ (Bz r l)=pn):=G;rw[G];clear G;go_enter func217,ntmps217;go_wp2
 go_loopw [5,7,13] (λv _ i wr=> ∃k:Nat,k<=n/\i=vI k/\AF wr w v (Bz r (l.take k))/\Ϣ w wr) (λ_ _ i _=>n - (intOf i).toNat)
 case atStart=>exact⟨0,At _,rfl,ac.o,ag⟩
 case round=>
  obtain⟨k,q,rfl,T,u⟩:=hrel;have d:ϡ (AF wr w u5 (Bz r (l.take k))):=T;have X:=u.size;clear T al;by_cases C:k<n
  ·obtain⟨b,o,e,H⟩:=HL.o k (by rw[h.o];exact C);subst e;have F:=B.o k C;have f:=K.o k C;obtain⟨z,Y⟩:=nM (l.getD k 0);rw[Y]at H F f;obtain⟨A,rfl⟩:=SK F.1;rw[SM]at f;obtain⟨b1,o1,e1,x1,x2,x3⟩:=HA.o A (by rw[HM.o];omega);subst e1;obtain⟨qk,q1,q2,q3⟩:=lk4 u H x1 x2 x3;obtain⟨⟨kv,nv,sv⟩,Q⟩:∃z,r.getD A ϰ=z:=⟨_,rfl⟩;rw[Q]at q1 q2 q3 f;dsimp only at q1 q2 q3;have L:ϡ (Bz r (l.take (k+1))=Bz r (l.take k)++[⟨kv,nv,sv⟩]):=f;have i1:=nn0 k;have i2:(k:Int)<(n:Int):=ϣ;have i3:=nn0 A;have i4:(A:Int)<(m:Int):=ϣ;have y:=M.o k;obtain⟨pr,W⟩:=nM (Bz r (l.take k));rw[W]at d L y;clear H x1 x2 x3 Y Q f F W;go_wp2_with (at_builtin;refine EO rfl (.tmp 17) (.tmp 22) rfl w.heap.size u5 pr rfl wr d.o ⟨kv,nv,sv⟩ wr.heap.size rfl rfl ϣ X ?_;intro v2 w3 V ai);obtain⟨af,c2,g,_⟩:=Bo V;have ah:=D8 u X d.o ai;subst g;go_roundw;exact⟨k+1,ϣ,by go_num,by rw[L.o];exact V,ah⟩;simp[intOf];omega
  ·have J:=I.o k ϣ;obtain⟨af,c2,g,_⟩:=Bo d.o;rw[J]at d g;rw[ae.o]at g;subst g;clear J I K M;go_wp2;go_ret;exact⟨⟨_,_,rfl,d.o⟩,u⟩
def Gt(r:List Cel):Bool:=r.any λc=>c.k==0
def Q7(d:i<ϲ r)(h:(r.getD i ϰ).k=0):Gt r=true:=by
 unfold Gt;rw[bP];exact⟨_,CS d,by simpa using h⟩
def TR(h:∀i,i<ϲ r->(r.getD i ϰ).k≠0):Gt r=false:=by
 unfold Gt;rw[cS];intro c e;have:=(Fo (d:=ϰ) (Q:=λc:Cel=>c.k≠0)).1 h c e;simpa using this
def Cb(p:Pln)(side:Int)(r:List Cel):List Cel:=Bz r (keysOf p side)
def hasB(p:Pln)(side:Int)(r:List Cel):Bool:=decide (Bm p side r=0)&& !Gt (Cb p side r)
def A0(p:Pln)(side:Int)(r:List Cel):ByteArray:=⟨(if hasB p side r=true then encR (Cb p side r)else []).toArray⟩
theorem F8(h:Bm p side r=0):Ag p=0/\Bw side=true/\(ϲ r)=ϲ (A9 p side)/\F0 r=0/\BQ r (A9 p side)=true:=by
 unfold Bm at h;by_cases d:Ag p=0
 ·rw[AE d]at h;unfold ZH at h
  cases h1:Bw side with
  |false=>rw[h1]at h;cases h
  |true=>
   rw[h1,AC Ϥ]at h;by_cases f:ϲ r=ϲ (A9 p side)
   ·rw[AC (by simp[f])]at h;by_cases e:F0 r=0
    ·rw[AC (by simp[e])]at h
     cases h4:BQ r (A9 p side)with
     |false=>rw[h4]at h;cases h
     |true=>exact⟨d,rfl,f,e,rfl⟩
    ·rw[AE e]at h;exact absurd h e
   ·rw[AE f]at h;cases h
 ·rw[AC d]at h;exact absurd h d
def keys_in(h:Ag p=0):(∀x∈keysOf p side,0<=x/\x<(ϲ (A9 p side):Int))/\(ϲ (keysOf p side))<=4:=by
 obtain⟨_,_,e,_,d⟩:=Bt h;have f:=Dm e;unfold keysOf A9;split
 ·exact⟨d.2.1.2.2.1.1,ϣ⟩
 ·exact⟨d.2.1.2.1.1,ϣ⟩
def Sa{l:List Int}(h:ϲ l<=8)(j:∀x∈l,0<=x/\x<(ϲ r:Int))(f:F0 r=0)(k:B8 r):rowOk (Bz r l):=by
 refine⟨by unfold Bz;rw[lMp];exact h,λc e=>?_⟩;obtain⟨i,g,rfl⟩:=DS.1 e;have:=j i g;have d:r.getD i.toNat ϰ∈r:=CS ϣ;exact⟨IU f _ d,k _ d⟩
def My{t:ByteArray}{x y:Int}(h1:s=t)(d:a=b)(e:x=y):Ending.returned (.tuple #[.string s,.bool a,vI x])= .returned (.tuple #[.string t,.bool b,vI y]):=by rw[h1,d,e]
theorem Q8(p:Pln)(x:PA)(side:Int)(G:Ϡ)(P:Nat)(r:List Cel)(w:ϟ)(hw:wfPlan p)(hp:planAt w p x)(hr:vl.rowAt w G r)(al:B8 r)(ak:ϲ r<=ύ):
 χ 214 #[Ai p x,vI side,vS G (ϲ r) P] w (ψ w (.tuple #[.string (A0 p side r),.bool (hasB p side r),vI (Bm p side r)])):=by
 have B:=hIz (λ(k:ϟ) (f:Ϣ w k)=>Iv p x side G P r k hw (Ae hp f) (Ac hr f) al ak);have C:=hIz (λ(k:ϟ)=>ZI p x side k);have O:ϡ (∀k,Bm p side r=0->Ϣ w k->CT 217 #[vS G (ϲ r) P,vS (kA x side) (ϲ (keysOf p side)) (kC x side)] k λe w'=>(∃y D,e= .returned (vS y (ϲ (Cb p side r)) D)/\AF w' k (vS y (ϲ (Cb p side r)) D) (Cb p side r))/\Ϣ k w'):=λk o f=>by
  have h:=F8 o;have u:=keys_in (side:=side) h.1;exact Acr G (kA x side) P (kC x side) r (keysOf p side) k ak ϣ (Ac hr f) (Al (Hi hp side) f) (by rw[h.2.2.1];exact u.1)
 have T:ϡ (Bm p side r=0->rowOk (Cb p side r)):=λo=>by
  have h:=F8 o;have u:=keys_in (side:=side) h.1;exact Sa ϣ (by rw[h.2.2.1];exact u.1) h.2.2.2.1 al
 have K:ϡ (hasB p side r=(decide (Bm p side r=0)&& !Gt (Cb p side r))):=rfl;have L:ϡ (A0 p side r=⟨(if hasB p side r=true then encR (Cb p side r)else []).toArray⟩):=rfl;obtain⟨re,E⟩:=nM (Bm p side r);obtain⟨d,I⟩:=nM (Cb p side r);obtain⟨f,Q⟩:=nM (hasB p side r);obtain⟨v,aj⟩:=nM (A0 p side r);obtain⟨ca,a6⟩:=nM (cA x side);obtain⟨cc,a7⟩:=nM (cC x side);obtain⟨ka,ag⟩:=nM (kA x side);obtain⟨kc,ah⟩:=nM (kC x side);obtain⟨cn,a8⟩:=nM (ϲ (A9 p side));obtain⟨kn,ai⟩:=nM (ϲ (keysOf p side));obtain⟨n,R⟩:=nM (ϲ r);rw[E,R]at B;rw[ag,ah,ai]at C;rw[E,ag,ah,ai,I,R]at O;rw[E,I]at T;rw[E,I,Q]at K;rw[Q,I,aj]at L;rw[aj,Q,E,R];clear E I Q aj a6 a7 ag ah a8 ai R hp hw hr al ak;obtain⟨q,hq⟩:=nM (ϲ d);have A:ϡ (ϲ d=q):=hq;rw[hq]at O;clear hq;obtain⟨bj,bo,bn,bg,bs,bk,left,right,bb,bc,bd,a2,a1⟩:=p;obtain⟨l,lc,rr,rc,lk,bm,rk,br,g,gc,a,ac⟩:=x;unfold Ai at B C⊢;dsimp only at B C⊢;obtain⟨n6,X⟩:∃n,ϲ left=n:=⟨_,rfl⟩;obtain⟨n7,Y⟩:∃n,ϲ right=n:=⟨_,rfl⟩;obtain⟨n8,Z⟩:∃n,ϲ bb=n:=⟨_,rfl⟩;obtain⟨n9,h9⟩:∃n,ϲ bc=n:=⟨_,rfl⟩;obtain⟨bp,V⟩:∃n,ϲ a2=n:=⟨_,rfl⟩;obtain⟨bq,W⟩:∃n,ϲ a1=n:=⟨_,rfl⟩;rw[X,Y,Z,h9,V,W]at B C;rw[X,Y,Z,h9,V,W];clear X Y Z h9 V W;go_enter func214,ntmps214;go_wp2_with fail;refine(B.o _ Ϯ).mono ?_;rintro e k ⟨rfl,aa⟩;have ab:=Ϯ.trans (aa.mono ϥ);obtain⟨a5,a9⟩:=Cx aa;by_cases o:re=0
 ·subst o;have S:ϡ (rowOk d):=T.o rfl;have HH:ϡ (f= !Gt d):=K.o;clear T K;go_wp2_with fail;refine(C.o _).mono ?_;rintro e w2 ⟨rfl,aq⟩;have ae:=bT ab aq;go_wp2_with fail;refine(O.o _ ϫ ae).mono ?_;rintro e w3 ⟨⟨y,D,rfl,ax⟩,au⟩;have a4:=bT ae au;have an:ϡ (vl.rowAt w3 y d):=by
   have:=D5 (r:=d) (cap:=D) (ad:=y) (base:=w2.heap.size) (w:=w3) (by rw[A.o];exact ax);exact this
  clear a5 a9 B C O aa aq au ax ab ae;have bi:q<=8:=by have:=S.o.1;rw[A.o]at this;exact this
  go_wp2
  go_loopw [12,29] (λ_ i wr=> ∃j:Nat,j<=q/\i=vI j/\Ϣ w3 wr/\∀i,i<j->(d.getD i ϰ).k≠0) (λ_ i _=>q - (intOf i).toNat)
  case atStart=>exact⟨0,At _,rfl,bR,λi H=>absurd H (CA i)⟩
  case round=>
   obtain⟨j,hj,rfl,J,ap⟩:=hrel;have am:ϡ (∀i,i<j->(d.getD i ϰ).k≠0):=ap;have ba:=J.size;have af:=bT a4 J;clear ap;by_cases aw:j<q
   ·obtain⟨b1,o1,e1,x1,x2,x3⟩:=an.o j (by rw[A.o];exact aw);subst e1;obtain⟨q1,q2,q3⟩:=lk3 J x1 x2 x3;have M:ϡ ((d.getD j ϰ).k=0->Gt d=true):=λh=>Q7 (by rw[A.o];exact aw) h;have N:ϡ ((d.getD j ϰ).k≠0->∀i,i<j+1->(d.getD i ϰ).k≠0):=λh i H=>by
     rcases Fm.1 H with U|U
     ·exact am.o i U
     ·rw[U];exact h
    obtain⟨⟨kv,nv,sv⟩,av⟩:∃z,d.getD j ϰ=z:=⟨_,rfl⟩;rw[av]at q1 q2 q3 M N;dsimp only at q1 q2 q3 M N;have i1:=nn0 j;have i2:(j:Int)<(q:Int):=ϣ;clear av x1 x2 x3;by_cases u:kv=0
    ·subst u;have m:ϡ (f=false):=by show f=false;rw[HH.o,M.o rfl];rfl
     have F:ϡ (v=⟨#[]⟩):=by show v=_;rw[L.o,m.o];rfl
     go_wp2
     go_ret3
     exact⟨My F.o.symm m.o.symm rfl,af.alloc af.size _⟩
    ·have bh:(kv==0)=false:=by simpa using u
     have ao:=N.o u;have a0:ϡ (∀i,i<j+1->(d.getD i ϰ).k≠0):=ao;clear u ao N M;go_wp2;go_roundw;exact⟨j+1,ϣ,by go_num,J.alloc ba _,a0.o⟩;simp[intOf];omega
   ·have az:ϡ (Gt d=false):=TR (λi H=>am.o i (by rw[A.o]at H;omega));have m:ϡ (f=true):=by show f=true;rw[HH.o,az.o];rfl
    have F:ϡ (v=⟨(encR d).toArray⟩):=by show v=_;rw[L.o,m.o];rfl
    have KK:ϡ (CT 112 #[vS y q D] wr (ψ wr (.tuple #[.string (FY d),Ϗ]))):=by
     have:=vl.Ag8 y D d wr (Ac an.o J) S.o;rwa[A.o]at this
    have ay:ϡ (FY d=v):=by
     show FY d=v;rw[F.o];apply str_eq;rw[LP S.o]
    go_wp2_with fail;refine KK.o.mono ?_;rintro e w4 ⟨rfl,a3⟩;go_wp2
    go_ret3
    exact⟨My ay.o m.o.symm rfl,bT af a3⟩
 ·have be:(re !=0)=true:=by simpa using o
  have m:ϡ (f=false):=by show f=false;rw[K.o,BP o];rfl
  have F:ϡ (v=⟨#[]⟩):=by show v=_;rw[L.o,m.o];rfl
  clear o;go_wp2
  go_ret3
  exact⟨My F.o.symm m.o.symm rfl,ab⟩
def Sb{t:ByteArray}(h1:s=t)(d:a=b):Ending.returned (.tuple #[.string s,.bool a])= .returned (.tuple #[.string t,.bool b]):=by rw[h1,d]
def Acs(r:List Cel)(l:List Int)(k:Nat)(h:k<ϲ l):(Bz r l).getD k ϰ=r.getD (l.getD k 0).toNat ϰ:=by
 unfold Bz;simp[gDe,h]
theorem Wz(p:Pln)(x:PA)(side:Int)(ar:Ϡ)(cr:Nat)(r:List Cel)(w:ϟ)(hw:wfPlan p)(hp:planAt w p x)(h0:Bm p side r=0)(hr:vl.rowAt w ar r)(ba:B8 r)(bc:ϲ r<=ύ):
 χ 117 #[Ai p x,vI side,vS ar (ϲ r) cr] w (ψ w (.tuple #[.string (A0 p side r),.bool (hasB p side r)])):=by
 have h:=F8 h0;have y:=keys_in (side:=side) h.1;have a6:=y.2;have aq:ϡ (rowOk (Cb p side r)):=Sa ϣ (by rw[h.2.2.1];exact y.1) h.2.2.2.1 ba;have HH:ϡ (hasB p side r= !Gt (Cb p side r)):=by show(decide (Bm p side r=0)&& !Gt (Cb p side r))=_;rw[DB h0];rfl
 have S:ϡ (A0 p side r=⟨(if hasB p side r=true then encR (Cb p side r)else []).toArray⟩):=rfl;have HA:ϡ (vl.rowAt w ar r):=hr;have HL:ϡ (Au w (kA x side) (keysOf p side)):=Hi hp side;have HP:ϡ (∀i,i<ϲ (keysOf p side)->0<=(keysOf p side).getD i 0/\(keysOf p side).getD i 0<(ϲ r:Int)):=λi f=>by rw[h.2.2.1];exact y.1 _ (CS f)
 have aa:ϡ (∀k,k<ϲ (keysOf p side)->Bz r ((keysOf p side).take (k+1))=Bz r ((keysOf p side).take k)++[r.getD ((keysOf p side).getD k 0).toNat ϰ]):=λk y=>by
  show Bz r ((keysOf p side).take (k+1))=_;rw[Iw _ k y];simp[Bz]
 have T:ϡ (∀k,ϲ (keysOf p side)<=k->Bz r ((keysOf p side).take k)=Cb p side r):=λk y=>by
  show Bz r ((keysOf p side).take k)=_;rw[KI y];rfl
 have ab:ϡ (∀k,ϲ (Bz r ((keysOf p side).take k))<=ϲ (keysOf p side)):=λk=>by
  show(ϲ (Bz r ((keysOf p side).take k)))<=_;unfold Bz;rw[lMp,DA];omega
 have af:ϡ (∀k,k<ϲ (keysOf p side)->(Cb p side r).getD k ϰ=r.getD ((keysOf p side).getD k 0).toNat ϰ):=λk y=>Acs r _ k y;have C:ϡ (ϲ (Cb p side r)=ϲ (keysOf p side)):=by show(ϲ (Cb p side r))=_;unfold Cb Bz;rw[lMp]
 have ah:ϡ (∀j,j<ϲ (keysOf p side)->((Cb p side r).getD j ϰ).k=0->Gt (Cb p side r)=true):=λj hj h=>Q7 (by rw[C.o];exact hj) h;have ag:ϡ ((∀i,i<ϲ (keysOf p side)->((Cb p side r).getD i ϰ).k≠0)->Gt (Cb p side r)=false):=λh=>TR (λi f=>h i (by rw[C.o]at f;exact f));have K:ϡ (side=2->kA x side=x.rk/\kC x side=x.rkc/\(ϲ (keysOf p side))=ϲ p.rkeys):=λh=>by show kA x side=x.rk/\kC x side=x.rkc/\_;unfold kA kC keysOf;simp only[AE h];exact⟨trivial,trivial,trivial⟩
 have J:ϡ (¬side=2->kA x side=x.lk/\kC x side=x.lkc/\(ϲ (keysOf p side))=ϲ p.lkeys):=λh=>by show kA x side=x.lk/\kC x side=x.lkc/\_;unfold kA kC keysOf;simp only[AC h];exact⟨trivial,trivial,trivial⟩
 obtain⟨d,a7⟩:=nM (Cb p side r);obtain⟨Q,a3⟩:=nM (hasB p side r);obtain⟨R,a8⟩:=nM (A0 p side r);obtain⟨ka,a4⟩:=nM (kA x side);obtain⟨kc,a5⟩:=nM (kC x side);obtain⟨q,a9⟩:=nM (keysOf p side);rw[a7]at aq HH S T af C ah ag;rw[a3]at HH S⊢;rw[a8]at S⊢;rw[a4]at HL J K;rw[a5]at J K;rw[a9]at HL HP aa T ab af C ah ag J K a6;obtain⟨H,a0⟩:=nM (ϲ q);have a2:ϡ (ϲ q=H):=a0;rw[a0]at HP aa T ab af C ah ag J K a6;obtain⟨m,hm⟩:=nM (ϲ r);have HM:ϡ (ϲ r=m):=hm;rw[hm]at HP bc⊢;clear a7 a3 a8 a4 a5 a9 a0 hm h y h0 hp hw hr ba;obtain⟨bk,bp,bo,bj,bs,bm,left,right,bd,be,bi,bh,bg⟩:=p;obtain⟨l,lc,rr,rc,lk,bn,rk,bq,g,gc,a,ac⟩:=x;unfold Ai;dsimp only at J K⊢;obtain⟨n8,h8⟩:∃n,ϲ bd=n:=⟨_,rfl⟩;obtain⟨n9,h9⟩:∃n,ϲ be=n:=⟨_,rfl⟩;rw[h8]at J⊢;rw[h9]at K⊢;clear h8 h9;by_cases s2:side=2
 ·subst s2;obtain⟨rfl,rfl,rfl⟩:=K.o rfl;clear J K;go_enter func117,ntmps117;go_wp2
  go_loopw [9,10] (λv i wr=> ∃k:Nat,k<=H/\i=vI k/\AF wr w v (Bz r (q.take k))/\Ϣ w wr/\∀i,i<k->(d.getD i ϰ).k≠0) (λ_ i _=>H - (intOf i).toNat)
  case atStart=>exact⟨0,At _,rfl,KX _ _ _ _,Ϯ,λi f=>absurd f (CA i)⟩
  case round=>
   obtain⟨k,y,rfl,an,F,ak⟩:=hrel;have u:ϡ (AF wr w u9 (Bz r (q.take k))):=an;have ae:ϡ (∀i,i<k->(d.getD i ϰ).k≠0):=ak;have W:=F.size;clear an ak;by_cases E:k<H
   ·obtain⟨b,o,e,Z⟩:=HL.o k (by rw[a2.o];exact E);subst e;have V:=HP.o k E;have B:=aa.o k E;have A:=af.o k E;obtain⟨z,hz⟩:=nM (q.getD k 0);rw[hz]at Z V B A;obtain⟨P,rfl⟩:=SK V.1;rw[SM]at B A;obtain⟨b1,o1,e1,x1,x2,x3⟩:=HA.o P (by rw[HM.o];omega);subst e1;obtain⟨qk,q1,q2,q3⟩:=lk4 F Z x1 x2 x3;obtain⟨⟨I,X,Y⟩,al⟩:∃z,r.getD P ϰ=z:=⟨_,rfl⟩;rw[al]at q1 q2 q3 B A;dsimp only at q1 q2 q3;have aj:ϡ (Bz r (q.take (k+1))=Bz r (q.take k)++[⟨I,X,Y⟩]):=B;have ad:ϡ (d.getD k ϰ=⟨I,X,Y⟩):=A;have i1:=nn0 k;have i2:(k:Int)<(H:Int):=ϣ;have i3:=nn0 P;have i4:(P:Int)<(m:Int):=ϣ;have a1:=ab.o k;obtain⟨pr,ap⟩:=nM (Bz r (q.take k));rw[ap]at u aj a1;clear Z x1 x2 x3 hz al B A V ap;by_cases O:I=0
    ·subst O;have D:ϡ (Q=false):=by show Q=false;rw[HH.o,ah.o k E (by rw[ad.o])];rfl
     have L:ϡ (R=⟨#[]⟩):=by show R=_;rw[S.o,D.o];rfl
     go_wp2
     go_ret2
     exact⟨Sb L.o.symm D.o.symm,F⟩
    ·have bb:(I==0)=false:=by simpa using O
     have aw:ϡ (∀i,i<k+1->(d.getD i ϰ).k≠0):=λi f=>by
      rcases Fm.1 f with U|U
      ·exact ae.o i U
      ·rw[U,ad.o];exact O
     clear O;go_wp2_with (at_builtin;refine EO rfl (.tmp 32) (.tmp 40) rfl w.heap.size u9 pr rfl wr u.o ⟨I,X,Y⟩ wr.heap.size rfl rfl ϣ W ?_;intro v2 w3 ao az);obtain⟨M,N,G,_⟩:=Bo ao;have ay:=D8 F W u.o az;subst G;go_roundw;exact⟨k+1,ϣ,by go_num,by rw[aj.o];exact ao,ay,aw.o⟩;simp[intOf];omega
   ·have ai:=T.o k ϣ;have au:ϡ (Gt d=false):=ag.o (λi f=>ae.o i ϣ);have D:ϡ (Q=true):=by show Q=true;rw[HH.o,au.o];rfl
    have L:ϡ (R=⟨(encR d).toArray⟩):=by show R=_;rw[S.o,D.o];rfl
    obtain⟨M,N,G,_⟩:=Bo u.o;rw[ai]at u G;rw[C.o]at G;subst G;have av:ϡ (vl.rowAt wr M d):=D5 (cap:=N) (base:=w.heap.size) (by rw[C.o];exact u.o);have KK:ϡ (CT 125 #[vS M H N] wr (ψ wr (.string ⟨(encR d).toArray⟩))):=by
     have:=vl.Js M N d wr av.o aq.o;rwa[C.o]at this
    obtain⟨kb,am⟩:=nM (⟨(encR d).toArray⟩:ByteArray);rw[am]at KK L;clear ai T aa ab am;go_wp2_with fail;refine KK.o.mono ?_;rintro e w4 ⟨rfl,ax⟩;go_wp2
    go_ret2
    exact⟨Sb L.o.symm D.o.symm,F.trans (ax.mono W)⟩
 ·obtain⟨rfl,rfl,rfl⟩:=J.o s2;have br:(side==2)=false:=by simpa using s2
  clear J K s2;go_enter func117,ntmps117;go_wp2
  go_loopw [9,10] (λv i wr=> ∃k:Nat,k<=H/\i=vI k/\AF wr w v (Bz r (q.take k))/\Ϣ w wr/\∀i,i<k->(d.getD i ϰ).k≠0) (λ_ i _=>H - (intOf i).toNat)
  case atStart=>exact⟨0,At _,rfl,KX _ _ _ _,Ϯ,λi f=>absurd f (CA i)⟩
  case round=>
   obtain⟨k,y,rfl,an,F,ak⟩:=hrel;have u:ϡ (AF wr w u9 (Bz r (q.take k))):=an;have ae:ϡ (∀i,i<k->(d.getD i ϰ).k≠0):=ak;have W:=F.size;clear an ak;by_cases E:k<H
   ·obtain⟨b,o,e,Z⟩:=HL.o k (by rw[a2.o];exact E);subst e;have V:=HP.o k E;have B:=aa.o k E;have A:=af.o k E;obtain⟨z,hz⟩:=nM (q.getD k 0);rw[hz]at Z V B A;obtain⟨P,rfl⟩:=SK V.1;rw[SM]at B A;obtain⟨b1,o1,e1,x1,x2,x3⟩:=HA.o P (by rw[HM.o];omega);subst e1;obtain⟨qk,q1,q2,q3⟩:=lk4 F Z x1 x2 x3;obtain⟨⟨I,X,Y⟩,al⟩:∃z,r.getD P ϰ=z:=⟨_,rfl⟩;rw[al]at q1 q2 q3 B A;dsimp only at q1 q2 q3;have aj:ϡ (Bz r (q.take (k+1))=Bz r (q.take k)++[⟨I,X,Y⟩]):=B;have ad:ϡ (d.getD k ϰ=⟨I,X,Y⟩):=A;have i1:=nn0 k;have i2:(k:Int)<(H:Int):=ϣ;have i3:=nn0 P;have i4:(P:Int)<(m:Int):=ϣ;have a1:=ab.o k;obtain⟨pr,ap⟩:=nM (Bz r (q.take k));rw[ap]at u aj a1;clear Z x1 x2 x3 hz al B A V ap;by_cases O:I=0
    ·subst O;have D:ϡ (Q=false):=by show Q=false;rw[HH.o,ah.o k E (by rw[ad.o])];rfl
     have L:ϡ (R=⟨#[]⟩):=by show R=_;rw[S.o,D.o];rfl
     go_wp2
     go_ret2
     exact⟨Sb L.o.symm D.o.symm,F⟩
    ·have bb:(I==0)=false:=by simpa using O
     have aw:ϡ (∀i,i<k+1->(d.getD i ϰ).k≠0):=λi f=>by
      rcases Fm.1 f with U|U
      ·exact ae.o i U
      ·rw[U,ad.o];exact O
     clear O;go_wp2_with (at_builtin;refine EO rfl (.tmp 32) (.tmp 40) rfl w.heap.size u9 pr rfl wr u.o ⟨I,X,Y⟩ wr.heap.size rfl rfl ϣ W ?_;intro v2 w3 ao az);obtain⟨M,N,G,_⟩:=Bo ao;have ay:=D8 F W u.o az;subst G;go_roundw;exact⟨k+1,ϣ,by go_num,by rw[aj.o];exact ao,ay,aw.o⟩;simp[intOf];omega
   ·have ai:=T.o k ϣ;have au:ϡ (Gt d=false):=ag.o (λi f=>ae.o i ϣ);have D:ϡ (Q=true):=by show Q=true;rw[HH.o,au.o];rfl
    have L:ϡ (R=⟨(encR d).toArray⟩):=by show R=_;rw[S.o,D.o];rfl
    obtain⟨M,N,G,_⟩:=Bo u.o;rw[ai]at u G;rw[C.o]at G;subst G;have av:ϡ (vl.rowAt wr M d):=D5 (cap:=N) (base:=w.heap.size) (by rw[C.o];exact u.o);have KK:ϡ (CT 125 #[vS M H N] wr (ψ wr (.string ⟨(encR d).toArray⟩))):=by
     have:=vl.Js M N d wr av.o aq.o;rwa[C.o]at this
    obtain⟨kb,am⟩:=nM (⟨(encR d).toArray⟩:ByteArray);rw[am]at KK L;clear ai T aa ab am;go_wp2_with fail;refine KK.o.mono ?_;rintro e w4 ⟨rfl,ax⟩;go_wp2
    go_ret2
    exact⟨Sb L.o.symm D.o.symm,F.trans (ax.mono W)⟩
end pl
namespace bt
open vl pl
def D3(n:Nat):List Cel:=List.replicate n ⟨0,0,⟨#[]⟩⟩
def AgY:(prog.info? 119).map (λi=>(i.zero,i.size,i.bytes))=some (some (.agg #[Ϗ,Ϗ,ϐ]),3,32):=Ϧ
theorem Acu(n:Nat)(w:ϟ)(h:n<=400):
 (Instr.makeSlice 80 (vI (n:Int)) (vI (n:Int))).run prog w= .ok (vS (ϋ w) n n) (ϊ w (madeCells #[Ϗ,Ϗ,ϐ] (n * 3)) 119):=by
 have d:=AgY
 cases hi:prog.info? 119 with
 |none=>rw[hi]at d;cases d
 |some i=>
  rw[hi]at d;simp only[cT,Option.some.injEq,bG]at d;obtain⟨g,e,f⟩:=d;have:=run_makeSlice (P:=prog) (w:=w) 80 119 i _ underlying80 hi g .i64 .i64 n n ϣ (Int.le_refl _) (by rw[e];simp;omega) (by rw[f];omega) ϣ;rw[e,SM]at this;exact this
theorem Acv(n:Nat)(w:ϟ)(h1:1<=n)(o:n<=4):vl.rowAt (ϊ w (madeCells #[Ϗ,Ϗ,ϐ] (n * 3)) 119) (ϋ w) (D3 n):=by
 have f:madeCells #[Ϗ,Ϗ,ϐ] (1 * 3)=#[vI 0,vI 0,.string ⟨#[]⟩]:=Ϧ;have g:madeCells #[Ϗ,Ϗ,ϐ] (2 * 3)=#[vI 0,vI 0,.string ⟨#[]⟩,vI 0,vI 0,.string ⟨#[]⟩]:=Ϧ;have h:madeCells #[Ϗ,Ϗ,ϐ] (3 * 3)=#[vI 0,vI 0,.string ⟨#[]⟩,vI 0,vI 0,.string ⟨#[]⟩,vI 0,vI 0,.string ⟨#[]⟩]:=Ϧ;have j:madeCells #[Ϗ,Ϗ,ϐ] (4 * 3)=#[vI 0,vI 0,.string ⟨#[]⟩,vI 0,vI 0,.string ⟨#[]⟩,vI 0,vI 0,.string ⟨#[]⟩,vI 0,vI 0,.string ⟨#[]⟩]:=Ϧ;have m:n=1\/n=2\/n=3\/n=4:=ϣ;intro i k;have d:i<n:=by simpa[D3]using k
 refine⟨_,_,rfl,?_⟩;have e:(D3 n).getD i ϰ=⟨0,0,⟨#[]⟩⟩:=by simp[D3,gDe,d]
 rw[e];have l:i=0\/i=1\/i=2\/i=3:=ϣ;rcases m with rfl|rfl|rfl|rfl<;>rcases l with rfl|rfl|rfl|rfl<;>first|(exact absurd d Ϥ)|((first|rw[f]|rw[g]|rw[h]|rw[j]);clear f g h j;refine⟨?_,?_,?_⟩<;>go_simp)
theorem ZJ(p:Pln)(x:PA)(side:Int)(w:ϟ)(h1:1<=ϲ (A9 p side))(A:ϲ (A9 p side)<=4):
 χ 365 #[Ai p x,vI side] w λe F=>(∃h,e= .returned (vS (ϋ h) (ϲ (A9 p side)) (ϲ (A9 p side)))/\w.heap.size<=h/\vl.rowAt F (ϋ h) (D3 (ϲ (A9 p side))))/\Ϣ w F:=by
 have f:=hIz (λ(d:ϟ)=>MU p x side d);have y:ϡ (∀d,vl.rowAt (ϊ d (madeCells #[Ϗ,Ϗ,ϐ] (ϲ (A9 p side) * 3)) 119) (ϋ d) (D3 (ϲ (A9 p side)))):=λd=>Acv _ d h1 A;have z:ϡ (∀d,(Instr.makeSlice 80 (vI (ϲ (A9 p side):Int)) (vI (ϲ (A9 p side):Int))).run prog d= .ok (vS (ϋ d) (ϲ (A9 p side)) (ϲ (A9 p side))) (ϊ d (madeCells #[Ϗ,Ϗ,ϐ] (ϲ (A9 p side) * 3)) 119)):=λd=>Acu _ d ϣ;obtain⟨n,v⟩:∃n,ϲ (A9 p side)=n:=⟨_,rfl⟩;obtain⟨M,C⟩:=nM (cA x side);obtain⟨N,D⟩:=nM (cC x side);rw[v]at y z⊢;rw[v,C,D]at f;clear v C D h1 A;obtain⟨S,Y,X,Q,ad,U,left,right,J,K,P,H,G⟩:=p;obtain⟨l,T,rr,rc,V,W,rk,ab,g,O,a,L⟩:=x;unfold Ai at f⊢;dsimp only at f⊢;obtain⟨n6,m⟩:∃n,ϲ left=n:=⟨_,rfl⟩;obtain⟨n7,o⟩:∃n,ϲ right=n:=⟨_,rfl⟩;obtain⟨n8,q⟩:∃n,ϲ J=n:=⟨_,rfl⟩;obtain⟨n9,u⟩:∃n,ϲ K=n:=⟨_,rfl⟩;obtain⟨Z,j⟩:∃n,ϲ H=n:=⟨_,rfl⟩;obtain⟨aa,k⟩:∃n,ϲ G=n:=⟨_,rfl⟩;rw[m,o,q,u,j,k]at f;rw[m,o,q,u,j,k];clear m o q u j k;go_enter func365,ntmps365;go_wp2_with fail;refine(f.o _).mono ?_;rintro e d ⟨rfl,I⟩;have B:=Ϯ.trans (I.mono ϥ);have R:=z.o d;have E:=B.size;go_wp2;go_ret;exact⟨⟨_,rfl,E,y.o d⟩,B.alloc E _⟩
end bt
namespace pl
open vl
theorem F9{j:Array Oper}{rest:List Oper}{o:Oper}{a:Act}{Q:Exit->Act->World->Prop}(y:o.guard=none)(s x:Operand)
 (A:o.op= .call {callee:=.builtin .append,args:=#[s,x],argTypes:=#[29,29]}) (base:Nat) (v:Value) (l:List Int) (D:a.eval s=v) (d:ϟ)
 (C:Cm d base v l) (n:Int) (B:Nat) (q:d.heap.size=B) (E:a.eval x=vS (ϋ B) 1 1) (K:ϲ l<=1000000) (J:base<=d.heap.size)
 (h:∀f e,Cm e base f (l++[n])->(d.alloc (.cells #[vI n] 3)).grownBy e v.ownBlock->wpList prog j Q rest (a.put o.dst f) e):
 wpList prog j Q (o::rest) a (ϊ d #[vI n] 3):=by
 subst q;obtain⟨I,z,F,G,H⟩:=IR Tryz.info3;refine Vc _ y s x 29 A base 3 I (vI 0) 1 8 underlying29 z F G H rfl Ϥ v (ϲ l) (l.map Gz) D
  (WD C _) ⟨d,0,none⟩ 1 1 [vI n] E rfl (cell_one_new _ _ _) (by intro u g;simp at g;subst g;rfl) ϭ ϣ Ϩ ?_
 intro f e k m _;refine h f e ?_ m;unfold Cm;rw[lAp,DQ];exact k
def DD{base:Nat}{w d w':ϟ}{v:Value}{l:List Int}{o:Obj}(e:Below base w d)(h0:base<=d.heap.size)(h:Cm d base v l)(f:(d.alloc o).grownBy w' v.ownBlock):Below base w w':=
 (e.alloc h0 o).grown f Ϩ (λk g=>(aB h k g).1)
def Fb(c:List Int)(a:Int×Int):Int:=if a.1=3\/a.1=4 then c.getD a.2.toNat 0 else 2
def Cc(p:Pln):List Int:=if p.grouped=true then p.group.map (λi=>(A5 p).getD i.toNat 0)++p.aggs.map (Fb (A5 p))else A5 p
theorem TS(f k:Int)(ad:Ϡ)(F:Nat)(c:List Int)(w:ϟ)(u:Au w ad c)(G:ϲ c<=ύ)(ha:CR c (f,k))(J:1<=f/\f<=4):
 χ 173 #[.agg #[vI f,vI k],vS ad (ϲ c) F] w (ψ w (vI (Fb c (f,k)))):=by
 have d:ϡ (Fb c (f,k)=if f=3\/f=4 then c.getD k.toNat 0 else 2):=rfl;obtain⟨n,j⟩:=nM (ϲ c);have E:ϡ (ϲ c=n):=j;have l:ϡ (f≠1->0<=k/\k<(n:Int)):=λh=>by
  unfold CR at ha;dsimp only at ha;rw[AC h]at ha;rw[<-j];exact ha.1
 rw[j]at G⊢;clear j ha;obtain⟨v,y⟩:=nM (Fb c (f,k));rw[y]at d⊢;clear y;by_cases g:f=3\/f=4
 ·rw[AE g]at d;have A:=l.o ϣ;obtain⟨m,rfl⟩:=SK A.1;rw[SM]at d;obtain⟨b,o,e,D⟩:=u m (by rw[E.o];omega);subst e;have B:=bLt _ _ D;have K:b<w.heap.size:=B;obtain⟨z,C⟩:=nM (c.getD m 0);rw[C]at D d;have L:=nn0 m;have M:(m:Int)<(n:Int):=ϣ;have q:ϡ (v=z):=d.o;clear C u A d l B;rcases g with rfl|rfl
  all_goals
   go_enter func173,ntmps173;go_wp2;go_ret;exact⟨Ad q.o.symm,Ϯ⟩
 ·rw[AC g]at d;have H:(f==3)=false:=Ϩ;have I:(f==4)=false:=Ϩ;have q:ϡ (v=2):=d.o;clear g u d l;go_enter func173,ntmps173;go_wp2;go_ret;exact⟨Ad q.o.symm,Ϯ⟩
def takeA(l:List (Int×Int))(k:Nat)(h:k<ϲ l):l.take (k+1)=l.take k++[l.getD k (0,0)]:=by
 rw[M1 h];simp[gDe,h]
def Sc(p:Pln)(base:Nat)(e:Ending)(w':World):Prop:=
 (Ag p≠0/\e= .returned (.tuple #[ώ,vI (Ag p)]))\/
 (Ag p=0/\∃ad cap,e= .returned (.tuple #[vS ad (ϲ (Cc p)) cap,Ϗ])/\Au w' ad (Cc p))
theorem Yf(p:Pln)(x:PA)(w:ϟ)(hw:wfPlan p)(hp:planAt w p x):
 χ 105 #[Ai p x] w λe u=>Sc p w.heap.size e u/\Ϣ w u:=by
 have O:=hIz (λ(y:ϟ) (X:Ϣ w y)=>CY p x y hw (Ae hp X));have Q:=λh:Ag p=0=>Bt h;have E:ϡ (∀y,Ag p=0->Ϣ w y->CT 133 #[Ai p x] y λe u=>(∃B D,e= .returned (vS B (ϲ (A5 p)) D)/\Cm u y.heap.size (vS B (ϲ (A5 p)) D) (A5 p))/\Ϣ y u):=λy h X=>by
  have hm:=Dm (Q h).2.2.1;exact EJ p x y (Ae hp X) ϣ ϣ ϣ ϣ
 have L:ϡ (Ag p=0->(∀j,j<ϲ p.group->0<=p.group.getD j 0/\p.group.getD j 0<(ϲ (A5 p):Int))/\(ϲ p.group)<=8/\(ϲ p.aggs)<=4/\(ϲ (A5 p))<=8):=λh=>by
  have hm:=Dm (Q h).2.2.1;refine⟨Wm (Q h).2.2.2.2,ϣ,ϣ,?_⟩;unfold A5;rw[lAp];omega
 have K:ϡ (Ag p=0->p.grouped=true->∀j,j<ϲ p.aggs->CR (A5 p) (p.aggs.getD j (0,0))/\(1<=(p.aggs.getD j (0,0)).1/\(p.aggs.getD j (0,0)).1<=4)):=λh hg j hj=>⟨Wn (Q h).2.2.2.2 j hj,(Q h).1.2.2 hg _ (CS hj)⟩;have N:yes p.grouped (Cc p=p.group.map (λi=>(A5 p).getD i.toNat 0)++p.aggs.map (Fb (A5 p))):=λh=>AE h;have M:yes (!p.grouped) (Cc p=A5 p):=λh=>AC (by simpa using h);have a3:ϡ (Au w x.g p.group):=hp.g;have a2:ϡ (DK w x.a p.aggs):=hp.a;have ag:ϡ (Ag p≠0->∀e u,e= .returned (.tuple #[ώ,vI (Ag p)])->Sc p w.heap.size e u):=λh e u he=>.inl ⟨h,he⟩;have V:ϡ (Ag p=0->∀e u B D,e= .returned (.tuple #[vS B (ϲ (Cc p)) D,Ϗ])->Au u B (Cc p)->Sc p w.heap.size e u):=λh e u B D he hi=>.inr ⟨h,B,D,he,hi⟩;obtain⟨a4,a6⟩:=nM (Sc p w.heap.size);rw[a6]at ag V⊢;obtain⟨pe,bj⟩:=nM (Ag p);rw[bj]at O E L K ag V;obtain⟨d,a8⟩:=nM (A5 p);rw[a8]at E L K N M;obtain⟨R,bg⟩:=nM (Cc p);rw[bg]at N M V;clear a6 bj a8 bg hw hp Q;obtain⟨b7,cb,ca,b6,cg,b8,left,right,bw,bx,a5,f,q⟩:=p;obtain⟨l,lc,r,rc,lk,b9,rk,cc,g,gc,a,ac⟩:=x;unfold Ai at O E⊢;dsimp only at O E L K N M a3 a2⊢;obtain⟨n6,h6⟩:∃n,ϲ left=n:=⟨_,rfl⟩;obtain⟨n7,h7⟩:∃n,ϲ right=n:=⟨_,rfl⟩;obtain⟨n8,h8⟩:∃n,ϲ bw=n:=⟨_,rfl⟩;obtain⟨n9,h9⟩:∃n,ϲ bx=n:=⟨_,rfl⟩;obtain⟨I,P⟩:∃n,ϲ f=n:=⟨_,rfl⟩;obtain⟨J,G⟩:∃n,ϲ q=n:=⟨_,rfl⟩;obtain⟨cn,ak⟩:∃n,ϲ d=n:=⟨_,rfl⟩;have ab:ϡ (ϲ f=I):=P;have am:ϡ (ϲ q=J):=G;have ae:ϡ (ϲ d=cn):=ak;rw[h6,h7,h8,h9,P,G]at O;rw[h6,h7,h8,h9,P,G,ak]at E;rw[P,G,ak]at L;rw[G]at K;rw[h6,h7,h8,h9,P,G];clear h6 h7 h8 h9 P G ak;go_enter func105,ntmps105;go_wp2_with fail;refine(O.o _ Ϯ).mono ?_;rintro e y ⟨rfl,ai⟩;have ao:=Ϯ.trans (ai.mono ϥ);obtain⟨aj,bs⟩:=Cx ai;have ay:w.heap.size<y.heap.size:=(by have:=ai.size;simp at this;omega);by_cases h0:pe=0
 ·subst h0;go_wp2_with fail;refine(E.o _ ϫ ao).mono ?_;rintro e C ⟨⟨B,D,rfl,ho⟩,Y⟩;have ap:=bT ao Y;have af:ϡ (Au C B d):=(Eg ho).1;have cd:Δ C w 10 (.bool a5):=by rw[(Cx Y).1 _ _ ay,aj _ _ ϥ];go_simp
  have cf:Δ C w 11 (vS g I gc):=by rw[(Cx Y).1 _ _ ay,aj _ _ ϥ];go_simp
  have bz:Δ C w 12 (vS a J ac):=by rw[(Cx Y).1 _ _ ay,aj _ _ ϥ];go_simp
  obtain⟨bc,bu,b4,b5⟩:=L.o ϫ;have bp:ϡ (∀j,j<I->0<=f.getD j 0/\f.getD j 0<(cn:Int)):=bc;have HR:ϡ (∀e u B D,e= .returned (.tuple #[vS B (ϲ R) D,Ϗ])->Au u B R->a4 e u):=V.o ϫ;clear aj bs ai Y ho O E bc L ag V
  cases a5 with
  |false=>
   have U:ϡ (R=d):=M rfl;clear N M;go_wp2
   go_ret2
   exact⟨HR.o _ _ B D (by rw[U.o,ae.o];rfl) (by rw[U.o];exact af.o),ap⟩
  |true=>
   have U:ϡ (R=f.map (λi=>d.getD i.toNat 0)++q.map (Fb d)):=N rfl;clear N M;have bo:ϡ (∀j,j<J->CR d (q.getD j (0,0))/\(1<=(q.getD j (0,0)).1/\(q.getD j (0,0)).1<=4)):=K.o ϫ ϫ;clear K;go_wp2
   go_loopw [6,8,25] (λv _ i wr=> ∃k:Nat,k<=I/\i=vI k/\Cm wr C.heap.size v ((f.take k).map (λi=>d.getD i.toNat 0))/\Ϣ C wr) (λ_ _ i _=>I - (intOf i).toNat)
   case atStart=>exact⟨0,At _,rfl,KX _ _ _ _,bR⟩
   case round=>
    obtain⟨k,hk,rfl,bh,H⟩:=hrel;have S:ϡ (Cm wr C.heap.size u6 ((f.take k).map (λi=>d.getD i.toNat 0))):=bh;have bk:=H.size;have br:=bT ap H;have b2:=cLz H bz;clear bh;by_cases av:k<I
    ·obtain⟨b,o,e,xk⟩:=a3.o k (by rw[ab.o];exact av);subst e;have ax:=bp.o k av;have A:ϡ ((f.take (k+1)).map (λi=>d.getD i.toNat 0)=(f.take k).map (λi=>d.getD i.toNat 0)++[d.getD (f.getD k 0).toNat 0]):=by
      show(f.take (k+1)).map _=_;rw[Iw f k (by rw[ab.o];exact av),DQ];rfl
     have an:ϲ ((f.take k).map (λi=>d.getD i.toNat 0))<=8:=by rw[lMp,DA];omega
     obtain⟨z,hz⟩:=nM (f.getD k 0);rw[hz]at xk ax A;obtain⟨zn,rfl⟩:=SK ax.1;rw[SM]at A;obtain⟨b1,o1,e1,x1⟩:=af.o zn (by rw[ae.o];omega);subst e1;have qk:=cLz br xk;have q1:=cLz H x1;obtain⟨cv,a9⟩:=nM (d.getD zn 0);rw[a9]at q1 A;obtain⟨pr,aa⟩:=nM ((f.take k).map (λi=>d.getD i.toNat 0));rw[aa]at S A an;have i1:=nn0 k;have i2:(k:Int)<(I:Int):=ϣ;have i3:=nn0 zn;have i4:(zn:Int)<(cn:Int):=ϣ;clear xk x1 hz a9 ax aa;go_wp2_with (at_builtin;refine F9 rfl (.tmp 29) (.tmp 34) rfl C.heap.size u6 pr rfl wr S.o cv wr.heap.size rfl rfl ϣ bk ?_;intro v2 w3 Z au);obtain⟨ah,c2,hv,_⟩:=Bo Z;have aq:=DD H bk S.o au;subst hv;go_roundw;exact⟨k+1,ϣ,by go_num,by rw[A.o];exact Z,aq⟩;simp[intOf];omega
    ·have A:ϡ (f.take k=f):=KI (by rw[ab.o];omega);have az:ϡ (Cm wr C.heap.size u6 (f.map (λi=>d.getD i.toNat 0))):=by
      have:=S.o;rw[A.o]at this;exact this
     have bv:ϲ (f.map (λi=>d.getD i.toNat 0))<=8:=by rw[lMp,ab.o];exact bu
     obtain⟨F,bd⟩:=nM (f.map (λi=>d.getD i.toNat 0));rw[bd]at az U bv;obtain⟨W2,rfl⟩:∃x,x=wr:=⟨_,rfl⟩;have b0:ϡ (Au W2 B d):=Al af.o H;clear S A bd;go_wp2
     go_loopw [6,10,40] (λv _ i wr=> ∃k:Nat,k<=J/\i=vI k/\Cm wr C.heap.size v (F++(q.take k).map (Fb d))/\Ϣ C wr) (λ_ _ i _=>J - (intOf i).toNat)
     case atStart=>exact⟨0,At _,rfl,by simpa using az.o,H⟩
     case round=>
      obtain⟨m,hm,rfl,bi,al⟩:=hrel;have T:ϡ (Cm wr C.heap.size u6 (F++(q.take m).map (Fb d))):=bi;have bm:=al.size;have ar:=bT ap al;clear bi;by_cases aw:m<J
      ·obtain⟨b,o,e,xa,xb⟩:=a2.o m (by rw[am.o];exact aw);subst e;have qa:=cLz ar xa;have qb:=cLz ar xb;have W:=bo.o m aw;have A:ϡ (F++(q.take (m+1)).map (Fb d)=F++(q.take m).map (Fb d)++[Fb d (q.getD m (0,0))]):=by
        show F++(q.take (m+1)).map (Fb d)=_;rw[takeA q m (by rw[am.o];exact aw),DQ,<-Bx];rfl
       have an:ϲ (F++(q.take m).map (Fb d))<=100:=by rw[lAp,lMp,DA];omega
       obtain⟨⟨fv,kv⟩,ba⟩:∃z,q.getD m (0,0)=z:=⟨_,rfl⟩;rw[ba]at qa qb W A;dsimp only at qa qb W;have KF:ϡ (∀y,Ϣ C y->CT 173 #[.agg #[vI fv,vI kv],vS B cn D] y (ψ y (vI (Fb d (fv,kv))))):=λy X=>by
        have:=TS fv kv B D d y (Al af.o X) (by rw[ae.o];omega) W.1 W.2;rwa[ae.o]at this
       obtain⟨ft,bb⟩:=nM (Fb d (fv,kv));rw[bb]at KF A;obtain⟨pr,aa⟩:=nM (F++(q.take m).map (Fb d));rw[aa]at T A an;have i1:=nn0 m;have i2:(m:Int)<(J:Int):=ϣ;clear xa xb ba W bb aa;go_wp2_with fail;refine(KF.o _ (al.alloc bm _)).mono ?_;rintro e w5 ⟨rfl,a7⟩;have be:=(al.alloc bm _).trans (a7.mono Ϩ);have a1:ϡ (Cm w5 C.heap.size u6 pr):=Pj (Pj T.o Ϯ) a7;have bn:=be.size;clear T;go_wp2_with (at_builtin;refine F9 rfl (.tmp 44) (.tmp 48) rfl C.heap.size u6 pr rfl w5 a1.o ft w5.heap.size rfl rfl ϣ bn ?_;intro v2 w3 Z au);obtain⟨ah,c2,hv,_⟩:=Bo Z;have aq:=DD be bn a1.o au;subst hv;go_roundw;exact⟨m+1,ϣ,by go_num,by rw[A.o];exact Z,aq⟩;simp[intOf];omega
      ·have A:ϡ (q.take m=q):=KI (by rw[am.o];omega);have a0:ϡ (Cm wr C.heap.size u6 R):=by
        have:=T.o;rw[A.o,<-U.o]at this;exact this
       obtain⟨ah,c2,hv,_⟩:=Bo a0.o;subst hv;have bq:ϡ (Au wr ah R):=(Eg a0.o).1;clear T A;go_wp2
       go_ret2
       exact⟨HR.o _ _ ah c2 rfl bq.o,ar⟩
 ·have b3:(pe !=0)=true:=by simpa using h0
  have HR:ϡ (∀e u,e= .returned (.tuple #[ώ,vI pe])->a4 e u):=ag.o h0;clear h0;go_wp2
  go_ret2
  exact⟨HR.o _ _ rfl,ao⟩
end pl
namespace bt
open vl pl
def Acw{p:Pln}(h:Ag p=0):ϲ p.left<=4/\(ϲ p.right)<=4:=by
 have d:=(Bt h).2.2.1;exact⟨d.1.1.2,d.1.2.1.2⟩
end bt
