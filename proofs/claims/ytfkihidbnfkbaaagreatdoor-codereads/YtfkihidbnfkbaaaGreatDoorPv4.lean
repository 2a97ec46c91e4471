import Derived.Test.YtfkihidbnfkbaaaGreatDoorPv3
import Derived.Deep.AppendLies
import Derived.Lib.BufferRead
import Derived.Lib.IndexBytes
set_option linter.all false
set_option maxHeartbeats 4000000
set_option maxRecDepth 100000
open Inhabited renaming default->ϰ
open List renaming length->ϲ
namespace Go.Proofs.YtfkihidbnfkbaaaGreatDoor
open ChangeShapes WideShapes ChangeAt RowKit List Proofs.Tryz
namespace vl
variable {a : Act} {ops : Array Oper} {rest : List Oper} {o : Oper} {Q : Exit -> Act -> World -> Prop} {base : Nat} {w w' : ϟ} {v : Value} {l : List UInt8}
def chk(k n:Int)(s:ByteArray):Int:=
 if k<0\/3<k then 4
 else if (k≠2/\n≠0/\¬(k=1/\n=1))\/(k≠3/\s.size≠0)then 1
 else if 64<s.size then 2 else 0
def Jz(s:ByteArray):s.toList=[]↔s.size=0:=by
 rw[aF];exact⟨λh=>by show s.data.size=0;rw[<-bS,h];rfl,λh=>fE (by rw[bS];exact h)⟩
def Bb(k n:Int)(s:ByteArray)(w:ϟ)(c:s.size<=maxLen):
 χ 183 #[.agg #[vI k,vI n,.string s]] w (ψ w (vI (chk k n s))):=by
 unfold maxLen at c;go_enter func183,ntmps183;go_wp2
 all_goals
  go_ret;refine⟨Ad ?_,Ϯ⟩
  go_light
  try simp only[UV,K5,fF,fG,bA,fH,fI,fJ,ne_eq,Jz]at *
  unfold chk;omega
theorem Fz(k n:Int)(s:ByteArray)(w:ϟ)(f:s.size<=maxLen):
 χ 191 #[.agg #[vI k,vI n,.string s]] w (ψ w (vI (chk k n s))):=by
 unfold maxLen at f;by_cases c:k<0
 ·go_enter func191,ntmps191;go_wp2
  all_goals
   go_ret;refine⟨Ad ?_,Ϯ⟩
   go_light
   try simp only[UV,K5,fF,fG,bA,fH,fI,fJ,ne_eq,Jz]at *
   unfold chk;omega
 ·by_cases d:3<k
  ·go_enter func191,ntmps191;go_wp2
   all_goals
    go_ret;refine⟨Ad ?_,Ϯ⟩
    go_light
    try simp only[UV,K5,fF,fG,bA,fH,fI,fJ,ne_eq,Jz]at *
    unfold chk;omega
  ·have e:k=0\/k=1\/k=2\/k=3:=ϣ;clear c d;rcases e with rfl|rfl|rfl|rfl
   all_goals
    go_enter func191,ntmps191;go_wp2
    all_goals
     go_ret;refine⟨Ad ?_,Ϯ⟩
     go_light
     try simp only[UV,K5,fF,fG,bA,fH,fI,fJ,ne_eq,Jz]at *
     unfold chk;omega
theorem IP:∀(a b:List UInt8),Lib.compareBytes a b=if Op.bytesLess a b=true then -1 else if (a==b)=true then 0 else 1
 |[],[]=>by simp[Lib.compareBytes,Op.bytesLess]
 |_::_,[]=>by simp[Lib.compareBytes,Op.bytesLess]
 |[],_::_=>by simp[Lib.compareBytes,Op.bytesLess]
 |a::x,b::y=>by
  rw[Lib.compareBytes,IP x y,Op.bytesLess];by_cases c:a<b
  ·simp[c]
  ·by_cases d:b<a
   ·have e:¬a=b:=λh=>by subst h;exact absurd d c
    simp[c,d,e]
   ·have e:a=b:=UInt8.le_antisymm (fK.1 d) (fK.1 c);subst e;simp[c]
theorem Ii(f h:Int)(c:ByteArray)(g i:Int)(d:ByteArray)(w:ϟ):
 χ 192 #[.agg #[vI f,vI h,.string c],.agg #[vI g,vI i,.string d]] w
  (ψ w (vI (Jd f h c g i d))):=by
 have j:ϡ (Lib.compareBytes c.data.toList d.data.toList=if Op.bytesLess c.toList d.toList=true then -1 else if (c.toList==d.toList)=true then 0 else 1):=by
  show Lib.compareBytes c.data.toList d.data.toList=_;rw[aF,aF];exact IP _ _
 go_enter func192,ntmps192;go_wp2_with (go_at_call 193;refine(Gi _ _ _).mono ?_;rintro e w' ⟨rfl,m⟩;subst m)
 all_goals
  go_ret;refine⟨Ad ?_,Ϯ.alloc ϥ _⟩;have k:=j.o
  go_light
  simp only[Jd,AY,k]
  simp_all
structure Cel where
 k:Int
 n:Int
 s:ByteArray
deriving DecidableEq
instance:Inhabited Cel:=⟨⟨0,0,⟨#[]⟩⟩⟩
def Cel.val(c:Cel):Value:=.agg #[vI c.k,vI c.n,.string c.s]
def rowAt(w:World)(a:Option Addr)(r:List Cel):Prop:=
 ∀i,i<ϲ r->∃b off,a=some ⟨b,off,none⟩/\ϙ w b (off+i * 3) (vI (r.getD i ϰ).k) (vI (r.getD i ϰ).n) (.string (r.getD i ϰ).s)
def Aa{a b:Bool}(h:a=b):Ending.returned (.bool a)= .returned (.bool b):=by rw[h]
def Rq{c d:List Cel}{k:Nat}(h1:k<ϲ c)(e:k<ϲ d)(h:c.take k=d.take k)(f:c.getD k ϰ=d.getD k ϰ):c.take (k+1)=d.take (k+1):=by
 rw[M1 h1,M1 e,h];simp only[gDe,gEe h1,gEe e,bF]at f;rw[f]
theorem NQ(E F:Ϡ)(c1 c2:Nat)(d e:List Cel)(w:ϟ)(h1:rowAt w E d)(G:rowAt w F e)(l1:ϲ d<=ύ)(l2:ϲ e<=ύ):
 χ 94 #[vS E (ϲ d) c1,vS F (ϲ e) c2] w (ψ w (.bool (decide (d=e)))):=by
 by_cases I:ϲ d=ϲ e
 ·obtain⟨j,q⟩:∃j,ϲ d=j:=⟨_,rfl⟩;have B:ϲ e=j:=ϣ;rw[q]at l1;have t:=hV0 q;have u:=hV0 B;rw[q,B];clear I l2 q B;go_enter func94,ntmps94;go_wp2
  go_loopw [5] (λi wr=> ∃k:Nat,k<=j/\i=vI k/\Ϣ w wr/\d.take k=e.take k) (λi _=>j - (intOf i).toNat)
  case atStart=>exact⟨0,At _,rfl,bR,rfl⟩
  case round=>
   obtain⟨k,hk,rfl,m,H⟩:=hrel;have D:=hV0 H;clear H;by_cases r:k<j
   ·obtain⟨b1,o1,f,U,V,W⟩:=h1 k (by rw[t.o];exact r);obtain⟨b2,o2,e2,X,Y,Z⟩:=G k (by rw[u.o];exact r);subst f e2;obtain⟨M,N,O,J,K,L⟩:=lk6 m U V W X Y Z;clear U V W X Y Z h1 G;obtain⟨⟨ka,na,P⟩,z⟩:∃c,d.getD k ϰ=c:=⟨_,rfl⟩;obtain⟨⟨kb,nb,R⟩,A⟩:∃c,e.getD k ϰ=c:=⟨_,rfl⟩;rw[z]at M N O;rw[A]at J K L;have n:=hV0 z;have p:=hV0 A;clear z A;dsimp only at M N O J K L;have i1:=nn0 k;have i2:(k:Int)<(j:Int):=ϣ;by_cases S:ka=kb
    ·by_cases T:na=nb
     ·by_cases C:P.toList=R.toList
      ·have aa:P=R:=bN (dX (by rwa[aF,aF]at C));clear C;subst S T aa;go_wp2
       go_quiet (fail)
       go_wp2;go_roundw;exact⟨k+1,ϣ,by go_num,NK m _,Rq (by rw[t.o];exact r) (by rw[u.o];exact r) D.o (by rw[n.o,p.o])⟩;simp[intOf];omega
      ·have g:ϡ (¬d=e):=λh=>by
        have f:=n.o;rw[h,p.o]at f
        cases f
        exact C rfl
       go_wp2
       go_quiet (fail)
       go_wp2;go_ret;exact⟨Aa (by rw[BP g.o]),NK m _⟩
     ·have g:ϡ (¬d=e):=λh=>by
       have f:=n.o;rw[h,p.o]at f
       cases f
       exact T rfl
      go_wp2
      go_quiet (fail)
      go_wp2;go_ret;exact⟨Aa (by rw[BP g.o]),NK m _⟩
    ·have g:ϡ (¬d=e):=λh=>by
      have f:=n.o;rw[h,p.o]at f
      cases f
      exact S rfl
     go_wp2
     go_quiet (fail)
     go_wp2;go_ret;exact⟨Aa (by rw[BP g.o]),NK m _⟩
   ·have g:ϡ (d=e):=by
     show d=e;have h:=D.o;rwa[KI (by rw[t.o];omega),KI (by rw[u.o];omega)]at h
    go_wp2;go_ret;exact⟨Aa (by rw[DB g.o]),m⟩
 ·have g:ϡ (¬d=e):=λh=>I (by rw[h]);have ab:((ϲ d:Int)==(ϲ e:Int))=false:=Ϩ;go_enter func94,ntmps94;go_wp2;go_ret;exact⟨Aa (by rw[BP g.o]),bR⟩
def FI(a b:Cel):Int:=Jd a.k a.n a.s b.k b.n b.s
def AH:List Cel->List Cel->Int
 |[],[]=>0
 |[],_::_=> -1
 |_::_,[]=>1
 |a::x,b::y=>if FI a b=0 then AH x y else FI a b
theorem K9(c d:List Cel)(k:Nat)(h1:k<=ϲ c)(e:k<=ϲ d)(h:∀i,i<k->FI (c.getD i ϰ) (d.getD i ϰ)=0):
 AH c d=AH (c.drop k) (d.drop k):=by
 induction k generalizing c d with
 |zero=>rfl
 |succ k ih=>
  match c,d,h1,e with
  |a::x,b::y,h1,e=>
   have f:FI a b=0:=h 0 ϣ;rw[AH,AE f,eB,eB];exact ih x y (by simpa using h1) (by simpa using e) (λi g=>h (i+1) ϣ)
def Gf(r:List Cel)(k:Nat)(h:k<ϲ r):r.drop k=r.getD k ϰ::r.drop (k+1):=by
 rw[cM h];simp[gDe,h]
def NR(c d:List Cel)(k:Nat)(h1:k<ϲ c)(e:k<ϲ d)(h:∀i,i<k->FI (c.getD i ϰ) (d.getD i ϰ)=0)
 (f:FI (c.getD k ϰ) (d.getD k ϰ)≠0):AH c d=FI (c.getD k ϰ) (d.getD k ϰ):=by
 rw[K9 c d k ϣ ϣ h,Gf c k h1,Gf d k e,AH,AC f]
def GN(d c:List Cel)(k:Nat)(h1:k<=ϲ d)(f:k<=ϲ c)(h:∀i,i<k->FI (d.getD i ϰ) (c.getD i ϰ)=0)
 (j:k=ϲ d\/k=ϲ c):AH d c=CN (ϲ d) (ϲ c):=by
 rw[K9 d c k h1 f h];unfold CN;by_cases g:k=ϲ d
 ·rw[aN (show (ϲ d)<=k by omega)];by_cases e:k=ϲ c
  ·rw[aN (show (ϲ c)<=k by omega),AH,AC ϣ,AC ϣ]
  ·rw[Gf c k ϣ,AH,AE ϣ]
 ·have e:k=ϲ c:=ϣ;rw[aN (show (ϲ c)<=k by omega),Gf d k ϣ,AH,AC ϣ,AE ϣ]
attribute [local go_sem ↓] Go.wp_at_zero Go.wp_at_succ
theorem Ql(V W:Ϡ)(c1 c2:Nat)(d f:List Cel)(w:ϟ)(h1:rowAt w V d)(Z:rowAt w W f)(l1:ϲ d<=ύ)(l2:ϲ f<=ύ):
 χ 120 #[vS V (ϲ d) c1,vS W (ϲ f) c2] w (ψ w (vI (AH d f))):=by
 obtain⟨j,S⟩:∃n,ϲ d=n:=⟨_,rfl⟩;obtain⟨t,T⟩:∃n,ϲ f=n:=⟨_,rfl⟩;have m:=hV0 S;have p:=hV0 T;rw[S]at l1⊢;rw[T]at l2⊢;clear S T;go_enter func120,ntmps120;go_wp2
 go_loopw [5] (λi wr=> ∃k:Nat,k<=j/\k<=t/\i=vI k/\Ϣ w wr/\(∀i,i<k->FI (d.getD i ϰ) (f.getD i ϰ)=0)) (λi _=>j - (intOf i).toNat)
 case atStart=>exact⟨0,At _,At _,rfl,bR,λi R=>absurd R (CA i)⟩
 case round=>
  obtain⟨k,ab,ac,rfl,C,aa⟩:=hrel;have E:=hV0 aa;clear aa;by_cases ad:k<j
  ·by_cases ae:k<t
   ·obtain⟨X,o1,e1,x1,x2,x3⟩:=h1 k (by rw[m.o];exact ad);obtain⟨Y,o2,e2,y1,y2,y3⟩:=Z k (by rw[p.o];exact ae);subst e1 e2;obtain⟨I,J,K,F,G,H⟩:=lk6 C x1 x2 x3 y1 y2 y3;clear x1 x2 x3 y1 y2 y3 h1 Z;obtain⟨⟨q,u,A⟩,O⟩:∃c,d.getD k ϰ=c:=⟨_,rfl⟩;obtain⟨⟨r,z,B⟩,P⟩:∃c,f.getD k ϰ=c:=⟨_,rfl⟩;rw[O]at I J K;rw[P]at F G H;have L:=hV0 O;have M:=hV0 P;clear O P;dsimp only at I J K F G H;have i1:=nn0 k;have i2:(k:Int)<(j:Int):=ϣ;have i3:(k:Int)<(t:Int):=ϣ;by_cases N:(Jd q u A r z B==0)=true
    ·have D:ϡ (FI (d.getD k ϰ) (f.getD k ϰ)=0):=by
      show FI (d.getD k ϰ) (f.getD k ϰ)=0;rw[L.o,M.o];exact(show Jd q u A r z B=0 by simpa using N)
     go_wp2
     go_region_held3 (λw'=>Ϛ w' X (o1+k * 3) (vI q) (vI u) (.string A) (ϙ w' Y (o2+k * 3) (vI r) (vI z) (.string B))) (first|go_keep|exact⟨cLz g I,cLz g J,cLz g K,cLz g F,cLz g G,cLz g H⟩)
      (first|(go_at_call 192;refine(Ii _ _ _ _ _ _ _).mono ?_;rintro e w1 ⟨rfl,g⟩))
     all_goals
      go_wp2;go_roundw;exact⟨k+1,ϣ,ϣ,by go_num,C.drew.trans (g.mono C.size),λi R=>by
       rcases Fm.1 R with h|h
       ·exact E.o i h
       ·rw[h];exact D.o⟩
      simp[intOf];omega
    ·have D:ϡ (AH d f=Jd q u A r z B):=by
      show AH d f=Jd q u A r z B;rw[NR d f k (by rw[m.o];exact ad) (by rw[p.o];exact ae) E.o (by rw[L.o,M.o];exact(show¬Jd q u A r z B=0 by simpa using N)),L.o,M.o];rfl
     have af:(Jd q u A r z B==0)=false:=by simpa using N
     go_wp2
     go_region_held3 (λw'=>Ϛ w' X (o1+k * 3) (vI q) (vI u) (.string A) (ϙ w' Y (o2+k * 3) (vI r) (vI z) (.string B))) (first|go_keep|exact⟨cLz g I,cLz g J,cLz g K,cLz g F,cLz g G,cLz g H⟩)
      (first|(go_at_call 192;refine(Ii _ _ _ _ _ _ _).mono ?_;rintro e w1 ⟨rfl,g⟩))
     all_goals
      go_wp2;go_ret;exact⟨Ad (by rw[D.o]),C.drew.trans (g.mono C.size)⟩
   ·have D:ϡ (AH d f=CN j t):=by
     show AH d f=CN j t;rw[GN d f k (by rw[m.o];exact ab) (by rw[p.o];exact ac) E.o (by rw[m.o,p.o];omega),m.o,p.o]
    have hd:decide ((k:Int)<(t:Int))=false:=BP ϣ;go_wp2_with (go_at_call 193;refine(Gi _ _ _).mono ?_;rintro e w' ⟨rfl,U⟩;subst U);go_ret;exact⟨Ad (by rw[D.o]),C⟩
  ·have D:ϡ (AH d f=CN j t):=by
    show AH d f=CN j t;rw[GN d f k (by rw[m.o];exact ab) (by rw[p.o];exact ac) E.o (by rw[m.o,p.o];omega),m.o,p.o]
   have hd:decide ((k:Int)<(j:Int))=false:=BP ϣ;go_wp2_with (go_at_call 193;refine(Gi _ _ _).mono ?_;rintro e w' ⟨rfl,U⟩;subst U);go_ret;exact⟨Ad (by rw[D.o]),C⟩
theorem SZ(P R:Ϡ)(c1 c2:Nat)(d f:List Cel)(w:ϟ)(h1:rowAt w P d)(S:rowAt w R f)(l1:ϲ d<=ύ)(l2:ϲ f<=ύ):
 χ 256 #[vS P (ϲ d) c1,vS R (ϲ f) c2,.func (.func 257) #[] #[]] w (ψ w (vI (AH d f))):=by
 obtain⟨t,L⟩:∃n,ϲ d=n:=⟨_,rfl⟩;obtain⟨C,M⟩:∃n,ϲ f=n:=⟨_,rfl⟩;have j:=hV0 L;have m:=hV0 M;rw[L]at l1⊢;rw[M]at l2⊢;clear L M;go_enter func256,ntmps256;go_wp2
 go_loopw [13] (λi wr=> ∃k:Nat,k<=t/\k<=C/\i=vI k/\Ϣ w wr/\(∀i,i<k->FI (d.getD i ϰ) (f.getD i ϰ)=0)) (λi _=>t - (intOf i).toNat)
 case atStart=>exact⟨0,At _,At _,rfl,bR,λi K=>absurd K (CA i)⟩
 case round=>
  obtain⟨k,U,V,rfl,g,T⟩:=hrel;have D:=hV0 T;clear T;by_cases W:k<t
  ·obtain⟨b1,o1,e1,x1,x2,x3⟩:=h1 k (by rw[j.o];exact W);subst e1;obtain⟨O,q2,q3⟩:=lk3 g x1 x2 x3;clear x1 x2 x3 h1;obtain⟨⟨q,u,A⟩,I⟩:∃c,d.getD k ϰ=c:=⟨_,rfl⟩;rw[I]at O q2 q3;have E:=hV0 I;clear I;dsimp only at O q2 q3;have i1:=nn0 k;have i2:(k:Int)<(t:Int):=ϣ;have j1:=bLt _ _ O;by_cases X:k<C
   ·obtain⟨b2,o2,e2,y1,y2,y3⟩:=S k (by rw[m.o];exact X);subst e2;obtain⟨N,Y,Z⟩:=lk3 g y1 y2 y3;clear y1 y2 y3 S;obtain⟨⟨r,z,B⟩,J⟩:∃c,f.getD k ϰ=c:=⟨_,rfl⟩;rw[J]at N Y Z;have F:=hV0 J;clear J;dsimp only at N Y Z;have j2:=bLt _ _ N;have i3:(k:Int)<(C:Int):=ϣ;by_cases H:(Jd q u A r z B==0)=true
    ·have p:ϡ (FI (d.getD k ϰ) (f.getD k ϰ)=0):=by
      show FI (d.getD k ϰ) (f.getD k ϰ)=0;rw[E.o,F.o];exact(show Jd q u A r z B=0 by simpa using H)
     go_wp2_with (go_at_call 257;refine(Je _ _ _ _ _ _ _).mono ?_;rintro e w1 ⟨rfl,G⟩);go_roundw;exact⟨k+1,ϣ,ϣ,by go_num,((g.alloc g.size _).alloc (by have:=g.size;simp;omega) _).trans (G.mono (by have:=g.size;simp;omega)),λi K=>by
      rcases Fm.1 K with h|h
      ·exact D.o i h
      ·rw[h];exact p.o⟩
     simp[intOf];omega
    ·have p:ϡ (AH d f=Jd q u A r z B):=by
      show AH d f=Jd q u A r z B;rw[NR d f k (by rw[j.o];exact W) (by rw[m.o];exact X) D.o (by rw[E.o,F.o];exact(show¬Jd q u A r z B=0 by simpa using H)),E.o,F.o];rfl
     have aa:(Jd q u A r z B==0)=false:=by simpa using H
     go_wp2_with (go_at_call 257;refine(Je _ _ _ _ _ _ _).mono ?_;rintro e w1 ⟨rfl,G⟩);go_ret;exact⟨Ad (by rw[p.o]),((g.alloc g.size _).alloc (by have:=g.size;simp;omega) _).trans (G.mono (by have:=g.size;simp;omega))⟩
   ·have p:ϡ (AH d f=1):=by
     show AH d f=1;rw[GN d f k (by rw[j.o];exact U) (by rw[m.o];exact V) D.o (by rw[j.o,m.o];omega),j.o,m.o];unfold CN;rw[AC ϣ,AE ϣ]
    go_wp2;go_ret;exact⟨Ad (by rw[p.o]),g.alloc g.size _⟩
  ·have p:ϡ (AH d f=CN t C):=by
    show AH d f=CN t C;rw[GN d f k (by rw[j.o];exact U) (by rw[m.o];exact V) D.o (by rw[j.o,m.o];omega),j.o,m.o]
   go_wp2
   all_goals
    go_ret;exact⟨Ad (by rw[p.o];unfold CN;omega),g⟩
def Ta(f g:Ϡ)(h i:Nat)(c d:List Cel)(w:ϟ)(h1:rowAt w f c)(m:rowAt w g d)(q:ϲ c<=ύ)(r:ϲ d<=ύ):
 χ 220 #[vS f (ϲ c) h,vS g (ϲ d) i] w (ψ w (vI (AH c d))):=by
 obtain⟨t,j⟩:∃n,ϲ c=n:=⟨_,rfl⟩;obtain⟨u,k⟩:∃n,ϲ d=n:=⟨_,rfl⟩;have H:=SZ f g h i c d w h1 m q r;rw[j,k]at H⊢;clear j k;go_enter func220,ntmps220;go_wp2_with (go_at_call 256;refine H.mono ?_;rintro e z ⟨rfl,p⟩);go_ret;exact⟨rfl,p⟩
def Tryz.info5:(prog.info? 5).map (λi=>(i.zero,i.size,i.bytes))=some (some (.int .u8 0),1,1):=Ϧ
def EL(b:UInt8):Value:=.int .u8 (b.toNat:Int)
def ownB(w:World)(base:Nat)(v:Value)(l:List UInt8):Prop:=w.ownsRow base 5 1 v (ϲ l) (l.map EL)
def Dj(u:Nat)(j:Nat):UInt8:=UInt8.ofNat (u/2 ^ (56 - 8 * j))
def be8(u:Nat)(j:Nat):List UInt8:=(List.range j).map (Dj u)
theorem BD(k:o.guard=none)(s x:Operand)
 (n:o.op= .call {callee:=.builtin .append,args:=#[s,x],argTypes:=#[51,51]}) (base:Nat) (v:Value) (l:List UInt8) (q:a.eval s=v) (c:ϟ)
 (p:ownB c base v l) (X:Value) (b:UInt8) (j:X=EL b) (B:Nat) (i:c.heap.size=B) (r:a.eval x=vS (ϋ B) 1 1) (E:ϲ l<=2000000) (D:base<=c.heap.size)
 (h:∀d w',ownB w' base d (l++[b])->(c.alloc (.cells #[X] 5)).grownBy w' v.ownBlock->wpList prog ops Q rest (a.put o.dst d) w'):
 wpList prog ops Q (o::rest) a (ϊ c #[X] 5):=by
 subst j;subst i;obtain⟨C,m,t,z,A⟩:=IR Tryz.info5;refine Vc _ k s x 51 n base 5 C (.int .u8 0) 1 1 underlying51 m t z A rfl Ϥ v (ϲ l) (l.map EL) q
  (WD p _) ⟨c,0,none⟩ 1 1 [EL b] r rfl (cell_one_new _ _ _) (by intro u e;simp at e;subst e;rfl) ϭ ϣ Ϩ ?_
 intro d w' f g _;refine h d w' ?_ g;unfold ownB;rw[lAp,DQ];exact f
def AQ{c:ϟ}{o:Obj}(d:Below base w c)(h0:base<=c.heap.size)(g:ownB c base v l)(e:(c.alloc o).grownBy w' v.ownBlock):Below base w w':=
 (d.alloc h0 o).grown e Ϩ (λk f=>(aB g k f).1)
def Mh(u j:Nat):(.int .u8 ((u:Int)/2 ^ (56 - 8 * j) % 256):Value)=EL (Dj u j):=by
 unfold EL Dj;rw[gC]
 congr 1
def NT(u j:Nat):be8 u (j+1)=be8 u j++[Dj u j]:=by
 unfold be8;rw[range_succ,DQ];rfl
def DZ(u j:Nat):ϲ (be8 u j)=j:=by simp[be8]
def Ns(m:Nat)(h:m<2 ^ 63):m ^^^ 2 ^ 63=2 ^ 63+m:=by
 apply Nat.eq_of_testBit_eq;intro i;rw[Nat.testBit_xor];by_cases c:i<63
 ·rw[Nat.testBit_two_pow_add_gt c,Nat.testBit_two_pow_of_ne ϣ];simp
 ·by_cases d:i=63
  ·subst d;rw[Nat.testBit_two_pow_add_eq,Nat.testBit_two_pow_self,gF h];rfl
  ·have e:2 ^ 64<=2 ^ i:=dV ϣ ϣ;rw[gF (NE h ϣ),Nat.testBit_two_pow_of_ne ϣ,gF (NE ϣ e)];rfl
def NU(m:Nat)(h:2 ^ 63<=m)(c:m<2 ^ 64):m ^^^ 2 ^ 63=m - 2 ^ 63:=by
 have e:=Ns (m - 2 ^ 63) ϣ;have:m=(m - 2 ^ 63) ^^^ 2 ^ 63:=by rw[e];omega
 rw[this,Nat.xor_assoc,Nat.xor_self,Nat.xor_zero,<-this]
def Tb(n:Int)(c: -9223372036854775808<=n)(d:n<=9223372036854775807):
 (n % 18446744073709551616).toNat ^^^ 9223372036854775808=(n+9223372036854775808).toNat:=by
 by_cases h:0<=n
 ·have e:n % 18446744073709551616=n:=dF h ϣ;rw[e];have:=Ns n.toNat ϣ;rw[show(2:Nat) ^ 63=9223372036854775808 by decide]at this;rw[this];omega
 ·have e:n % 18446744073709551616=n+18446744073709551616:=ϣ;rw[e];have:=NU (n+18446744073709551616).toNat ϣ ϣ;rw[show(2:Nat) ^ 63=9223372036854775808 by decide]at this;rw[this];omega
def Tc(x:Int):IntKind.u64.wrap x=x % 18446744073709551616:=by
 simp[IntKind.wrap,IntKind.signed,IntKind.bits]
def Abi(n:Int)(e: -9223372036854775808<=n)(f:n<=9223372036854775807):
 bits BinOp.xor IntKind.u64 (IntKind.u64.wrap n) 9223372036854775808=(((n+9223372036854775808).toNat:Nat):Int):=by
 unfold bits;simp only[Tc];rw[dT];have c:(BitVec.ofInt IntKind.u64.bits (n % 18446744073709551616)).toNat=(n % 18446744073709551616).toNat:=by
  rw[bM];show((n % 18446744073709551616) % 18446744073709551616).toNat=_;rw[Int.emod_emod_of_dvd _ (Int.dvd_refl _)]
 have d:(BitVec.ofInt IntKind.u64.bits 9223372036854775808).toNat=9223372036854775808:=by
  rw[bM];rfl
 rw[c,d,Tb n e f];omega
def YV(n:Int)(e: -9223372036854775808<=n)(f:n<=9223372036854775807):
 IntKind.u64.wrap (bits BinOp.xor IntKind.i64 n (-9223372036854775808))=(((n+9223372036854775808).toNat:Nat):Int):=by
 unfold bits;simp only[Tc];rw[dT];have c:(BitVec.ofInt IntKind.i64.bits n).toNat=(n % 18446744073709551616).toNat:=by
  rw[bM];rfl
 have d:(BitVec.ofInt IntKind.i64.bits (-9223372036854775808)).toNat=9223372036854775808:=by
  rw[bM];rfl
 rw[c,d,Tb n e f];simp only[IntKind.wrap,IntKind.signed,IntKind.bits];simp;split<;>omega
theorem PE(base:Nat)(v:Value)(l:List UInt8)(n:Int)(w:ϟ)(r:base<=w.heap.size)(k:ownB w base v l)(E:ϲ l<=1000000)
 (B: -9223372036854775808<=n) (C:n<=9223372036854775807):
 χ 244 #[v,vI n] w λe w'=> ∃g,e= .returned g/\ownB w' base g (l++be8 (n+9223372036854775808).toNat 8)/\Below base w w':=by
 have A:=Abi n B C;obtain⟨u,f⟩:∃u,(n+9223372036854775808).toNat=u:=⟨_,rfl⟩;rw[f]at A;have p:=hV0 f;have H:u<=18446744073709551615:=ϣ;clear f;go_enter func244,ntmps244;go_wp2
 go_loopw [0,6] (λv i wr=> ∃j:Nat,j<=8/\i=vI (56 - 8 * (j:Int))/\ownB wr base v (l++be8 u j)/\Below base w wr) (λ_ i _=>(intOf i+8).toNat)
 case atStart=>exact⟨0,ϣ,rfl,by simpa[be8]using k,bR⟩
 case round=>
  obtain⟨j,D,rfl,m,d⟩:=hrel;have F:=DZ u j;have h:base<=wr.heap.size:=B0 r d.size;have c:=hV0 m;clear k m;by_cases G:j<8
  ·go_wp2_with (at_builtin;refine BD rfl (.tmp 14) (.tmp 19) rfl base _ (l++be8 u j) rfl _ c.o _ (Dj u j) (Mh u j) _ rfl rfl (by rw[lAp,DZ];omega) h ?_;intro g I z t);go_roundw;exact⟨j+1,ϣ,by go_num,by rw[NT,<-Bx];exact z,AQ d h c.o t⟩;simp[intOf];omega
  ·have q:j=8:=ϣ;subst q;go_wp2;go_ret;exact⟨_,rfl,by rw[p.o];exact c.o,d⟩
theorem VA(j:o.guard=none)(s x:Operand)
 (m:o.op= .call {callee:=.builtin .append,args:=#[s,x],argTypes:=#[51,51]}) (base:Nat) (v:Value) (l:List UInt8) (p:a.eval s=v) (c:ϟ)
 (n:ownB c base v l) (B:Nat) (i:c.heap.size=B) (q:a.eval x=vS (ϋ B) 2 2) (D:ϲ l<=2000000) (C:base<=c.heap.size)
 (h:∀d w',ownB w' base d (l++[0,1])->(c.alloc (.cells #[.int .u8 0,.int .u8 1] 5)).grownBy w' v.ownBlock->wpList prog ops Q rest (a.put o.dst d) w'):
 wpList prog ops Q (o::rest) a (ϊ c #[.int .u8 0,.int .u8 1] 5):=by
 subst i;obtain⟨A,k,r,t,z⟩:=IR Tryz.info5;refine Vc _ j s x 51 m base 5 A (.int .u8 0) 1 1 underlying51 k r t z rfl Ϥ v (ϲ l) (l.map EL) p
  (WD n _) ⟨c,0,none⟩ 2 2 [.int .u8 0,.int .u8 1] q rfl (fx _ _ _ _) (by intro u e;simp at e;rcases e with rfl|rfl<;>rfl) ϭ ϣ Ϩ ?_
 intro d w' f g _;refine h d w' ?_ g;unfold ownB;rw[lAp,DQ];exact f
def Bq(l:List UInt8):List UInt8:=l.flatMap λb=>if b=0 then [0,255]else [b]
theorem NV(l:List UInt8):ϲ (Bq l)<=2 * ϲ l:=by
 induction l with
 |nil=>simp[Bq]
 |cons b r ih=>
  have:Bq (b::r)=(if b=0 then [0,255]else [b])++Bq r:=rfl;rw[this,lAp,DP];split<;>simp<;>omega
def J0(l:List UInt8)(b:UInt8):Bq (l++[b])=Bq l++(if b=0 then [0,255]else [b]):=by
 unfold Bq;rw[SN];simp
def Dk(s:ByteArray)(k:Nat)(h:k<s.size):s.data.toList.take (k+1)=s.data.toList.take k++[s[k]]:=by
 rw[M1 (by simpa using h)];rfl
def byte_zero(b:UInt8):((b.toNat:Int)==0)=decide (b=0):=by
 rw[PJ,UV,fU,<-fM];simp
def byte_of{b c:UInt8}(h:b=c):(.int .u8 (b.toNat:Int):Value)=EL c:=by rw[h];rfl
theorem NW(base:Nat)(v:Value)(l:List UInt8)(s:ByteArray)(w:ϟ)(D:base<=w.heap.size)(t:ownB w base v l)(L:ϲ l<=1000000)(M:s.size<=64):
 χ 245 #[v,.string s] w λe w'=> ∃j,e= .returned j/\ownB w' base j (l++Bq s.data.toList++[0,1])/\Below base w w':=by
 go_enter func245,ntmps245;go_wp2
 go_loopw [0,8] (λv i wr=> ∃k:Nat,k<=s.size/\i=vI k/\ownB wr base v (l++Bq (s.data.toList.take k))/\Below base w wr) (λ_ i _=>s.size - (intOf i).toNat)
 case atStart=>exact⟨0,ϣ,rfl,by simpa[Bq]using t,bR⟩
 case round=>
  obtain⟨k,K,rfl,u,p⟩:=hrel;have r:ϲ (l++Bq (s.data.toList.take k))<=1000200:=by
   have I:=NV (s.data.toList.take k);have J:ϲ (s.data.toList.take k)<=k:=fN _ _;rw[lAp];omega
  have c:base<=wr.heap.size:=B0 D p.size;have d:=hV0 u;have m:=hV0 r;clear t u r;by_cases F:k<s.size
  ·have q:ϡ (Bq (s.data.toList.take (k+1))=Bq (s.data.toList.take k)++(if s[k]=0 then [0,255]else [s[k]])):=by
    show Bq (s.data.toList.take (k+1))=_;rw[Dk s k F,J0]
   by_cases z:((s[k].toNat:Int)==0)=true
   ·have A:s[k]=0:=Fd ((byte_zero s[k]).symm.trans z);have n:=hV0 A;clear A;go_wp2_with (first
     |(at_builtin;refine BD rfl (.tmp 11) (.tmp 15) rfl base _ (l++Bq (s.data.toList.take k)) rfl _ d.o _ 0 (byte_of n.o) _ rfl rfl (by have:=m.o;omega) c ?_;intro j B g f)
     |(at_builtin;refine BD rfl (.tmp 21) (.tmp 22) rfl base _ (l++Bq (s.data.toList.take k)++[0]) rfl _ g _ 255 rfl _ rfl rfl (by have:=m.o;rw[lAp];simp only[DP,NS];omega) (B0 c (AQ bR c d.o f).size) ?_;intro N O G E))
    go_roundw;exact⟨k+1,ϣ,by go_num,by rw[q.o,AE n.o];simpa[Bx]using G,AQ (AQ p c d.o f) (B0 c (AQ bR c d.o f).size) g E⟩;simp[intOf];omega
   ·have H:((s[k].toNat:Int)==0)=false:=by simpa using z
    have n:ϡ (¬s[k]=0):=aO ((byte_zero s[k]).symm.trans H);go_wp2_with (at_builtin;refine BD rfl (.tmp 11) (.tmp 15) rfl base _ (l++Bq (s.data.toList.take k)) rfl _ d.o _ s[k] rfl _ rfl rfl (by have:=m.o;omega) c ?_;intro j B g f);go_roundw;exact⟨k+1,ϣ,by go_num,by rw[q.o,AC n.o];simpa[Bx]using g,AQ p c d.o f⟩;simp[intOf];omega
  ·have C:ϡ (s.data.toList.take k=s.data.toList):=KI Ϩ;go_wp2_with (at_builtin;refine VA rfl (.tmp 25) (.tmp 26) rfl base _ (l++Bq (s.data.toList.take k)) rfl _ d.o _ rfl rfl (by have:=m.o;omega) c ?_;intro j B g f);go_ret;exact⟨_,rfl,by have h:=g;rw[C.o]at h;exact h,AQ p c d.o f⟩
def C1(c:Cel):List UInt8:=
 if c.k=0 then [0]else if c.k=1 then [1,UInt8.ofNat c.n.toNat]else if c.k=2 then 2::be8 (c.n+9223372036854775808).toNat 8 else 3::(Bq c.s.data.toList++[0,1])
def Cel.ok(c:Cel):Prop:=chk c.k c.n c.s=0
def Gg{k n:Int}{s:ByteArray}(h:chk k n s=0):
 s.size<=64/\((k=0/\n=0/\s.size=0)\/(k=1/\n=0/\s.size=0)\/(k=1/\n=1/\s.size=0)\/(k=2/\s.size=0)\/(k=3/\n=0)):=by
 unfold chk at h;split at h
 ·omega
 ·split at h
  ·omega
  ·split at h
   ·omega
   ·omega
def C2(h:ownB w base v l)(o:Obj):ownB (w.alloc o) base v l:=WD h o
def C3{d:ϟ}(g:ownB w base v l){c i:Obj}(f:((w.alloc c).alloc i).grownBy d v.ownBlock)(j:Nat){x:Value}
 (e:Δ (w.alloc c) w j x):Δ d w j x:=by
 refine f.cell ?_ ?_
 ·rw[World.cell?_alloc_lt]
  ·exact e
  ·simp
 ·intro h;have:=(aB g w.heap.size h.symm).2;omega
theorem NX(base:Nat)(v:Value)(l:List UInt8)(k n:Int)(s:ByteArray)(w:ϟ)(i:base<=w.heap.size)(d:ownB w base v l)(J:ϲ l<=900000)
 (H: -9223372036854775808<=n) (I:n<=9223372036854775807) (D:chk k n s=0):
 χ 184 #[v,.agg #[vI k,vI n,.string s]] w λe w'=> ∃E,e= .returned E/\ownB w' base E (l++C1 ⟨k,n,s⟩)/\Below base w w':=by
 obtain⟨G,F⟩:=Gg D;clear D;rcases F with⟨rfl,rfl,A⟩|⟨rfl,rfl,A⟩|⟨rfl,rfl,A⟩|⟨rfl,A⟩|⟨rfl,rfl⟩
 ·go_enter func184,ntmps184;go_wp2_with (at_builtin;refine BD rfl (.tmp 5) (.tmp 9) rfl base v l rfl _ (C2 d _) _ 0 rfl (w.heap.size+1) ϥ rfl ϣ Ϩ ?_;intro m g h c;have q:=C3 (x:=vI 0) d c 0 ϧ;have r:=C3 (x:=vI 0) d c 1 ϧ;have t:=C3 (x:=.string s) d c 2 ϧ;have f:=AQ ((RK base w).alloc i _) Ϩ (C2 d _) c;have j:base<=g.heap.size:=B0 i f.size;clear c);go_ret;exact⟨_,rfl,h,f⟩
 ·go_enter func184,ntmps184;go_wp2_with (first
   |(at_builtin;refine BD rfl (.tmp 5) (.tmp 9) rfl base v l rfl _ (C2 d _) _ 1 rfl (w.heap.size+1) ϥ rfl ϣ Ϩ ?_;intro m g h c;have q:=C3 (x:=vI 1) d c 0 ϧ;have r:=C3 (x:=vI 0) d c 1 ϧ;have t:=C3 (x:=.string s) d c 2 ϧ;have f:=AQ ((RK base w).alloc i _) Ϩ (C2 d _) c;have j:base<=g.heap.size:=B0 i f.size;clear c)
   |(at_builtin;refine BD rfl (.tmp 15) (.tmp 19) rfl base m (l++[1]) rfl _ h _ 0 rfl g.heap.size rfl rfl Ϩ j ?_;intro B C p z))
  go_ret;exact⟨_,rfl,by simpa[C1,Bx]using p,AQ f j h z⟩
 ·go_enter func184,ntmps184;go_wp2_with (first
   |(at_builtin;refine BD rfl (.tmp 5) (.tmp 9) rfl base v l rfl _ (C2 d _) _ 1 rfl (w.heap.size+1) ϥ rfl ϣ Ϩ ?_;intro m g h c;have q:=C3 (x:=vI 1) d c 0 ϧ;have r:=C3 (x:=vI 1) d c 1 ϧ;have t:=C3 (x:=.string s) d c 2 ϧ;have f:=AQ ((RK base w).alloc i _) Ϩ (C2 d _) c;have j:base<=g.heap.size:=B0 i f.size;clear c)
   |(at_builtin;refine BD rfl (.tmp 15) (.tmp 19) rfl base m (l++[1]) rfl _ h _ 1 rfl g.heap.size rfl rfl Ϩ j ?_;intro B C p z))
  go_ret;exact⟨_,rfl,by simpa[C1,Bx]using p,AQ f j h z⟩
 ·go_enter func184,ntmps184;go_wp2_with (first
   |(at_builtin;refine BD rfl (.tmp 5) (.tmp 9) rfl base v l rfl _ (C2 d _) _ 2 rfl (w.heap.size+1) ϥ rfl ϣ Ϩ ?_;intro m g h c;have q:=C3 (x:=vI 2) d c 0 ϧ;have r:=C3 (x:=vI n) d c 1 ϧ;have t:=C3 (x:=.string s) d c 2 ϧ;have f:=AQ ((RK base w).alloc i _) Ϩ (C2 d _) c;have j:base<=g.heap.size:=B0 i f.size;clear c)
   |(go_at_call 244;refine(PE base m (l++[2]) n g j h Ϩ H I).mono ?_;rintro e C ⟨B,rfl,p,u⟩))
  go_ret;exact⟨_,rfl,by simpa[C1,Bx]using p,f.trans u⟩
 ·go_enter func184,ntmps184;go_wp2_with (first
   |(at_builtin;refine BD rfl (.tmp 5) (.tmp 9) rfl base v l rfl _ (C2 d _) _ 3 rfl (w.heap.size+1) ϥ rfl ϣ Ϩ ?_;intro m g h c;have q:=C3 (x:=vI 3) d c 0 ϧ;have r:=C3 (x:=vI 0) d c 1 ϧ;have t:=C3 (x:=.string s) d c 2 ϧ;have f:=AQ ((RK base w).alloc i _) Ϩ (C2 d _) c;have j:base<=g.heap.size:=B0 i f.size;clear c)
   |(go_at_call 245;refine(NW base m (l++[3]) s g j h Ϩ G).mono ?_;rintro e C ⟨B,rfl,p,u⟩))
  go_ret;exact⟨_,rfl,by simpa[C1,Bx]using p,f.trans u⟩
def encR(r:List Cel):List UInt8:=r.flatMap C1
def F0:List Cel->Int
 |[]=>0
 |c::r=>if chk c.k c.n c.s=0 then F0 r else chk c.k c.n c.s
def Aq(r:List Cel):Int:=if 8<ϲ r then 2 else F0 r
theorem Qm(r:List Cel)(k:Nat)(h:∀i,i<k->((r.getD i ϰ).ok)):F0 r=F0 (r.drop k):=by
 induction k generalizing r with
 |zero=>rfl
 |succ k ih=>
  match r with
  |[]=>rfl
  |c::r=>
   have d:chk c.k c.n c.s=0:=h 0 ϣ;rw[F0,AE d,eB];exact ih r (λi e=>h (i+1) ϣ)
def Td(c:Cel)(h:c.ok):ϲ (C1 c)<=131:=by
 have d:=(Gg h).1;unfold C1;split
 ·simp
 ·split
  ·simp
  ·split
   ·simp[DZ]
   ·have:=NV c.s.data.toList;simp only[DP,lAp,NS];have e:ϲ c.s.data.toList=c.s.size:=bS;omega
theorem DU(r:List Cel)(h:∀c∈r,c.ok):ϲ (encR r)<=131 * ϲ r:=by
 induction r with
 |nil=>simp[encR]
 |cons c r ih=>
  have e:encR (c::r)=C1 c++encR r:=rfl;have f:=Td c (h c (E0 ..));have g:=ih (λx d=>h x (EQ _ d));rw[e,lAp,DP];omega
def Mi(r:List Cel)(c:Cel):encR (r++[c])=encR r++C1 c:=by
 unfold encR;rw[SN];simp
def Mj(r:List Cel)(k:Nat)(h:k<ϲ r):r.take (k+1)=r.take k++[r.getD k ϰ]:=by
 rw[M1 h];simp[gDe,h]
def IQ(h:ownB w base v l):(convert 51 9 v).run prog w= .ok (.string ⟨l.toArray⟩) w:=by
 rcases h.2 with⟨rfl,e⟩|⟨g,d,i,rfl,j,f,m,k,n,c⟩
 ·have:l=[]:=fE e;subst this;exact Lib.run_convert_nil_bytes w 51 9 5 0 underlying51 underlying5 underlying9
 ·refine run_convert_bytes_back w 51 9 5 ⟨g,0,none⟩ d l underlying51 underlying5 underlying9 ?_;refine Lib.bytes_of_row f ?_;rw[cQ]at c;rw[c];simp[Lib.byteCells,EL]
def NY(h:ownB w base v l)(m:Ϣ w w'):ownB w' base v l:=by
 refine⟨h.1,?_⟩;rcases h.2 with i|⟨g,e,f,p,j,c,k⟩
 ·exact .inl i
 ·have d:g<w.heap.size:=by
   rcases RN g w.heap.size with d|n
   ·exact d
   ·rw[bZ n]at c;cases c
  exact .inr ⟨g,e,f,p,j,by rw[m.block g d];exact c,k⟩
def B8(r:List Cel):Prop:=∀c∈r,(-9223372036854775808<=c.n/\c.n<=9223372036854775807)/\c.s.size<=maxLen
def Abj{r:List Cel}(h:B8 r)(k:Nat)(c:k<ϲ r):(-9223372036854775808<=(r.getD k ϰ).n/\(r.getD k ϰ).n<=9223372036854775807)/\(r.getD k ϰ).s.size<=maxLen:=
 h _ (by simp[gDe,c])
def Rr(r:List Cel)(k:Nat)(c:k<ϲ r)(h:∀i,i<k->((r.getD i ϰ).ok))(d:¬(r.getD k ϰ).ok):F0 r=chk (r.getD k ϰ).k (r.getD k ϰ).n (r.getD k ϰ).s:=by
 rw[Qm r k h,Gf r k c,F0];exact AC d
def KU(r:List Cel)(k:Nat)(c:ϲ r<=k)(h:∀i,i<k->((r.getD i ϰ).ok)):F0 r=0:=by
 rw[Qm r k h,aN c];rfl
theorem IU{r:List Cel}(h:F0 r=0):∀c∈r,c.ok:=by
 induction r with
 |nil=>intro c d;cases d
 |cons a r ih=>
  rw[F0]at h;split at h
  ·rename_i e;intro c d;rcases E3.1 d with rfl|d
   ·exact e
   ·exact ih h c d
  ·rename_i e;exact absurd h e
def AdR(r:List Cel)(k:Nat)(f:k<=ϲ r)(h:∀i,i<k->((r.getD i ϰ).ok)):∀c∈r.take k,c.ok:=by
 intro c d;obtain⟨i,e,rfl⟩:=LT d;rw[DA]at e;have:=h i ϣ;rw[bY];simpa[gDe,show i<ϲ r by omega]using this
def FY(r:List Cel):ByteArray:=⟨(if Aq r=0 then encR r else []).toArray⟩
def VD{x y:ByteArray}{a b:Int}(h1:x=y)(c:a=b):Ending.returned (.tuple #[.string x,vI a])= .returned (.tuple #[.string y,vI b]):=by rw[h1,c]
theorem J2(a:Ϡ)(cap:Nat)(r:List Cel)(w:ϟ)(N:rowAt w a r)(ad:B8 r)(hl:ϲ r<=ύ):
 χ 112 #[vS a (ϲ r) cap] w (ψ w (.tuple #[.string (FY r),vI (Aq r)])):=by
 obtain⟨n,G⟩:∃n,ϲ r=n:=⟨_,rfl⟩;have d:=hV0 G;rw[G]at hl⊢;clear G;by_cases L:8<n
 ·have q:ϡ (Aq r=2):=by
   show Aq r=2;unfold Aq;rw[AE (by rw[d.o];exact L)]
  go_enter func112,ntmps112;go_wp2
  go_ret2
  exact⟨VD (by unfold FY;rw[q.o];rfl) q.o.symm,bR⟩
 ·have q:ϡ (Aq r=F0 r):=by
   show Aq r=F0 r;unfold Aq;rw[AC (by rw[d.o];exact L)]
  go_enter func112,ntmps112;go_wp2
  go_loopw [4,13] (λv i wr=> ∃k:Nat,k<=n/\i=vI k/\ownB wr w.heap.size v (encR (r.take k))/\Ϣ w wr/\(∀i,i<k->((r.getD i ϰ).ok))) (λ_ i _=>n - (intOf i).toNat)
  case atStart=>exact⟨0,ϣ,rfl,KX _ _ _ _,bR,λi F=>absurd F (CA i)⟩
  case round=>
   obtain⟨k,hk,rfl,M,t,D⟩:=hrel;have C:=hV0 D;have K:=hV0 M;have Z:ϡ (ϲ (encR (r.take k))<=2000):=by
    have h1:=DU (r.take k) (AdR r k (by rw[d.o];exact hk) D);have h2:ϲ (r.take k)<=k:=fN _ _;show _<=2000;omega
   clear D M;by_cases B:k<n
   ·obtain⟨b1,o1,e1,U,V,W⟩:=N k (by rw[d.o];exact B);subst e1;obtain⟨H,R,S⟩:=lk3 t U V W;clear U V W N;have P:=Abj ad k (by rw[d.o];exact B);have HT:ϡ (encR (r.take (k+1))=encR (r.take k)++C1 (r.getD k ϰ)):=by
     show encR (r.take (k+1))=_;rw[Mj r k (by rw[d.o];exact B),Mi]
    obtain⟨⟨f,g,j⟩,E⟩:∃c,r.getD k ϰ=c:=⟨_,rfl⟩;rw[E]at H R S P;have u:=hV0 E;clear E;obtain⟨⟨T,I⟩,J⟩:=P;dsimp only at H R S T I J;have i1:=nn0 k;have i2:(k:Int)<(n:Int):=ϣ;have j1:=bLt _ _ H;have O:=t.size;by_cases z:(chk f g j==0)=true
    ·have m:ϡ (chk f g j=0):=by
      show chk f g j=0;simpa using z
     go_wp2_with (first
      |(go_at_call 183;refine(Bb _ _ _ _ J).mono ?_;rintro e wc ⟨rfl,p⟩;have af:=cLz p (a:=⟨wr.heap.size,0,none⟩) (v:=vI f) ϧ;have ag:=cLz p (a:=⟨wr.heap.size,1,none⟩) (v:=vI g) ϧ;have ah:=cLz p (a:=⟨wr.heap.size,2,none⟩) (v:=.string j) ϧ;have ab:=NY (C2 K.o _) p;have A:=(t.alloc O _).trans (p.mono Ϩ))
      |(go_at_call 184;refine(NX w.heap.size u4 (encR (r.take k)) f g j wc A.size ab (by have:=Z.o;omega) T I m.o).mono ?_;rintro e I ⟨v2,rfl,ac,aa⟩))
     go_roundw;exact⟨k+1,ϣ,by go_num,by rw[HT.o,u.o];exact ac,A.trans aa,λi F=>by
      rcases Fm.1 F with h|h
      ·exact C.o i h
      ·rw[h,u.o];exact m.o⟩
     simp[intOf];omega
    ·have ae:(chk f g j==0)=false:=by simpa using z
     have m:ϡ (Aq r=chk f g j):=by
      show Aq r=chk f g j;rw[q.o,Rr r k (by rw[d.o];exact B) C.o (by rw[u.o];intro h;exact z (UV.2 h)),u.o]
     have X:ϡ (¬chk f g j=0):=λh=>z (UV.2 h);go_wp2_with (go_at_call 183;refine(Bb _ _ _ _ J).mono ?_;rintro e wc ⟨rfl,p⟩;have A:=(t.alloc O _).trans (p.mono Ϩ))
     go_ret2
     exact⟨VD (by unfold FY;rw[AC (by rw[m.o];exact X.o)]) m.o.symm,A⟩
   ·have m:ϡ (Aq r=0):=by
     show Aq r=0;rw[q.o,KU r k (by rw[d.o];omega) C.o]
    have Y:ϡ (r.take k=r):=KI (by rw[d.o];omega);have ai:=IQ K.o;go_wp2
    go_ret2
    exact⟨VD (by unfold FY;rw[AE m.o,Y.o]) m.o.symm,t⟩
theorem Cq(a:Ϡ)(cap:Nat)(r:List Cel)(w:ϟ)(I:rowAt w a r)(U:B8 r)(T:ϲ r<=ύ):
 χ 119 #[vS a (ϲ r) cap] w (ψ w (vI (Aq r))):=by
 obtain⟨n,E⟩:∃n,ϲ r=n:=⟨_,rfl⟩;have d:=hV0 E;rw[E]at T⊢;clear E;by_cases G:8<n
 ·have q:ϡ (Aq r=2):=by
   show Aq r=2;unfold Aq;rw[AE (by rw[d.o];exact G)]
  go_enter func119,ntmps119;go_wp2;go_ret;exact⟨Ad q.o.symm,bR⟩
 ·have q:ϡ (Aq r=F0 r):=by
   show Aq r=F0 r;unfold Aq;rw[AC (by rw[d.o];exact G)]
  go_enter func119,ntmps119;go_wp2
  go_loopw [3] (λi wr=> ∃k:Nat,k<=n/\i=vI k/\Ϣ w wr/\(∀i,i<k->((r.getD i ϰ).ok))) (λi _=>n - (intOf i).toNat)
  case atStart=>exact⟨0,ϣ,rfl,bR,λi C=>absurd C (CA i)⟩
  case round=>
   obtain⟨k,Z,rfl,p,H⟩:=hrel;have t:=hV0 H;clear H;by_cases D:k<n
   ·obtain⟨X,o1,S,O,P,R⟩:=I k (by rw[d.o];exact D);subst S;obtain⟨L,M,N⟩:=lk3 p O P R;clear O P R I;have K:=Abj U k (by rw[d.o];exact D);obtain⟨⟨f,g,j⟩,B⟩:∃c,r.getD k ϰ=c:=⟨_,rfl⟩;rw[B]at L M N K;have u:=hV0 B;clear B;obtain⟨⟨V,W⟩,F⟩:=K;dsimp only at L M N V W F;have i1:=nn0 k;have i2:(k:Int)<(n:Int):=ϣ;have J:=p.size;by_cases A:(chk f g j==0)=true
    ·have m:ϡ (chk f g j=0):=by
      show chk f g j=0;simpa using A
     go_wp2_with (go_at_call 191;refine(Fz _ _ _ _ F).mono ?_;rintro e wc ⟨rfl,z⟩);go_roundw;exact⟨k+1,ϣ,by go_num,p.trans (z.mono J),λi C=>by
      rcases Fm.1 C with h|h
      ·exact t.o i h
      ·rw[h,u.o];exact m.o⟩
     simp[intOf];omega
    ·have Y:(chk f g j==0)=false:=by simpa using A
     have m:ϡ (Aq r=chk f g j):=by
      show Aq r=chk f g j;rw[q.o,Rr r k (by rw[d.o];exact D) t.o (by rw[u.o];intro h;exact A (UV.2 h)),u.o]
     go_wp2_with (go_at_call 191;refine(Fz _ _ _ _ F).mono ?_;rintro e wc ⟨rfl,z⟩);go_ret;exact⟨Ad m.o.symm,p.trans (z.mono J)⟩
   ·have m:ϡ (Aq r=0):=by
     show Aq r=0;rw[q.o,KU r k (by rw[d.o];omega) t.o]
    go_wp2;go_ret;exact⟨Ad m.o.symm,p⟩
end vl
namespace vl
variable {s : ByteArray} {x y : List UInt8}
def CH(b:UInt8)(x:List UInt8):Bq (b::x)=(if b=0 then [0,255]else [b])++Bq x:=rfl
theorem NZ(x t tail rest:List UInt8)(h:Bq x++tail=Bq t++0::1::rest):∃f,t=x++f/\tail=Bq f++0::1::rest:=by
 induction x generalizing t with
 |nil=>exact⟨t,rfl,h⟩
 |cons b x ih=>
  rw[CH]at h
  cases t with
  |nil=>
   by_cases d:b=0
   ·rw[AE d]at h;simp[Bq]at h
   ·rw[AC d]at h;simp[Bq]at h;exact absurd h.1 d
  |cons c t=>
   rw[CH]at h;by_cases d:b=0
   ·rw[AE d]at h;by_cases e:c=0
    ·rw[AE e]at h;have j:Bq x++tail=Bq t++0::1::rest:=by simpa using h
     obtain⟨f,g,i⟩:=ih t j;exact⟨f,by rw[d,e,g];rfl,i⟩
    ·rw[AC e]at h;simp at h;exact absurd h.1.symm e
   ·rw[AC d]at h;by_cases e:c=0
    ·rw[AE e]at h;simp at h;exact absurd h.1 d
    ·rw[AC e]at h;simp only[KY,JV,bW]at h;obtain⟨f,g,i⟩:=ih t h.2;exact⟨f,by rw[h.1,g];rfl,i⟩
def AK(l:List UInt8):Nat:=l.foldl (λu b=>u * 256+b.toNat) 0
def ML(n:Nat):(UInt8.ofNat n).toNat=n % 256:=gC
def AfD(u:Nat):be8 u 8=[Dj u 0,Dj u 1,Dj u 2,Dj u 3,Dj u 4,Dj u 5,Dj u 6,Dj u 7]:=rfl
def Hr(u:Nat)(h:u<18446744073709551616):AK (be8 u 8)=u:=by
 rw[AfD];simp only[AK,dG,foldl_nil,Dj,ML];simp only[Nat.reduceMul,Nat.reduceSub,Nat.reducePow,Nat.reduceAdd];omega
def La{a b:UInt8}(h:a.toNat=b.toNat):a=b:=fM.1 h
theorem Qn(l:List UInt8)(h:ϲ l=8):be8 (AK l) 8=l:=by
 match l,h with
 |[b0,b1,b2,b3,b4,b5,b6,b7],_=>
  have c:=b0.toNat_lt;have d:=b1.toNat_lt;have e:=b2.toNat_lt;have f:=b3.toNat_lt;have g:=b4.toNat_lt;have i:=b5.toNat_lt;have j:=b6.toNat_lt;have k:=b7.toNat_lt;rw[AfD];simp only[bW,and_true];refine⟨?_,?_,?_,?_,?_,?_,?_,?_⟩<;>
   (apply La;simp only[AK,dG,foldl_nil,Dj,ML];simp only[Nat.reduceMul,Nat.reduceSub,Nat.reducePow,Nat.reduceAdd];omega)
theorem Hs(l:List UInt8)(h:ϲ l=8):AK l<18446744073709551616:=by
 match l,h with
 |[b0,b1,b2,b3,b4,b5,b6,b7],_=>
  have c:=b0.toNat_lt;have d:=b1.toNat_lt;have e:=b2.toNat_lt;have f:=b3.toNat_lt;have g:=b4.toNat_lt;have i:=b5.toNat_lt;have j:=b6.toNat_lt;have k:=b7.toNat_lt;simp only[AK,dG,foldl_nil];omega
def Cel.wf(c:Cel):Prop:=(-9223372036854775808<=c.n/\c.n<=9223372036854775807)/\c.s.size<=maxLen
def Te(h:s.size=0):s=⟨#[]⟩:=bN (Array.eq_empty_of_size_eq_zero h)
def str_eq{t:ByteArray}(h:s.data.toList=t.data.toList):s=t:=bN (dX h)
theorem encC_cases{c:Cel}(h:c.ok):
 (c=⟨0,0,⟨#[]⟩⟩/\C1 c=[0])\/(c=⟨1,0,⟨#[]⟩⟩/\C1 c=[1,0])\/(c=⟨1,1,⟨#[]⟩⟩/\C1 c=[1,1])\/
 (∃n,c=⟨2,n,⟨#[]⟩⟩/\C1 c=2::be8 (n+9223372036854775808).toNat 8)\/(∃s,c=⟨3,0,s⟩/\s.size<=64/\C1 c=3::(Bq s.data.toList++[0,1])):=by
 obtain⟨k,n,s⟩:=c;obtain⟨f,e⟩:=Gg h;dsimp only at f e;rcases e with⟨rfl,rfl,d⟩|⟨rfl,rfl,d⟩|⟨rfl,rfl,d⟩|⟨rfl,d⟩|⟨rfl,rfl⟩
 ·rw[Te d];exact .inl ⟨rfl,rfl⟩
 ·rw[Te d];exact .inr (.inl ⟨rfl,rfl⟩)
 ·rw[Te d];exact .inr (.inr (.inl ⟨rfl,rfl⟩))
 ·rw[Te d];exact .inr (.inr (.inr (.inl ⟨n,rfl,rfl⟩)))
 ·exact .inr (.inr (.inr (.inr ⟨s,rfl,f,rfl⟩)))
def GO{c:Cel}(h:c.ok):C1 c≠[]:=by
 rcases encC_cases h with⟨_,e⟩|⟨_,e⟩|⟨_,e⟩|⟨n,_,e⟩|⟨s,_,_,e⟩<;>rw[e]<;>simp
def Oa{a b:List UInt8}(ha:ϲ a=ϲ b)(h:a++x=b++y):a=b/\x=y:=append_inj h ha
theorem Lb{c d:Cel}(z:c.ok)(A:d.ok)(wc:c.wf)(F:d.wf)(h:C1 c++x=C1 d++y):c=d/\x=y:=by
 rcases encC_cases z with⟨rfl,e⟩|⟨rfl,e⟩|⟨rfl,e⟩|⟨n,rfl,e⟩|⟨s,rfl,G,e⟩<;>rcases encC_cases A with⟨rfl,g⟩|⟨rfl,g⟩|⟨rfl,g⟩|⟨m,rfl,g⟩|⟨t,rfl,H,g⟩<;>simp only[e,g,KY,JV,bW]at h
 all_goals try (exact⟨rfl,h.2⟩)
 all_goals try (exact⟨rfl,h.2.2⟩)
 all_goals try (exact absurd h.1 Ϥ)
 all_goals try (exact absurd h.2.1 Ϥ)
 ·obtain⟨r,u⟩:=Oa (by rw[DZ,DZ]) h.2;have:=Bk AK r;obtain⟨⟨D,E⟩,_⟩:=wc;obtain⟨⟨B,C⟩,_⟩:=F;dsimp only at D E B C;rw[Hr _ ϣ,Hr _ ϣ]at this;have e:n=m:=ϣ;exact⟨by rw[e],u⟩
 ·have q:Bq s.data.toList++0::1::x=Bq t.data.toList++0::1::y:=by simpa using h.2
  obtain⟨j,k,f⟩:=NZ _ _ _ _ q;have:j=[]:=by
   cases j with
   |nil=>rfl
   |cons b j=>
    rw[CH]at f;by_cases i:b=0
    ·rw[AE i]at f;simp at f
    ·rw[AC i]at f;simp at f;exact absurd f.1.symm i
  subst this;rw[Nd]at k;have p:x=y:=by simpa[Bq]using f
  exact⟨by rw[str_eq k],p⟩
variable {w w':ϟ} {base:Nat} {v:Value} {l tail:List UInt8} {b:UInt8}
def Bo(h:ownB w base v l):∃d c,v=vS d (ϲ l) c:=by
 rcases h.2 with⟨rfl,e⟩|⟨g,c,f,rfl,_⟩
 ·exact⟨none,0,by rw[e]⟩
 ·exact⟨_,_,rfl⟩
def BE(s:ByteArray)(k:Nat)(h:k<s.size):s.data.toList.drop k=s[k]::s.data.toList.drop (k+1):=by
 rw[cM (by simpa using h)];rfl
def A2(s:ByteArray):ϲ s.data.toList=s.size:=bS
def Gm(l:List UInt8):Prop:=∀t rest,ϲ t<=64->l≠Bq t++0::1::rest
def J3(h:l=Bq x++tail)(g:∀c rest,ϲ (x++c)<=64->tail≠Bq c++0::1::rest):Gm l:=by
 intro t rest i d;rw[h]at d;obtain⟨c,e,f⟩:=NZ _ _ _ _ d;exact g c rest (by rw[<-e];exact i) f
def AfW(h:l=Bq x++[]):Gm l:=J3 h (λc rest _ e=>by simp at e)
def XD(h:l=Bq x++tail)(d:64<ϲ x):Gm l:=J3 h (λf rest c e=>by rw[lAp]at c;omega)
theorem AdS(h:l=Bq x++[0]):Gm l:=J3 h (λd rest _ e=>by
 cases d with
 |nil=>simp[Bq]at e
 |cons b d=>
  rw[CH]at e;by_cases c:b=0
  ·rw[AE c]at e;simp at e
  ·rw[AC c]at e;simp at e)
theorem Abk{c:UInt8}(h:l=Bq x++0::c::tail)(h1:c≠1)(g:c≠255):Gm l:=J3 h (λf rest _ e=>by
 cases f with
 |nil=>simp[Bq]at e;exact h1 e.1
 |cons b f=>
  rw[CH]at e;by_cases d:b=0
  ·rw[AE d]at e;simp at e;exact g e.1
  ·rw[AC d]at e;simp at e;exact absurd e.1.symm d)
def DO(b c:UInt8):((b.toNat:Int)==(c.toNat:Int))=decide (b=c):=by
 rw[PJ,UV,fU,<-fM];omega
theorem Rs(s:ByteArray)(w:ϟ)(T:s.size<=maxLen):
 χ 249 #[.string s] w λe w'=>(∃C K ok,e= .returned (.tuple #[.string C,.string K,.bool ok])/\C.size<=65/\
  ((ok=true/\s.data.toList=Bq C.data.toList++0::1::K.data.toList)\/(ok=false/\Gm s.data.toList)))/\Ϣ w w':=by
 unfold maxLen at T;go_enter func249,ntmps249;go_wp2
 go_loopw [5,6] (λv i wr=> ∃(k:Nat) (t:List UInt8),k<=s.size/\i=vI k/\ownB wr w.heap.size v t/\Ϣ w wr/\(ϲ t)<=65/\s.data.toList=Bq t++s.data.toList.drop k) (λ_ i _=>s.size - (intOf i).toNat)
 case atStart=>exact⟨0,[],ϣ,rfl,KX _ _ _ _,bR,ϥ,rfl⟩
 case round=>
  obtain⟨k,t,hk,rfl,A,c,ht,H⟩:=hrel;obtain⟨Y,Z,U⟩:=Bo A;subst U;have d:=hV0 A;have f:=hV0 H;have j:=c.size;clear A H;by_cases P:k<s.size
  ·by_cases aa:ϲ t<=64
   ·have ab:((ϲ t:Nat):Int)<=64:=ϣ;have q:ϡ (s.data.toList.drop k=s[k]::s.data.toList.drop (k+1)):=BE s k P;by_cases I:((s[k].toNat:Int)==0)=true
    ·have J:s[k]=0:=Fd ((byte_zero s[k]).symm.trans I);have g:=hV0 J;clear J;by_cases R:k+1<s.size
     ·have L:ϡ (s.data.toList.drop (k+1)=s[k+1]::s.data.toList.drop (k+1+1)):=BE s (k+1) R;have S:((k:Int)+1==(s.size:Int))=false:=Ϩ;have u:ϡ (s.data.toList=Bq t++0::s[k+1]::s.data.toList.drop (k+1+1)):=by
       show s.data.toList=_;have h:=f.o;rw[q.o,L.o,g.o]at h;exact h
      by_cases D:((s[k+1].toNat:Int)==1)=true
      ·have E:s[k+1]=1:=Fd ((DO s[k+1] 1).symm.trans D);have m:=hV0 E;clear E;have ac:=λn=>IQ (w:=wr.drewN n) (base:=w.heap.size) d.o;go_wp2
       go_quiet (fail)
       go_wp2
       go_ret3
       exact⟨⟨_,_,_,rfl,by show t.toArray.size<=65;simp;omega,.inl ⟨rfl,by
        have h:=u.o;rw[m.o]at h;rw[Lib.extract_to_end];exact h⟩⟩,NK c _⟩
      ·have M:((s[k+1].toNat:Int)==1)=false:=by simpa using D
       have m:ϡ (¬s[k+1]=1):=aO ((DO s[k+1] 1).symm.trans M);by_cases F:((s[k+1].toNat:Int)==255)=true
       ·have G:s[k+1]=255:=Fd ((DO s[k+1] 255).symm.trans F);have p:=hV0 G;clear G;go_wp2_with (at_builtin;refine BD rfl (.tmp 47) (.tmp 48) rfl w.heap.size _ t rfl _ d.o _ 0 rfl _ rfl rfl ϣ j ?_;intro W X B z);go_roundw;exact⟨k+1+1,t++[0],ϣ,by go_num,B,AQ c j d.o z,Ϩ,by
         have h:=u.o;rw[p.o]at h;rw[J0,AE rfl,Bx];exact h⟩
        simp[intOf];omega
       ·have N:((s[k+1].toNat:Int)==255)=false:=by simpa using F
        have p:ϡ (¬s[k+1]=255):=aO ((DO s[k+1] 255).symm.trans N);go_wp2
        go_ret3
        exact⟨⟨_,_,_,rfl,At _,.inr ⟨rfl,Abk u.o m.o p.o⟩⟩,c⟩
     ·have S:((k:Int)+1==(s.size:Int))=true:=Ϩ;have r:ϡ (s.data.toList.drop (k+1)=[]):=aN (by rw[A2];omega);go_wp2
      go_ret3
      exact⟨⟨_,_,_,rfl,At _,.inr ⟨rfl,AdS (x:=t) (by have h:=f.o;rw[q.o,r.o,g.o]at h;exact h)⟩⟩,c⟩
    ·have V:((s[k].toNat:Int)==0)=false:=by simpa using I
     have g:ϡ (¬s[k]=0):=aO ((byte_zero s[k]).symm.trans V);go_wp2_with (at_builtin;refine BD rfl (.tmp 22) (.tmp 26) rfl w.heap.size _ t rfl _ d.o _ s[k] rfl _ rfl rfl ϣ j ?_;intro W X B z);go_roundw;exact⟨k+1,t++[s[k]],ϣ,by go_num,B,AQ c j d.o z,Ϩ,by
      have h:=f.o;rw[q.o]at h;rw[J0,AC g.o,Bx];exact h⟩
     simp[intOf];omega
   ·have O:decide (((ϲ t:Nat):Int)<=64)=false:=BP ϣ;go_wp2
    go_ret3
    exact⟨⟨_,_,_,rfl,At _,.inr ⟨rfl,XD f.o ϣ⟩⟩,c⟩
  ·have r:ϡ (s.data.toList.drop k=[]):=aN (by rw[A2];omega);have O:decide ((k:Int)<(s.size:Int))=false:=BP ϣ;go_wp2
   go_ret3
   exact⟨⟨_,_,_,rfl,At _,.inr ⟨rfl,AfW (x:=t) (by have h:=f.o;rw[r.o]at h;exact h)⟩⟩,c⟩
def Ij(l:List UInt8)(b:UInt8):AK (l++[b])=AK l * 256+b.toNat:=by
 unfold AK;rw[gB];rfl
theorem VF(l:List UInt8)(a:Nat):l.foldl (λu b=>u * 256+b.toNat) a+1<=(a+1) * 256 ^ (ϲ l):=by
 induction l generalizing a with
 |nil=>simp
 |cons b l ih=>
  have c:=b.toNat_lt;rw[dG,DP,Nat.pow_succ];refine B0 (ih _) ?_;rw[show(a+1) * (256 ^ (ϲ l) * 256)=((a+1) * 256) * 256 ^ (ϲ l) by rw[Nat.mul_comm (256 ^ (ϲ l)),Nat.mul_assoc]];exact cY _ ϣ
def EN(l:List UInt8):AK l<256 ^ (ϲ l):=by
 have:=VF l 0;rw[Fr,dS]at this;exact this
def Abl(u b:Nat)(c:b<256):u * 256|||b=u * 256+b:=by
 have:=Nat.shiftLeft_add_eq_or_of_lt (a:=u) (b:=b) (i:=8) (by simpa using c);rw[Nat.shiftLeft_eq]at this;exact this.symm
def GQ(x:Nat)(c:x<18446744073709551616):(BitVec.ofInt 64 (x:Int)).toNat=x:=by
 rw[bM];show((x:Int) % 18446744073709551616).toNat=x;rw[dF ϣ ϣ];rfl
def XE(u b:Nat)(f:u<72057594037927936)(e:b<256):
 bits BinOp.or IntKind.u64 (IntKind.u64.wrap ((u:Int) * 256)) (IntKind.u64.wrap (b:Int))=((u * 256+b:Nat):Int):=by
 unfold bits;simp only[Tc];rw[dF (a:=(u:Int) * 256) ϣ ϣ,dF (a:=(b:Int)) ϣ ϣ];have c:(BitVec.ofInt IntKind.u64.bits ((u:Int) * 256)).toNat=u * 256:=by
  have:=GQ (u * 256) ϣ;rw[show((u * 256:Nat):Int)=(u:Int) * 256 by omega]at this;exact this
 have d:(BitVec.ofInt IntKind.u64.bits (b:Int)).toNat=b:=GQ b ϣ;rw[BitVec.toNat_or,c,d,Abl u b e];exact dF ϣ ϣ
def Abm(u:Nat)(e:u<18446744073709551616):wrap64 (bits BinOp.xor IntKind.u64 (u:Int) 9223372036854775808)=(u:Int) - 9223372036854775808:=by
 unfold bits;simp only[Tc];have c:(BitVec.ofInt IntKind.u64.bits (u:Int)).toNat=u:=GQ u e;have d:(BitVec.ofInt IntKind.u64.bits 9223372036854775808).toNat=9223372036854775808:=by rw[bM];rfl
 rw[dT,c,d];by_cases h:u<9223372036854775808
 ·have:=Ns u ϣ;rw[show(2:Nat) ^ 63=9223372036854775808 by decide]at this;rw[this];unfold wrap64;omega
 ·have:=NU u ϣ ϣ;rw[show(2:Nat) ^ 63=9223372036854775808 by decide]at this;rw[this];unfold wrap64;omega
theorem Tf(s:ByteArray)(w:ϟ)(n:s.size=8):
 χ 248 #[.string s] w λe w'=>e= .returned (vI ((AK s.data.toList:Int) - 9223372036854775808))/\w'=w:=by
 have t:s.size<=8:=ϣ;go_enter func248,ntmps248;go_wp2
 go_loop [3,7] (λu i=> ∃k:Nat,k<=8/\i=vI k/\u= .int .u64 (AK (s.data.toList.take k):Int)) (λ_ i=>8 - (intOf i).toNat)
 case atStart=>exact⟨0,ϣ,rfl,rfl⟩
 case round=>
  obtain⟨k,q,rfl,rfl⟩:=hrel;obtain⟨u,f⟩:∃u,AK (s.data.toList.take k)=u:=⟨_,rfl⟩;have d:=hV0 f;rw[f];clear f;by_cases r:k<8
  ·have m:k<s.size:=ϣ;have c:ϡ (u<72057594037927936):=by
    show u<72057594037927936;have j:=EN (s.data.toList.take k);rw[d.o,DA,A2]at j;have p:256 ^ (min k s.size)<=256 ^ 7:=dV ϣ ϣ;omega
   have h:ϡ (AK (s.data.toList.take (k+1))=u * 256+s[k].toNat):=by
    show AK (s.data.toList.take (k+1))=_;rw[Dk s k m,Ij,d.o]
   go_wp2
   go_round
   case rel=>exact⟨k+1,ϣ,by go_num,by rw[h.o,XE u s[k].toNat c.o s[k].toNat_lt]⟩
   case measure=>simp[intOf];omega
  ·go_wp2;have g:ϡ (AK s.data.toList=u):=by
    show AK s.data.toList=u;rw[<-d.o,KI (by rw[A2];omega)]
   have c:ϡ (u<18446744073709551616):=by
    show u<18446744073709551616;rw[<-g.o];exact Hs _ (by rw[A2];exact n)
   go_ret;exact⟨Ad (by rw[g.o,Abm u c.o]),rfl⟩
def noCell(l:List UInt8):Prop:=∀(d:Cel) t,d.ok->d.wf->l≠C1 d++t
def Ob(l:List UInt8)(c:Cel)(rs:ByteArray)(ok:Bool):Prop:=(ok=true/\c.ok/\l=C1 c++rs.data.toList)\/((ok=false\/¬c.ok)/\noCell l)
def GR(l:List UInt8)(e:Ending):Prop:=∃(c:Cel) (rs:ByteArray) (ok:Bool),e= .returned (.tuple #[.agg #[vI c.k,vI c.n,.string c.s],.string rs,.bool ok])/\
 c.wf/\Ob l c rs ok
def wf0(k n:Int)(h1: -9223372036854775808<=n)(c:n<=9223372036854775807):(⟨k,n,⟨#[]⟩⟩:Cel).wf:=⟨⟨h1,c⟩,At _⟩
def wf3{c:ByteArray}(h:c.size<=65):(⟨3,0,c⟩:Cel).wf:=⟨⟨by show(-9223372036854775808:Int)<=0;decide,by show(0:Int)<=9223372036854775807;decide⟩,by show c.size<=maxLen;unfold maxLen;omega⟩
def Oc(k n:Int)(s:ByteArray)(h:chk k n s=0):(⟨k,n,s⟩:Cel).ok:=h
def XF(h0:b≠0)(h1:b≠1)(c:b≠2)(f:b≠3):noCell (b::l):=by
 intro d t g i h;rcases encC_cases g with⟨_,e⟩|⟨_,e⟩|⟨_,e⟩|⟨n,_,e⟩|⟨s,_,_,e⟩<;>rw[e]at h<;>simp at h
 ·exact h0 h.1
 ·exact h1 h.1
 ·exact h1 h.1
 ·exact c h.1
 ·exact f h.1
def Tg:noCell [1]:=by
 intro d t c f h;rcases encC_cases c with⟨_,e⟩|⟨_,e⟩|⟨_,e⟩|⟨n,_,e⟩|⟨s,_,_,e⟩<;>rw[e]at h<;>simp at h
def XG(h0:b≠0)(h1:b≠1):noCell (1::b::l):=by
 intro d t c f h;rcases encC_cases c with⟨_,e⟩|⟨_,e⟩|⟨_,e⟩|⟨n,_,e⟩|⟨s,_,_,e⟩<;>rw[e]at h<;>simp at h
 ·exact h0 h.1
 ·exact h1 h.1
def Abn(f:ϲ l<8):noCell (2::l):=by
 intro d t c g h;rcases encC_cases c with⟨_,e⟩|⟨_,e⟩|⟨_,e⟩|⟨n,_,e⟩|⟨s,_,_,e⟩<;>rw[e]at h<;>simp at h;have:=Bk List.length h;rw[lAp,DZ]at this;omega
def Rt(f:Gm l):noCell (3::l):=by
 intro d t c i h;rcases encC_cases c with⟨_,e⟩|⟨_,e⟩|⟨_,e⟩|⟨n,_,e⟩|⟨s,_,g,e⟩<;>rw[e]at h<;>simp at h;exact f s.data.toList t (by rw[A2];exact g) (by simpa using h)
def Ti(l:List UInt8)(d:8<=ϲ l):2::l=C1 ⟨2,(AK (l.take 8):Int) - 9223372036854775808,⟨#[]⟩⟩++l.drop 8:=by
 have e:(((AK (l.take 8):Int) - 9223372036854775808)+9223372036854775808).toNat=AK (l.take 8):=ϣ;have c:C1 ⟨2,(AK (l.take 8):Int) - 9223372036854775808,⟨#[]⟩⟩=2::be8 (((AK (l.take 8):Int) - 9223372036854775808)+9223372036854775808).toNat 8:=rfl;rw[c,e,Qn _ (by rw[DA];omega),KY,PP]
def Ea(s:ByteArray)(h:0<s.size):s.data.toList=s[0]::(s.extract 1 s.size).data.toList:=by
 rw[Lib.extract_to_end];have:=BE s 0 h;simpa using this
attribute [local go_sem ↓] Go.wp_at_zero Go.wp_at_succ
theorem PF(s r:ByteArray)(w:ϟ)(j:0<s.size)(f:s.size<=maxLen)(i:s.extract 1 s.size=r)(h0:s[0]=0):
 χ 209 #[.string s] w λe w'=>GR s.data.toList e/\Ϣ w w':=by
 have d:ϡ (s.data.toList=s[0]::(s.extract 1 s.size).data.toList):=Ea s j;have m:(s[0].toNat:Int)=0:=by rw[h0];rfl
 have c:=hV0 h0;clear h0;unfold maxLen at f;have g:s.extract 1 s.size=r:=i;have n:(0:Int)<(s.size:Int):=ϣ;have k:(s[0].toNat:Int)<=255:=by have:=s[0].toNat_lt;omega
 go_enter func209,ntmps209;go_wp2
 go_quiet (fail)
 go_wp2;exact CD (v:=.tuple #[.agg #[Ϗ,Ϗ,ϐ],.string r,.bool true]) (by simp[results,results209,go_sem]) rfl
  ⟨⟨⟨0,0,⟨#[]⟩⟩,r,true,rfl,wf0 _ _ Ϥ Ϥ,.inl ⟨rfl,Oc _ _ _ Ϥ,by have h:=d.o;rw[c.o,g]at h;exact h⟩⟩,by repeat (first|exact bR|(refine NK ?_ _)|apply KD|(refine KZ ?_ ϥ _)|(refine DH ?_ Ϫ _))⟩
theorem Od(s r:ByteArray)(w:ϟ)(f:0<s.size)(h:s.size<=maxLen)(i:s.extract 1 s.size=r)(h0:s[0]≠0)(h1:s[0]≠1)(c:s[0]≠2)(d:s[0]≠3):
 χ 209 #[.string s] w λe w'=>GR s.data.toList e/\Ϣ w w':=by
 have j:ϡ (s.data.toList=s[0]::(s.extract 1 s.size).data.toList):=Ea s f;have g:ϡ (noCell s.data.toList):=by
  show noCell s.data.toList;rw[Ea s f];exact XF h0 h1 c d
 have p:((s[0].toNat:Int)==0)=false:=(DO s[0] 0).trans (BP h0);have q:((s[0].toNat:Int)==1)=false:=(DO s[0] 1).trans (BP h1);have t:((s[0].toNat:Int)==2)=false:=(DO s[0] 2).trans (BP c);have u:((s[0].toNat:Int)==3)=false:=(DO s[0] 3).trans (BP d);clear h0 h1 c d;unfold maxLen at h;have m:s.extract 1 s.size=r:=i;have n:(0:Int)<(s.size:Int):=ϣ;have k:(s[0].toNat:Int)<=255:=by have:=s[0].toNat_lt;omega
 go_enter func209,ntmps209;go_wp2
 go_quiet (fail)
 go_wp2;exact CD (v:=.tuple #[.agg #[Ϗ,Ϗ,ϐ],ϐ,ϑ]) (by simp[results,results209,go_sem]) rfl
  ⟨⟨⟨0,0,⟨#[]⟩⟩,⟨#[]⟩,false,rfl,wf0 _ _ Ϥ Ϥ,.inr ⟨.inl rfl,g.o⟩⟩,by repeat (first|exact bR|(refine NK ?_ _)|apply KD|(refine KZ ?_ ϥ _)|(refine DH ?_ Ϫ _))⟩
theorem Oe(s r:ByteArray)(w:ϟ)(h:0<s.size)(f:s.size<=maxLen)(c:s.extract 1 s.size=r)(h0:s[0]=1)(g:r.size=0):
 χ 209 #[.string s] w λe w'=>GR s.data.toList e/\Ϣ w w':=by
 have d:ϡ (noCell s.data.toList):=by
  show noCell s.data.toList;rw[Ea s h,h0,c,Te g];exact Tg
 have j:(s[0].toNat:Int)=1:=by rw[h0];rfl
 clear h0;unfold maxLen at f;have k:s.extract 1 s.size=r:=c;have m:(0:Int)<(s.size:Int):=ϣ;have i:(s[0].toNat:Int)<=255:=by have:=s[0].toNat_lt;omega
 go_enter func209,ntmps209;go_wp2
 go_quiet (fail)
 go_wp2;exact CD (v:=.tuple #[.agg #[Ϗ,Ϗ,ϐ],ϐ,ϑ]) (by simp[results,results209,go_sem]) rfl
  ⟨⟨⟨0,0,⟨#[]⟩⟩,⟨#[]⟩,false,rfl,wf0 _ _ Ϥ Ϥ,.inr ⟨.inl rfl,d.o⟩⟩,by repeat (first|exact bR|(refine NK ?_ _)|apply KD|(refine KZ ?_ ϥ _)|(refine DH ?_ Ϫ _))⟩
def Tj(b:UInt8)(h:b=0\/b=1):(⟨1,(b.toNat:Int),⟨#[]⟩⟩:Cel).ok/\C1 ⟨1,(b.toNat:Int),⟨#[]⟩⟩=[1,b]:=by
 rcases h with rfl|rfl<;>exact⟨Oc _ _ _ Ϥ,rfl⟩
def VH(b:UInt8)(h0:b≠0)(h1:b≠1):¬(⟨1,(b.toNat:Int),⟨#[]⟩⟩:Cel).ok:=by
 intro h;obtain⟨_,c⟩:=Gg h;dsimp only at c;have e0:b.toNat≠0:=λe=>h0 (La e);have d:b.toNat≠1:=λe=>h1 (La e);omega
def Abo(s r:ByteArray)(m:0<s.size)(k:s.extract 1 s.size=r)(h0:s[0]=1)(j:0<r.size):
 Ob s.data.toList ⟨1,(r[0].toNat:Int),⟨#[]⟩⟩ (r.extract 1 r.size) true:=by
 have e:s.data.toList=(1:UInt8)::r[0]::(r.extract 1 r.size).data.toList:=by rw[Ea s m,h0,k,<-Ea r j]
 by_cases c:r[0]=0\/r[0]=1
 ·obtain⟨g,i⟩:=Tj r[0] c;exact .inl ⟨rfl,g,by rw[i,e];rfl⟩
 ·have d:r[0]≠0:=λh=>c (.inl h);have f:r[0]≠1:=λh=>c (.inr h);exact .inr ⟨.inr (VH _ d f),by rw[e];exact XG d f⟩
theorem PG(s r:ByteArray)(w:ϟ)(k:0<s.size)(h:s.size<=maxLen)(c:s.extract 1 s.size=r)(h0:s[0]=1)(i:0<r.size):
 χ 209 #[.string s] w λe w'=>GR s.data.toList e/\Ϣ w w':=by
 have d:=Abo s r k c h0 i;have f:ϡ (Ob s.data.toList ⟨1,(r[0].toNat:Int),⟨#[]⟩⟩ (r.extract 1 r.size) true):=d;have g:ϡ ((⟨1,(r[0].toNat:Int),⟨#[]⟩⟩:Cel).wf):=by
  have:=r[0].toNat_lt;exact wf0 _ _ ϣ ϣ
 clear d;have j:r.size<=maxLen:=by
  rw[<-c,dY];omega
 have p:(s[0].toNat:Int)=1:=by rw[h0];rfl
 have t:((r.size:Int)==0)=false:=by rw[K5];omega
 have z:(0:Int)<(r.size:Int):=ϣ;have n:(r[0].toNat:Int)<=255:=by have:=r[0].toNat_lt;omega
 clear h0;unfold maxLen at h j;have q:s.extract 1 s.size=r:=c;have u:(0:Int)<(s.size:Int):=ϣ;have m:(s[0].toNat:Int)<=255:=by have:=s[0].toNat_lt;omega
 go_enter func209,ntmps209;go_wp2
 go_quiet (fail)
 go_wp2
 go_region
 all_goals go_wp2
 all_goals
  exact CD (v:=.tuple #[.agg #[vI 1,vI (r[0].toNat:Int),ϐ],.string (r.extract 1 r.size),.bool true]) (by simp[results,results209,go_sem]) rfl
   ⟨⟨⟨1,_,⟨#[]⟩⟩,_,true,rfl,g.o,f.o⟩,by repeat (first|exact bR|(refine NK ?_ _)|apply KD|(refine KZ ?_ ϥ _)|(refine DH ?_ Ϫ _))⟩
theorem PH(s r:ByteArray)(w:ϟ)(h:0<s.size)(f:s.size<=maxLen)(c:s.extract 1 s.size=r)(h0:s[0]=2)(g:r.size<8):
 χ 209 #[.string s] w λe w'=>GR s.data.toList e/\Ϣ w w':=by
 have d:ϡ (noCell s.data.toList):=by
  show noCell s.data.toList;rw[Ea s h,h0,c];exact Abn (by rw[A2];exact g)
 have j:(s[0].toNat:Int)=2:=by rw[h0];rfl
 clear h0;unfold maxLen at f;have k:s.extract 1 s.size=r:=c;have m:(0:Int)<(s.size:Int):=ϣ;have i:(s[0].toNat:Int)<=255:=by have:=s[0].toNat_lt;omega
 go_enter func209,ntmps209;go_wp2
 go_quiet (fail)
 go_wp2;exact CD (v:=.tuple #[.agg #[Ϗ,Ϗ,ϐ],ϐ,ϑ]) (by simp[results,results209,go_sem]) rfl
  ⟨⟨⟨0,0,⟨#[]⟩⟩,⟨#[]⟩,false,rfl,wf0 _ _ Ϥ Ϥ,.inr ⟨.inl rfl,d.o⟩⟩,by repeat (first|exact bR|(refine NK ?_ _)|apply KD|(refine KZ ?_ ϥ _)|(refine DH ?_ Ϫ _))⟩
def Ru(s:ByteArray)(k:Nat):(s.extract 0 k).data.toList=s.data.toList.take k:=by
 simp[dU,gD]
def Abp(n:Int):(⟨2,n,⟨#[]⟩⟩:Cel).ok:=by
 refine Oc _ _ _ ?_;unfold chk;have e:(⟨#[]⟩:ByteArray).size=0:=rfl;rw[e,AC ϣ,AC ϣ,AC ϣ]
theorem Rv(s r:ByteArray)(w:ϟ)(m:0<s.size)(i:s.size<=maxLen)(c:s.extract 1 s.size=r)(h0:s[0]=2)(j:8<=r.size):
 χ 209 #[.string s] w λe w'=>GR s.data.toList e/\Ϣ w w':=by
 have g:ϡ (s.data.toList=C1 ⟨2,(AK (r.extract 0 8).data.toList:Int) - 9223372036854775808,⟨#[]⟩⟩++(r.extract 8 r.size).data.toList):=by
  show s.data.toList=_;rw[Ea s m,h0,c,Ru,Lib.extract_to_end];exact Ti _ (by rw[A2];exact j)
 have d:(r.extract 0 8).size=8:=by rw[dY];omega
 have f:ϡ (AK (r.extract 0 8).data.toList<18446744073709551616):=Hs _ (by rw[A2];exact d);have k:r.size<=maxLen:=by
  rw[<-c,dY];omega
 have p:(s[0].toNat:Int)=2:=by rw[h0];rfl
 have u:(8:Int)<=(r.size:Int):=ϣ;have h:=hV0 d;clear h0 d;unfold maxLen at i k;have q:s.extract 1 s.size=r:=c;have t:(0:Int)<(s.size:Int):=ϣ;have n:(s[0].toNat:Int)<=255:=by have:=s[0].toNat_lt;omega
 go_enter func209,ntmps209;go_wp2
 go_quiet (fail)
 go_wp2
 go_region_held3 (λ_=>True) (trivial) (first|(go_at_call 248;refine(Tf _ _ h.o).mono ?_;rintro e w' ⟨rfl,rfl⟩))
 all_goals go_wp2
 all_goals
  exact CD (v:=.tuple #[.agg #[vI 2,vI ((AK (r.extract 0 8).data.toList:Int) - 9223372036854775808),ϐ],.string (r.extract 8 r.size),.bool true]) (by simp[results,results209,go_sem]) rfl
   ⟨⟨⟨2,_,⟨#[]⟩⟩,_,true,rfl,wf0 _ _ (by have:=f.o;omega) (by have:=f.o;omega),.inl ⟨rfl,Abp _,g.o⟩⟩,by repeat (first|exact bR|(refine NK ?_ _)|apply KD|(refine KZ ?_ ϥ _)|(refine DH ?_ Ϫ _))⟩
theorem Abq(s r c rs:ByteArray)(ok:Bool)(i:0<s.size)(g:s.extract 1 s.size=r)(h0:s[0]=3)
 (h:(ok=true/\r.data.toList=Bq c.data.toList++0::1::rs.data.toList)\/(ok=false/\Gm r.data.toList)):
 Ob s.data.toList ⟨3,0,c⟩ rs ok:=by
 have e:s.data.toList=(3:UInt8)::r.data.toList:=by rw[Ea s i,h0,g]
 rcases h with⟨rfl,h⟩|⟨rfl,h⟩
 ·by_cases f:c.size<=64
  ·refine .inl ⟨rfl,Oc _ _ _ ?_,?_⟩
   ·unfold chk;rw[AC ϣ,AC ϣ,AC ϣ]
   ·rw[e,h];show _=(3::(Bq c.data.toList++[0,1]))++_;simp
  ·refine .inr ⟨.inr ?_,?_⟩
   ·intro d;have:=(Gg d).1;exact f this
   ·rw[e];exact Rt (XD h (by rw[A2];omega))
 ·exact .inr ⟨.inl rfl,by rw[e];exact Rt h⟩
theorem PI(s r:ByteArray)(w:ϟ)(A:0<s.size)(t:s.size<=maxLen)(i:s.extract 1 s.size=r)(h0:s[0]=3):
 χ 209 #[.string s] w λe w'=>GR s.data.toList e/\Ϣ w w':=by
 have j:∀d c ok,((ok=true/\r.data.toList=Bq d.data.toList++0::1::c.data.toList)\/(ok=false/\Gm r.data.toList))->Ob s.data.toList ⟨3,0,d⟩ c ok:=
  λd c ok h=>Abq s r d c ok A i h0 h
 have k:ϡ (∀d c ok,((ok=true/\r.data.toList=Bq d.data.toList++0::1::c.data.toList)\/(ok=false/\Gm r.data.toList))->Ob s.data.toList ⟨3,0,d⟩ c ok):=j;clear j;have z:r.size<=maxLen:=by
  rw[<-i,dY];omega
 have H:(s[0].toNat:Int)=3:=by rw[h0];rfl
 clear h0;unfold maxLen at t;have I:s.extract 1 s.size=r:=i;have J:(0:Int)<(s.size:Int):=ϣ;have D:(s[0].toNat:Int)<=255:=by have:=s[0].toNat_lt;omega
 go_enter func209,ntmps209;go_wp2
 go_quiet (fail)
 go_wp2_with (go_at_call 249;refine(Rs r _ z).mono ?_;rintro e g ⟨⟨d,c,ok,rfl,B,u⟩,f⟩;have n:=cLz f (a:=⟨w,0,none⟩) (v:=vI 0) ϧ;have p:=cLz f (a:=⟨w,1,none⟩) (v:=vI 0) ϧ;have q:=cLz f (a:=⟨w,2,none⟩) (v:=.string ⟨#[]⟩) ϧ;have E:Ξ g w 0:=(f.frozen ϥ).trans ϧ;have F:Ξ g w 1:=(f.frozen ϥ).trans ϧ;have G:Ξ g w 2:=(f.frozen ϥ).trans ϧ);have m:Ϣ w g:=(NK Ϯ _).trans (f.mono ϥ);have C:w.heap.size<g.heap.size:=by have:=f.size;simp at this;omega
 exact CD (v:=.tuple #[.agg #[vI 3,Ϗ,.string d],.string c,.bool ok]) (by simp[results,results209,go_sem,n,p,q,C]) rfl
  ⟨⟨⟨3,0,d⟩,c,ok,rfl,wf3 B,k.o d c ok u⟩,by repeat (first|exact m|(refine KZ ?_ ϥ _))⟩
def Rw(s:ByteArray)(w:ϟ)(f:0<s.size)(c:s.size<=maxLen):
 χ 209 #[.string s] w λe w'=>GR s.data.toList e/\Ϣ w w':=by
 obtain⟨r,d⟩:∃r,s.extract 1 s.size=r:=⟨_,rfl⟩;by_cases j:s[0]=0
 ·exact PF s r w f c d j
 ·by_cases g:s[0]=1
  ·by_cases i:r.size=0
   ·exact Oe s r w f c d g i
   ·exact PG s r w f c d g ϣ
  ·by_cases h:s[0]=2
   ·by_cases i:r.size<8
    ·exact PH s r w f c d h i
    ·exact Rv s r w f c d h ϣ
   ·by_cases k:s[0]=3
    ·exact PI s r w f c d k
    ·exact Od s r w f c d j g h k
def Tryz.infoV:(prog.info? 119).map (λi=>(i.zero,i.size,i.bytes))=some (some (.agg #[Ϗ,Ϗ,ϐ]),3,32):=Ϧ
def celCells(r:List Cel):List Value:=r.flatMap λc=>[vI c.k,vI c.n,.string c.s]
theorem Eb(r:List Cel):ϲ (celCells r)=ϲ r * 3:=by
 induction r with
 |nil=>rfl
 |cons c r ih=>show(ϲ ([_,_,_]++celCells r))=_;rw[lAp,ih,DP];simp;omega
def PK(r:List Cel)(c:Cel):celCells (r++[c])=celCells r++[vI c.k,vI c.n,.string c.s]:=by
 unfold celCells;rw[SN];simp
theorem IV(r:List Cel)(i:Nat)(h:i<ϲ r):(celCells r)[i * 3]? =some (vI (r.getD i ϰ).k)/\(celCells r)[i * 3+1]? =some (vI (r.getD i ϰ).n)/\(celCells r)[i * 3+2]? =some (.string (r.getD i ϰ).s):=by
 induction r generalizing i with
 |nil=>exact absurd h (CA i)
 |cons c r ih=>
  have e:celCells (c::r)=vI c.k::vI c.n:: .string c.s::celCells r:=rfl;rw[e]
  cases i with
  |zero=>exact⟨rfl,rfl,rfl⟩
  |succ i=>
   have:=ih i (by simpa using h);rw[show(i+1) * 3=i * 3+1+1+1 by omega];simpa using this
def AF(w:World)(base:Nat)(v:Value)(r:List Cel):Prop:=w.ownsRow base 119 3 v (ϲ r) (celCells r)
def Gn{r:List Cel}(h:AF w base v r)(o:Obj):AF (w.alloc o) base v r:=WD h o
def F2{r:List Cel}(h:AF w base v r)(m:Ϣ w w'):AF w' base v r:=by
 refine⟨h.1,?_⟩;rcases h.2 with i|⟨g,e,f,p,j,c,k⟩
 ·exact .inl i
 ·have d:g<w.heap.size:=by
   rcases RN g w.heap.size with d|n
   ·exact d
   ·rw[bZ n]at c;cases c
  exact .inr ⟨g,e,f,p,j,by rw[m.block g d];exact c,k⟩
def J4{r:List Cel}(h:AF w base v r):∃d c,v=vS d (ϲ r) c:=by
 rcases h.2 with⟨rfl,e⟩|⟨g,c,f,rfl,_⟩
 ·exact⟨none,0,by rw[e]⟩
 ·exact⟨_,_,rfl⟩
def D5{ad:Ϡ}{cap:Nat}{r:List Cel}(h:AF w base (vS ad (ϲ r) cap) r):rowAt w ad r:=by
 intro i f;rcases h.2 with⟨e,t⟩|⟨g,p,q,e,u,A,z⟩
 ·omega
 ·cases e
  have d:=RT h (g:=g) rfl;obtain⟨k,m,n⟩:=IV r i f;have c:∀j,((⟨g,0,none⟩:Addr).add j)=⟨g,0+j,none⟩:=λj=>by unfold Addr.add;split<;>simp_all
  refine⟨g,0,rfl,?_,?_,?_⟩
  ·have:=d _ _ k;rw[c]at this;exact this
  ·have:=d _ _ m;rw[c]at this;exact this
  ·have:=d _ _ n;rw[c]at this;exact this
theorem Of(w:ϟ)(a b c:Value)(t:TypeId):∀j u,[a,b,c][j]? =some u->(w.alloc (.cells #[a,b,c] t)).cell? ((⟨w,0,none⟩:Addr).add j)=some u:=by
 intro j u d
 match j,d with
 |0,d=>simp at d;subst d;simp[Addr.add]
 |1,d=>simp at d;subst d;simp[Addr.add]
 |2,d=>simp at d;subst d;simp[Addr.add]
theorem EO{ops:Array Oper}{rest:List Oper}{o:Oper}{a:Act}{Q:Exit->Act->World->Prop}(k:o.guard=none)(s x:Operand)
 (n:o.op= .call {callee:=.builtin .append,args:=#[s,x],argTypes:=#[80,80]}) (base:Nat) (v:Value) (r:List Cel) (q:a.eval s=v) (d:ϟ)
 (p:AF d base v r) (c:Cel) (B:Nat) (j:d.heap.size=B) (t:a.eval x=vS (ϋ B) 1 1) (F:ϲ r<=1000000) (E:base<=d.heap.size)
 (h:∀e w',AF w' base e (r++[c])->(d.alloc (.cells #[vI c.k,vI c.n,.string c.s] 119)).grownBy w' v.ownBlock->wpList prog ops Q rest (a.put o.dst e) w'):
 wpList prog ops Q (o::rest) a (ϊ d #[vI c.k,vI c.n,.string c.s] 119):=by
 subst j;obtain⟨D,m,z,A,C⟩:=IR Tryz.infoV;refine Vc _ k s x 80 n base 119 D (.agg #[Ϗ,Ϗ,ϐ]) 3 32 underlying80 m z A C rfl Ϥ v (ϲ r) (celCells r) q
  (WD p _) ⟨d,0,none⟩ 1 1 [vI c.k,vI c.n,.string c.s] t rfl (Of _ _ _ _ _) (by intro u f;simp at f;rcases f with rfl|rfl|rfl<;>rfl) ϭ ϣ Ϩ ?_
 intro e w' g i _;refine h e w' ?_ i;unfold AF;rw[lAp,PK];exact g
def D8{c:ϟ}{r:List Cel}{o:Obj}(d:Below base w c)(h0:base<=c.heap.size)(g:AF c base v r)(e:(c.alloc o).grownBy w' v.ownBlock):Below base w w':=
 (d.alloc h0 o).grown e Ϩ (λk f=>(aB g k f).1)
theorem Ik(x r:List Cel)(tail:List UInt8)(k:∀c∈x,c.ok/\c.wf)(j:∀c∈r,c.ok/\c.wf)(h:encR x++tail=encR r):∃f,r=x++f/\tail=encR f:=by
 induction x generalizing r with
 |nil=>exact⟨r,rfl,h⟩
 |cons c x ih=>
  have e:encR (c::x)=C1 c++encR x:=rfl;rw[e,Bx]at h;have g:=k c (E0 ..)
  cases r with
  |nil=>
   have:=GO g.1;simp[encR]at h;exact absurd h.1 this
  |cons d r=>
   have m:encR (d::r)=C1 d++encR r:=rfl;rw[m]at h;have i:=j d (E0 ..);obtain⟨rfl,q⟩:=Lb g.1 i.1 g.2 i.2 h;obtain⟨f,n,p⟩:=ih r (λy hy=>k y (EQ _ hy)) (λy hy=>j y (EQ _ hy)) q;exact⟨f,by rw[n];rfl,p⟩
def rowOk(r:List Cel):Prop:=ϲ r<=8/\∀c∈r,c.ok/\c.wf
def IW(l:List UInt8):Prop:=∀r,rowOk r->encR r≠l
theorem Og{x:List Cel}(p:∀c∈x,c.ok/\c.wf)(k:l=encR x++tail)(n:tail≠[])(m:noCell tail):IW l:=by
 intro r i h;rw[k]at h;obtain⟨e,j,f⟩:=Ik x r tail p i.2 h.symm
 cases e with
 |nil=>exact n f
 |cons d e=>
  have g:=i.2 d (by rw[j];simp);exact m d (encR e) g.1 g.2 f
theorem VI{x:List Cel}(m:∀c∈x,c.ok/\c.wf)(j:l=encR x++tail)(k:tail≠[])(n:ϲ x=8):IW l:=by
 intro r e h;rw[j]at h;obtain⟨f,g,i⟩:=Ik x r tail m e.2 h.symm
 cases f with
 |nil=>exact k i
 |cons d f=>
  have:=e.1;rw[g,lAp,DP]at this;omega
end vl
