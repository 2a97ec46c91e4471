import Derived.Test.YtfkihidbnfkbaaaGreatDoorPv2
import Derived.Deep.AppendLies
import Derived.Lib.BufferRead
import Derived.Lib.IndexBytes
set_option linter.all false
set_option maxHeartbeats 4000000
set_option maxRecDepth 100000
open Go.ChangeShapes Go.WideShapes Go.ChangeAt Go.RowKit List
open Inhabited renaming default->ϰ
namespace Go.Proofs.YtfkihidbnfkbaaaGreatDoor
open Go.Proofs.Tryz
namespace vl
variable {a : Act} {ops : Array Oper} {rest : List Oper} {o : Oper} {Q : Exit -> Act -> World -> Prop} {base : Nat} {w w' : Ϡ} {v : Value} {l : List UInt8}
def chk(k n:Int)(s:ByteArray):Int:=
 if k<0\/3<k then 4
 else if (k≠2/\n≠0/\¬(k=1/\n=1))\/(k≠3/\s.size≠0)then 1
 else if 64<s.size then 2 else 0
theorem Jh(s:ByteArray):s.toList=[]↔s.size=0:=by
 rw[Lib.toList_data];exact⟨λh=>by show s.data.size=0;rw[<-Array.length_toList,h];rfl,λh=>eq_nil_of_length_eq_zero (by rw[Array.length_toList];exact h)⟩
theorem Bi(k n:Int)(s:ByteArray)(w:Ϡ)(c:s.size<=maxLen):
 χ 183 #[.agg #[vI k,vI n,.string s]] w (ψ w (vI (chk k n s))):=by
 unfold maxLen at c;go_enter func183,ntmps183;go_wp2
 all_goals
  go_ret;refine⟨Ad ?_,ϯ⟩
  go_light
  try simp only[beq_iff_eq,beq_eq_false_iff_ne,bne_iff_ne,bne_eq_false_iff_eq,Bool.not_eq_true',Bool.not_eq_false',isEmpty_iff,isEmpty_eq_false_iff,ne_eq,Jh]at *
  unfold chk;omega
theorem Fp(k n:Int)(s:ByteArray)(w:Ϡ)(f:s.size<=maxLen):
 χ 191 #[.agg #[vI k,vI n,.string s]] w (ψ w (vI (chk k n s))):=by
 unfold maxLen at f;by_cases c:k<0
 ·go_enter func191,ntmps191;go_wp2
  all_goals
   go_ret;refine⟨Ad ?_,ϯ⟩
   go_light
   try simp only[beq_iff_eq,beq_eq_false_iff_ne,bne_iff_ne,bne_eq_false_iff_eq,Bool.not_eq_true',Bool.not_eq_false',isEmpty_iff,isEmpty_eq_false_iff,ne_eq,Jh]at *
   unfold chk;omega
 ·by_cases d:3<k
  ·go_enter func191,ntmps191;go_wp2
   all_goals
    go_ret;refine⟨Ad ?_,ϯ⟩
    go_light
    try simp only[beq_iff_eq,beq_eq_false_iff_ne,bne_iff_ne,bne_eq_false_iff_eq,Bool.not_eq_true',Bool.not_eq_false',isEmpty_iff,isEmpty_eq_false_iff,ne_eq,Jh]at *
    unfold chk;omega
  ·have e:k=0\/k=1\/k=2\/k=3:=Ϥ;clear c d;rcases e with rfl|rfl|rfl|rfl
   all_goals
    go_enter func191,ntmps191;go_wp2
    all_goals
     go_ret;refine⟨Ad ?_,ϯ⟩
     go_light
     try simp only[beq_iff_eq,beq_eq_false_iff_ne,bne_iff_ne,bne_eq_false_iff_eq,Bool.not_eq_true',Bool.not_eq_false',isEmpty_iff,isEmpty_eq_false_iff,ne_eq,Jh]at *
     unfold chk;omega
theorem I8:∀(a b:List UInt8),Lib.compareBytes a b=if Op.bytesLess a b=true then -1 else if (a==b)=true then 0 else 1
 |[],[]=>by simp[Lib.compareBytes,Op.bytesLess]
 |_::_,[]=>by simp[Lib.compareBytes,Op.bytesLess]
 |[],_::_=>by simp[Lib.compareBytes,Op.bytesLess]
 |a::x,b::y=>by
  rw[Lib.compareBytes,I8 x y,Op.bytesLess];by_cases c:a<b
  ·simp[c]
  ·by_cases d:b<a
   ·have e:¬a=b:=λh=>by subst h;exact absurd d c
    simp[c,d,e]
   ·have e:a=b:=UInt8.le_antisymm (UInt8.not_lt.1 d) (UInt8.not_lt.1 c);subst e;simp[c]
theorem Hz(f h:Int)(c:ByteArray)(g i:Int)(d:ByteArray)(w:Ϡ):
 χ 192 #[.agg #[vI f,vI h,.string c],.agg #[vI g,vI i,.string d]] w
  (ψ w (vI (IC f h c g i d))):=by
 have j:Ϣ (Lib.compareBytes c.data.toList d.data.toList=if Op.bytesLess c.toList d.toList=true then -1 else if (c.toList==d.toList)=true then 0 else 1):=by
  show Lib.compareBytes c.data.toList d.data.toList=_;rw[Lib.toList_data,Lib.toList_data];exact I8 _ _
 go_enter func192,ntmps192;go_wp2_with (go_at_call 193;refine(FZ _ _ _).mono ?_;rintro e w' ⟨rfl,m⟩;subst m)
 all_goals
  go_ret;refine⟨Ad ?_,ϯ.alloc Ϧ _⟩;have k:=j.o
  go_light
  simp only[IC,Bb,k]
  simp_all
structure Cel where
 k:Int
 n:Int
 s:ByteArray
deriving DecidableEq
instance:Inhabited Cel:=⟨⟨0,0,⟨#[]⟩⟩⟩
def Cel.val(c:Cel):Value:=.agg #[vI c.k,vI c.n,.string c.s]
def rowAt(w:World)(a:Option Addr)(r:List Cel):Prop:=
 ∀i,i<r.length->∃b off,a=some ⟨b,off,none⟩/\ϝ w b (off+i * 3) (vI (r.getD i ϰ).k) (vI (r.getD i ϰ).n) (.string (r.getD i ϰ).s)
theorem Aa{a b:Bool}(h:a=b):Ending.returned (.bool a)= .returned (.bool b):=by rw[h]
theorem QQ{c d:List Cel}{k:Nat}(h1:k<c.length)(e:k<d.length)(h:c.take k=d.take k)(f:c.getD k ϰ=d.getD k ϰ):c.take (k+1)=d.take (k+1):=by
 rw[take_succ_eq_append_getElem h1,take_succ_eq_append_getElem e,h];simp only[gDe,gEe h1,gEe e,Option.getD_some]at f;rw[f]
theorem Tl(E F:ϡ)(c1 c2:Nat)(d e:List Cel)(w:Ϡ)(h1:rowAt w E d)(G:rowAt w F e)(l1:d.length<=ύ)(l2:e.length<=ύ):
 χ 94 #[vS E d.length c1,vS F e.length c2] w (ψ w (.bool (decide (d=e)))):=by
 by_cases I:d.length=e.length
 ·obtain⟨j,q⟩:∃j,d.length=j:=⟨_,rfl⟩;have B:e.length=j:=Ϥ;rw[q]at l1;have t:=hV0 q;have u:=hV0 B;rw[q,B];clear I l2 q B;go_enter func94,ntmps94;go_wp2
  go_loopw [5] (λi wr=> ∃k:Nat,k<=j/\i=vI k/\ϣ w wr/\d.take k=e.take k) (λi _=>j - (intOf i).toNat)
  case atStart=>exact⟨0,Nat.zero_le _,rfl,bR,rfl⟩
  case round=>
   obtain⟨k,hk,rfl,m,H⟩:=hrel;have D:=hV0 H;clear H;by_cases r:k<j
   ·obtain⟨b1,o1,f,U,V,W⟩:=h1 k (by rw[t.o];exact r);obtain⟨b2,o2,e2,X,Y,Z⟩:=G k (by rw[u.o];exact r);subst f e2;obtain⟨M,N,O,J,K,L⟩:=lk6 m U V W X Y Z;clear U V W X Y Z h1 G;obtain⟨⟨ka,na,P⟩,z⟩:∃c,d.getD k ϰ=c:=⟨_,rfl⟩;obtain⟨⟨kb,nb,R⟩,A⟩:∃c,e.getD k ϰ=c:=⟨_,rfl⟩;rw[z]at M N O;rw[A]at J K L;have n:=hV0 z;have p:=hV0 A;clear z A;dsimp only at M N O J K L;have i1:=nn0 k;have i2:(k:Int)<(j:Int):=Ϥ;by_cases S:ka=kb
    ·by_cases T:na=nb
     ·by_cases C:P.toList=R.toList
      ·have aa:P=R:=ByteArray.ext (Array.ext' (by rwa[Lib.toList_data,Lib.toList_data]at C));clear C;subst S T aa;go_wp2
       go_quiet (fail)
       go_wp2;go_roundw;exact⟨k+1,Ϥ,by go_num,below_drewN m _,QQ (by rw[t.o];exact r) (by rw[u.o];exact r) D.o (by rw[n.o,p.o])⟩;simp[intOf];omega
      ·have g:Ϣ (¬d=e):=λh=>by
        have f:=n.o;rw[h,p.o]at f
        cases f
        exact C rfl
       go_wp2
       go_quiet (fail)
       go_wp2;go_ret;exact⟨Aa (by rw[decide_eq_false g.o]),below_drewN m _⟩
     ·have g:Ϣ (¬d=e):=λh=>by
       have f:=n.o;rw[h,p.o]at f
       cases f
       exact T rfl
      go_wp2
      go_quiet (fail)
      go_wp2;go_ret;exact⟨Aa (by rw[decide_eq_false g.o]),below_drewN m _⟩
    ·have g:Ϣ (¬d=e):=λh=>by
      have f:=n.o;rw[h,p.o]at f
      cases f
      exact S rfl
     go_wp2
     go_quiet (fail)
     go_wp2;go_ret;exact⟨Aa (by rw[decide_eq_false g.o]),below_drewN m _⟩
   ·have g:Ϣ (d=e):=by
     show d=e;have h:=D.o;rwa[take_of_length_le (by rw[t.o];omega),take_of_length_le (by rw[u.o];omega)]at h
    go_wp2;go_ret;exact⟨Aa (by rw[decide_eq_true g.o]),m⟩
 ·have g:Ϣ (¬d=e):=λh=>I (by rw[h]);have ab:((d.length:Int)==(e.length:Int))=false:=ϩ;go_enter func94,ntmps94;go_wp2;go_ret;exact⟨Aa (by rw[decide_eq_false g.o]),bR⟩
def FC(a b:Cel):Int:=IC a.k a.n a.s b.k b.n b.s
def AJ:List Cel->List Cel->Int
 |[],[]=>0
 |[],_::_=> -1
 |_::_,[]=>1
 |a::x,b::y=>if FC a b=0 then AJ x y else FC a b
theorem K6(c d:List Cel)(k:Nat)(h1:k<=c.length)(e:k<=d.length)(h:∀i,i<k->FC (c.getD i ϰ) (d.getD i ϰ)=0):
 AJ c d=AJ (c.drop k) (d.drop k):=by
 induction k generalizing c d with
 |zero=>rfl
 |succ k ih=>
  match c,d,h1,e with
  |a::x,b::y,h1,e=>
   have f:FC a b=0:=h 0 Ϥ;rw[AJ,if_pos f,drop_succ_cons,drop_succ_cons];exact ih x y (by simpa using h1) (by simpa using e) (λi g=>h (i+1) Ϥ)
theorem FX(r:List Cel)(k:Nat)(h:k<r.length):r.drop k=r.getD k ϰ::r.drop (k+1):=by
 rw[drop_eq_getElem_cons h];simp[gDe,h]
theorem NG(c d:List Cel)(k:Nat)(h1:k<c.length)(e:k<d.length)(h:∀i,i<k->FC (c.getD i ϰ) (d.getD i ϰ)=0)
 (f:FC (c.getD k ϰ) (d.getD k ϰ)≠0):AJ c d=FC (c.getD k ϰ) (d.getD k ϰ):=by
 rw[K6 c d k Ϥ Ϥ h,FX c k h1,FX d k e,AJ,if_neg f]
theorem GC(d c:List Cel)(k:Nat)(h1:k<=d.length)(f:k<=c.length)(h:∀i,i<k->FC (d.getD i ϰ) (c.getD i ϰ)=0)
 (j:k=d.length\/k=c.length):AJ d c=CU d.length c.length:=by
 rw[K6 d c k h1 f h];unfold CU;by_cases g:k=d.length
 ·rw[drop_of_length_le (show d.length<=k by omega)];by_cases e:k=c.length
  ·rw[drop_of_length_le (show c.length<=k by omega),AJ,if_neg Ϥ,if_neg Ϥ]
  ·rw[FX c k Ϥ,AJ,if_pos Ϥ]
 ·have e:k=c.length:=Ϥ;rw[drop_of_length_le (show c.length<=k by omega),FX d k Ϥ,AJ,if_neg Ϥ,if_pos Ϥ]
attribute [local go_sem ↓] Go.wp_at_zero Go.wp_at_succ
theorem Qb(V W:ϡ)(c1 c2:Nat)(d f:List Cel)(w:Ϡ)(h1:rowAt w V d)(Z:rowAt w W f)(l1:d.length<=ύ)(l2:f.length<=ύ):
 χ 120 #[vS V d.length c1,vS W f.length c2] w (ψ w (vI (AJ d f))):=by
 obtain⟨j,S⟩:∃n,d.length=n:=⟨_,rfl⟩;obtain⟨t,T⟩:∃n,f.length=n:=⟨_,rfl⟩;have m:=hV0 S;have p:=hV0 T;rw[S]at l1⊢;rw[T]at l2⊢;clear S T;go_enter func120,ntmps120;go_wp2
 go_loopw [5] (λi wr=> ∃k:Nat,k<=j/\k<=t/\i=vI k/\ϣ w wr/\(∀i,i<k->FC (d.getD i ϰ) (f.getD i ϰ)=0)) (λi _=>j - (intOf i).toNat)
 case atStart=>exact⟨0,Nat.zero_le _,Nat.zero_le _,rfl,bR,λi R=>absurd R (Nat.not_lt_zero i)⟩
 case round=>
  obtain⟨k,ab,ac,rfl,C,aa⟩:=hrel;have E:=hV0 aa;clear aa;by_cases ad:k<j
  ·by_cases ae:k<t
   ·obtain⟨X,o1,e1,x1,x2,x3⟩:=h1 k (by rw[m.o];exact ad);obtain⟨Y,o2,e2,y1,y2,y3⟩:=Z k (by rw[p.o];exact ae);subst e1 e2;obtain⟨I,J,K,F,G,H⟩:=lk6 C x1 x2 x3 y1 y2 y3;clear x1 x2 x3 y1 y2 y3 h1 Z;obtain⟨⟨q,u,A⟩,O⟩:∃c,d.getD k ϰ=c:=⟨_,rfl⟩;obtain⟨⟨r,z,B⟩,P⟩:∃c,f.getD k ϰ=c:=⟨_,rfl⟩;rw[O]at I J K;rw[P]at F G H;have L:=hV0 O;have M:=hV0 P;clear O P;dsimp only at I J K F G H;have i1:=nn0 k;have i2:(k:Int)<(j:Int):=Ϥ;have i3:(k:Int)<(t:Int):=Ϥ;by_cases N:(IC q u A r z B==0)=true
    ·have D:Ϣ (FC (d.getD k ϰ) (f.getD k ϰ)=0):=by
      show FC (d.getD k ϰ) (f.getD k ϰ)=0;rw[L.o,M.o];exact(show IC q u A r z B=0 by simpa using N)
     go_wp2
     go_region_held3 (λw'=>ϒ w' X (o1+k * 3) (vI q) (vI u) (.string A) (ϝ w' Y (o2+k * 3) (vI r) (vI z) (.string B))) (first|go_keep|exact⟨cLz g I,cLz g J,cLz g K,cLz g F,cLz g G,cLz g H⟩)
      (first|(go_at_call 192;refine(Hz _ _ _ _ _ _ _).mono ?_;rintro e w1 ⟨rfl,g⟩))
     all_goals
      go_wp2;go_roundw;exact⟨k+1,Ϥ,Ϥ,by go_num,C.drew.trans (g.mono C.size),λi R=>by
       rcases Nat.lt_succ_iff_lt_or_eq.1 R with h|h
       ·exact E.o i h
       ·rw[h];exact D.o⟩
      simp[intOf];omega
    ·have D:Ϣ (AJ d f=IC q u A r z B):=by
      show AJ d f=IC q u A r z B;rw[NG d f k (by rw[m.o];exact ad) (by rw[p.o];exact ae) E.o (by rw[L.o,M.o];exact(show¬IC q u A r z B=0 by simpa using N)),L.o,M.o];rfl
     have af:(IC q u A r z B==0)=false:=by simpa using N
     go_wp2
     go_region_held3 (λw'=>ϒ w' X (o1+k * 3) (vI q) (vI u) (.string A) (ϝ w' Y (o2+k * 3) (vI r) (vI z) (.string B))) (first|go_keep|exact⟨cLz g I,cLz g J,cLz g K,cLz g F,cLz g G,cLz g H⟩)
      (first|(go_at_call 192;refine(Hz _ _ _ _ _ _ _).mono ?_;rintro e w1 ⟨rfl,g⟩))
     all_goals
      go_wp2;go_ret;exact⟨Ad (by rw[D.o]),C.drew.trans (g.mono C.size)⟩
   ·have D:Ϣ (AJ d f=CU j t):=by
     show AJ d f=CU j t;rw[GC d f k (by rw[m.o];exact ab) (by rw[p.o];exact ac) E.o (by rw[m.o,p.o];omega),m.o,p.o]
    have hd:decide ((k:Int)<(t:Int))=false:=decide_eq_false Ϥ;go_wp2_with (go_at_call 193;refine(FZ _ _ _).mono ?_;rintro e w' ⟨rfl,U⟩;subst U);go_ret;exact⟨Ad (by rw[D.o]),C⟩
  ·have D:Ϣ (AJ d f=CU j t):=by
    show AJ d f=CU j t;rw[GC d f k (by rw[m.o];exact ab) (by rw[p.o];exact ac) E.o (by rw[m.o,p.o];omega),m.o,p.o]
   have hd:decide ((k:Int)<(j:Int))=false:=decide_eq_false Ϥ;go_wp2_with (go_at_call 193;refine(FZ _ _ _).mono ?_;rintro e w' ⟨rfl,U⟩;subst U);go_ret;exact⟨Ad (by rw[D.o]),C⟩
theorem Tm(P R:ϡ)(c1 c2:Nat)(d f:List Cel)(w:Ϡ)(h1:rowAt w P d)(S:rowAt w R f)(l1:d.length<=ύ)(l2:f.length<=ύ):
 χ 256 #[vS P d.length c1,vS R f.length c2,.func (.func 257) #[] #[]] w (ψ w (vI (AJ d f))):=by
 obtain⟨t,L⟩:∃n,d.length=n:=⟨_,rfl⟩;obtain⟨C,M⟩:∃n,f.length=n:=⟨_,rfl⟩;have j:=hV0 L;have m:=hV0 M;rw[L]at l1⊢;rw[M]at l2⊢;clear L M;go_enter func256,ntmps256;go_wp2
 go_loopw [13] (λi wr=> ∃k:Nat,k<=t/\k<=C/\i=vI k/\ϣ w wr/\(∀i,i<k->FC (d.getD i ϰ) (f.getD i ϰ)=0)) (λi _=>t - (intOf i).toNat)
 case atStart=>exact⟨0,Nat.zero_le _,Nat.zero_le _,rfl,bR,λi K=>absurd K (Nat.not_lt_zero i)⟩
 case round=>
  obtain⟨k,U,V,rfl,g,T⟩:=hrel;have D:=hV0 T;clear T;by_cases W:k<t
  ·obtain⟨b1,o1,e1,x1,x2,x3⟩:=h1 k (by rw[j.o];exact W);subst e1;obtain⟨O,q2,q3⟩:=lk3 g x1 x2 x3;clear x1 x2 x3 h1;obtain⟨⟨q,u,A⟩,I⟩:∃c,d.getD k ϰ=c:=⟨_,rfl⟩;rw[I]at O q2 q3;have E:=hV0 I;clear I;dsimp only at O q2 q3;have i1:=nn0 k;have i2:(k:Int)<(t:Int):=Ϥ;have j1:=bLt _ _ O;by_cases X:k<C
   ·obtain⟨b2,o2,e2,y1,y2,y3⟩:=S k (by rw[m.o];exact X);subst e2;obtain⟨N,Y,Z⟩:=lk3 g y1 y2 y3;clear y1 y2 y3 S;obtain⟨⟨r,z,B⟩,J⟩:∃c,f.getD k ϰ=c:=⟨_,rfl⟩;rw[J]at N Y Z;have F:=hV0 J;clear J;dsimp only at N Y Z;have j2:=bLt _ _ N;have i3:(k:Int)<(C:Int):=Ϥ;by_cases H:(IC q u A r z B==0)=true
    ·have p:Ϣ (FC (d.getD k ϰ) (f.getD k ϰ)=0):=by
      show FC (d.getD k ϰ) (f.getD k ϰ)=0;rw[E.o,F.o];exact(show IC q u A r z B=0 by simpa using H)
     go_wp2_with (go_at_call 257;refine(ID _ _ _ _ _ _ _).mono ?_;rintro e w1 ⟨rfl,G⟩);go_roundw;exact⟨k+1,Ϥ,Ϥ,by go_num,((g.alloc g.size _).alloc (by have:=g.size;simp;omega) _).trans (G.mono (by have:=g.size;simp;omega)),λi K=>by
      rcases Nat.lt_succ_iff_lt_or_eq.1 K with h|h
      ·exact D.o i h
      ·rw[h];exact p.o⟩
     simp[intOf];omega
    ·have p:Ϣ (AJ d f=IC q u A r z B):=by
      show AJ d f=IC q u A r z B;rw[NG d f k (by rw[j.o];exact W) (by rw[m.o];exact X) D.o (by rw[E.o,F.o];exact(show¬IC q u A r z B=0 by simpa using H)),E.o,F.o];rfl
     have aa:(IC q u A r z B==0)=false:=by simpa using H
     go_wp2_with (go_at_call 257;refine(ID _ _ _ _ _ _ _).mono ?_;rintro e w1 ⟨rfl,G⟩);go_ret;exact⟨Ad (by rw[p.o]),((g.alloc g.size _).alloc (by have:=g.size;simp;omega) _).trans (G.mono (by have:=g.size;simp;omega))⟩
   ·have p:Ϣ (AJ d f=1):=by
     show AJ d f=1;rw[GC d f k (by rw[j.o];exact U) (by rw[m.o];exact V) D.o (by rw[j.o,m.o];omega),j.o,m.o];unfold CU;rw[if_neg Ϥ,if_pos Ϥ]
    go_wp2;go_ret;exact⟨Ad (by rw[p.o]),g.alloc g.size _⟩
  ·have p:Ϣ (AJ d f=CU t C):=by
    show AJ d f=CU t C;rw[GC d f k (by rw[j.o];exact U) (by rw[m.o];exact V) D.o (by rw[j.o,m.o];omega),j.o,m.o]
   go_wp2
   all_goals
    go_ret;exact⟨Ad (by rw[p.o];unfold CU;omega),g⟩
theorem Tn(f g:ϡ)(h i:Nat)(c d:List Cel)(w:Ϡ)(h1:rowAt w f c)(m:rowAt w g d)(q:c.length<=ύ)(r:d.length<=ύ):
 χ 220 #[vS f c.length h,vS g d.length i] w (ψ w (vI (AJ c d))):=by
 obtain⟨t,j⟩:∃n,c.length=n:=⟨_,rfl⟩;obtain⟨u,k⟩:∃n,d.length=n:=⟨_,rfl⟩;have H:=Tm f g h i c d w h1 m q r;rw[j,k]at H⊢;clear j k;go_enter func220,ntmps220;go_wp2_with (go_at_call 256;refine H.mono ?_;rintro e z ⟨rfl,p⟩);go_ret;exact⟨rfl,p⟩
theorem Tryz.info5:(Tryz.prog.info? 5).map (λi=>(i.zero,i.size,i.bytes))=some (some (.int .u8 0),1,1):=ϧ
def Ef(b:UInt8):Value:=.int .u8 (b.toNat:Int)
def ownB(w:World)(base:Nat)(v:Value)(l:List UInt8):Prop:=w.ownsRow base 5 1 v l.length (l.map Ef)
def Dq(u:Nat)(j:Nat):UInt8:=UInt8.ofNat (u/2 ^ (56 - 8 * j))
def be8(u:Nat)(j:Nat):List UInt8:=(List.range j).map (Dq u)
theorem BH(k:o.guard=none)(s x:Operand)
 (n:o.op= .call {callee:=.builtin .append,args:=#[s,x],argTypes:=#[51,51]}) (base:Nat) (v:Value) (l:List UInt8) (q:a.eval s=v) (c:Ϡ)
 (p:ownB c base v l) (X:Value) (b:UInt8) (j:X=Ef b) (B:Nat) (i:c.heap.size=B) (r:a.eval x=vS (ϋ B) 1 1) (E:l.length<=2000000) (D:base<=c.heap.size)
 (h:∀d w',ownB w' base d (l++[b])->(c.alloc (.cells #[X] 5)).grownBy w' v.ownBlock->wpList Tryz.prog ops Q rest (a.put o.dst d) w'):
 wpList Tryz.prog ops Q (o::rest) a (ϊ c #[X] 5):=by
 subst j;subst i;obtain⟨C,m,t,z,A⟩:=info_parts Tryz.info5;refine wpList_append_own _ k s x 51 n base 5 C (.int .u8 0) 1 1 underlying51 m t z A rfl ϥ v l.length (l.map Ef) q
  (World.ownsRow.alloc p _) ⟨c,0,none⟩ 1 1 [Ef b] r rfl (cell_one_new _ _ _) (by intro u e;simp at e;subst e;rfl) Ϯ Ϥ ϩ ?_
 intro d w' f g _;refine h d w' ?_ g;unfold ownB;rw[lAp,map_append];exact f
theorem AX{c:Ϡ}{o:Obj}(d:Below base w c)(h0:base<=c.heap.size)(g:ownB c base v l)(e:(c.alloc o).grownBy w' v.ownBlock):Below base w w':=
 (d.alloc h0 o).grown e ϩ (λk f=>(World.ownsRow.lt g k f).1)
theorem LO(u j:Nat):(.int .u8 ((u:Int)/2 ^ (56 - 8 * j) % 256):Value)=Ef (Dq u j):=by
 unfold Ef Dq;rw[UInt8.toNat_ofNat']
 congr 1
theorem NH(u j:Nat):be8 u (j+1)=be8 u j++[Dq u j]:=by
 unfold be8;rw[range_succ,map_append];rfl
theorem Eb(u j:Nat):(be8 u j).length=j:=by simp[be8]
theorem ML(m:Nat)(h:m<2 ^ 63):m ^^^ 2 ^ 63=2 ^ 63+m:=by
 apply Nat.eq_of_testBit_eq;intro i;rw[Nat.testBit_xor];by_cases c:i<63
 ·rw[Nat.testBit_two_pow_add_gt c,Nat.testBit_two_pow_of_ne Ϥ];simp
 ·by_cases d:i=63
  ·subst d;rw[Nat.testBit_two_pow_add_eq,Nat.testBit_two_pow_self,Nat.testBit_lt_two_pow h];rfl
  ·have e:2 ^ 64<=2 ^ i:=Nat.pow_le_pow_right Ϥ Ϥ;rw[Nat.testBit_lt_two_pow (Nat.lt_of_lt_of_le h Ϥ),Nat.testBit_two_pow_of_ne Ϥ,Nat.testBit_lt_two_pow (Nat.lt_of_lt_of_le Ϥ e)];rfl
theorem NI(m:Nat)(h:2 ^ 63<=m)(c:m<2 ^ 64):m ^^^ 2 ^ 63=m - 2 ^ 63:=by
 have e:=ML (m - 2 ^ 63) Ϥ;have:m=(m - 2 ^ 63) ^^^ 2 ^ 63:=by rw[e];omega
 rw[this,Nat.xor_assoc,Nat.xor_self,Nat.xor_zero,<-this]
theorem To(n:Int)(c: -9223372036854775808<=n)(d:n<=9223372036854775807):
 (n % 18446744073709551616).toNat ^^^ 9223372036854775808=(n+9223372036854775808).toNat:=by
 by_cases h:0<=n
 ·have e:n % 18446744073709551616=n:=Int.emod_eq_of_lt h Ϥ;rw[e];have:=ML n.toNat Ϥ;rw[show(2:Nat) ^ 63=9223372036854775808 by decide]at this;rw[this];omega
 ·have e:n % 18446744073709551616=n+18446744073709551616:=Ϥ;rw[e];have:=NI (n+18446744073709551616).toNat Ϥ Ϥ;rw[show(2:Nat) ^ 63=9223372036854775808 by decide]at this;rw[this];omega
theorem Tp(x:Int):IntKind.u64.wrap x=x % 18446744073709551616:=by
 simp[IntKind.wrap,IntKind.signed,IntKind.bits]
theorem Abk(n:Int)(e: -9223372036854775808<=n)(f:n<=9223372036854775807):
 bits BinOp.xor IntKind.u64 (IntKind.u64.wrap n) 9223372036854775808=(((n+9223372036854775808).toNat:Nat):Int):=by
 unfold bits;simp only[Tp];rw[BitVec.toNat_xor];have c:(BitVec.ofInt IntKind.u64.bits (n % 18446744073709551616)).toNat=(n % 18446744073709551616).toNat:=by
  rw[BitVec.toNat_ofInt];show((n % 18446744073709551616) % 18446744073709551616).toNat=_;rw[Int.emod_emod_of_dvd _ (Int.dvd_refl _)]
 have d:(BitVec.ofInt IntKind.u64.bits 9223372036854775808).toNat=9223372036854775808:=by
  rw[BitVec.toNat_ofInt];rfl
 rw[c,d,To n e f];omega
theorem Y8(n:Int)(e: -9223372036854775808<=n)(f:n<=9223372036854775807):
 IntKind.u64.wrap (bits BinOp.xor IntKind.i64 n (-9223372036854775808))=(((n+9223372036854775808).toNat:Nat):Int):=by
 unfold bits;simp only[Tp];rw[BitVec.toNat_xor];have c:(BitVec.ofInt IntKind.i64.bits n).toNat=(n % 18446744073709551616).toNat:=by
  rw[BitVec.toNat_ofInt];rfl
 have d:(BitVec.ofInt IntKind.i64.bits (-9223372036854775808)).toNat=9223372036854775808:=by
  rw[BitVec.toNat_ofInt];rfl
 rw[c,d,To n e f];simp only[IntKind.wrap,IntKind.signed,IntKind.bits];simp;split<;>omega
theorem Pj(base:Nat)(v:Value)(l:List UInt8)(n:Int)(w:Ϡ)(r:base<=w.heap.size)(k:ownB w base v l)(E:l.length<=1000000)
 (B: -9223372036854775808<=n) (C:n<=9223372036854775807):
 χ 244 #[v,vI n] w λe w'=> ∃g,e= .returned g/\ownB w' base g (l++be8 (n+9223372036854775808).toNat 8)/\Below base w w':=by
 have A:=Abk n B C;obtain⟨u,f⟩:∃u,(n+9223372036854775808).toNat=u:=⟨_,rfl⟩;rw[f]at A;have p:=hV0 f;have H:u<=18446744073709551615:=Ϥ;clear f;go_enter func244,ntmps244;go_wp2
 go_loopw [0,6] (λv i wr=> ∃j:Nat,j<=8/\i=vI (56 - 8 * (j:Int))/\ownB wr base v (l++be8 u j)/\Below base w wr) (λ_ i _=>(intOf i+8).toNat)
 case atStart=>exact⟨0,Ϥ,rfl,by simpa[be8]using k,bR⟩
 case round=>
  obtain⟨j,D,rfl,m,d⟩:=hrel;have F:=Eb u j;have h:base<=wr.heap.size:=Nat.le_trans r d.size;have c:=hV0 m;clear k m;by_cases G:j<8
  ·go_wp2_with (at_builtin;refine BH rfl (.tmp 14) (.tmp 19) rfl base _ (l++be8 u j) rfl _ c.o _ (Dq u j) (LO u j) _ rfl rfl (by rw[lAp,Eb];omega) h ?_;intro g I z t);go_roundw;exact⟨j+1,Ϥ,by go_num,by rw[NH,<-append_assoc];exact z,AX d h c.o t⟩;simp[intOf];omega
  ·have q:j=8:=Ϥ;subst q;go_wp2;go_ret;exact⟨_,rfl,by rw[p.o];exact c.o,d⟩
theorem Ve(j:o.guard=none)(s x:Operand)
 (m:o.op= .call {callee:=.builtin .append,args:=#[s,x],argTypes:=#[51,51]}) (base:Nat) (v:Value) (l:List UInt8) (p:a.eval s=v) (c:Ϡ)
 (n:ownB c base v l) (B:Nat) (i:c.heap.size=B) (q:a.eval x=vS (ϋ B) 2 2) (D:l.length<=2000000) (C:base<=c.heap.size)
 (h:∀d w',ownB w' base d (l++[0,1])->(c.alloc (.cells #[.int .u8 0,.int .u8 1] 5)).grownBy w' v.ownBlock->wpList Tryz.prog ops Q rest (a.put o.dst d) w'):
 wpList Tryz.prog ops Q (o::rest) a (ϊ c #[.int .u8 0,.int .u8 1] 5):=by
 subst i;obtain⟨A,k,r,t,z⟩:=info_parts Tryz.info5;refine wpList_append_own _ j s x 51 m base 5 A (.int .u8 0) 1 1 underlying51 k r t z rfl ϥ v l.length (l.map Ef) p
  (World.ownsRow.alloc n _) ⟨c,0,none⟩ 2 2 [.int .u8 0,.int .u8 1] q rfl (cell_two_new _ _ _ _) (by intro u e;simp at e;rcases e with rfl|rfl<;>rfl) Ϯ Ϥ ϩ ?_
 intro d w' f g _;refine h d w' ?_ g;unfold ownB;rw[lAp,map_append];exact f
def Bs(l:List UInt8):List UInt8:=l.flatMap λb=>if b=0 then [0,255]else [b]
theorem NJ(l:List UInt8):(Bs l).length<=2 * l.length:=by
 induction l with
 |nil=>simp[Bs]
 |cons b r ih=>
  have:Bs (b::r)=(if b=0 then [0,255]else [b])++Bs r:=rfl;rw[this,lAp,length_cons];split<;>simp<;>omega
theorem Ji(l:List UInt8)(b:UInt8):Bs (l++[b])=Bs l++(if b=0 then [0,255]else [b]):=by
 unfold Bs;rw[flatMap_append];simp
theorem D9(s:ByteArray)(k:Nat)(h:k<s.size):s.data.toList.take (k+1)=s.data.toList.take k++[s[k]]:=by
 rw[take_succ_eq_append_getElem (by simpa using h)];rfl
theorem byte_zero(b:UInt8):((b.toNat:Int)==0)=decide (b=0):=by
 rw[Bool.eq_iff_iff,beq_iff_eq,decide_eq_true_iff,<-UInt8.toNat_inj];simp
theorem byte_of{b c:UInt8}(h:b=c):(.int .u8 (b.toNat:Int):Value)=Ef c:=by rw[h];rfl
theorem NL(base:Nat)(v:Value)(l:List UInt8)(s:ByteArray)(w:Ϡ)(D:base<=w.heap.size)(t:ownB w base v l)(L:l.length<=1000000)(M:s.size<=64):
 χ 245 #[v,.string s] w λe w'=> ∃j,e= .returned j/\ownB w' base j (l++Bs s.data.toList++[0,1])/\Below base w w':=by
 go_enter func245,ntmps245;go_wp2
 go_loopw [0,8] (λv i wr=> ∃k:Nat,k<=s.size/\i=vI k/\ownB wr base v (l++Bs (s.data.toList.take k))/\Below base w wr) (λ_ i _=>s.size - (intOf i).toNat)
 case atStart=>exact⟨0,Ϥ,rfl,by simpa[Bs]using t,bR⟩
 case round=>
  obtain⟨k,K,rfl,u,p⟩:=hrel;have r:(l++Bs (s.data.toList.take k)).length<=1000200:=by
   have I:=NJ (s.data.toList.take k);have J:(s.data.toList.take k).length<=k:=length_take_le _ _;rw[lAp];omega
  have c:base<=wr.heap.size:=Nat.le_trans D p.size;have d:=hV0 u;have m:=hV0 r;clear t u r;by_cases F:k<s.size
  ·have q:Ϣ (Bs (s.data.toList.take (k+1))=Bs (s.data.toList.take k)++(if s[k]=0 then [0,255]else [s[k]])):=by
    show Bs (s.data.toList.take (k+1))=_;rw[D9 s k F,Ji]
   by_cases z:((s[k].toNat:Int)==0)=true
   ·have A:s[k]=0:=of_decide_eq_true ((byte_zero s[k]).symm.trans z);have n:=hV0 A;clear A;go_wp2_with (first
     |(at_builtin;refine BH rfl (.tmp 11) (.tmp 15) rfl base _ (l++Bs (s.data.toList.take k)) rfl _ d.o _ 0 (byte_of n.o) _ rfl rfl (by have:=m.o;omega) c ?_;intro j B g f)
     |(at_builtin;refine BH rfl (.tmp 21) (.tmp 22) rfl base _ (l++Bs (s.data.toList.take k)++[0]) rfl _ g _ 255 rfl _ rfl rfl (by have:=m.o;rw[lAp];simp only[length_cons,length_nil];omega) (Nat.le_trans c (AX bR c d.o f).size) ?_;intro N O G E))
    go_roundw;exact⟨k+1,Ϥ,by go_num,by rw[q.o,if_pos n.o];simpa[append_assoc]using G,AX (AX p c d.o f) (Nat.le_trans c (AX bR c d.o f).size) g E⟩;simp[intOf];omega
   ·have H:((s[k].toNat:Int)==0)=false:=by simpa using z
    have n:Ϣ (¬s[k]=0):=of_decide_eq_false ((byte_zero s[k]).symm.trans H);go_wp2_with (at_builtin;refine BH rfl (.tmp 11) (.tmp 15) rfl base _ (l++Bs (s.data.toList.take k)) rfl _ d.o _ s[k] rfl _ rfl rfl (by have:=m.o;omega) c ?_;intro j B g f);go_roundw;exact⟨k+1,Ϥ,by go_num,by rw[q.o,if_neg n.o];simpa[append_assoc]using g,AX p c d.o f⟩;simp[intOf];omega
  ·have C:Ϣ (s.data.toList.take k=s.data.toList):=take_of_length_le ϩ;go_wp2_with (at_builtin;refine Ve rfl (.tmp 25) (.tmp 26) rfl base _ (l++Bs (s.data.toList.take k)) rfl _ d.o _ rfl rfl (by have:=m.o;omega) c ?_;intro j B g f);go_ret;exact⟨_,rfl,by have h:=g;rw[C.o]at h;exact h,AX p c d.o f⟩
def C3(c:Cel):List UInt8:=
 if c.k=0 then [0]else if c.k=1 then [1,UInt8.ofNat c.n.toNat]else if c.k=2 then 2::be8 (c.n+9223372036854775808).toNat 8 else 3::(Bs c.s.data.toList++[0,1])
def Cel.ok(c:Cel):Prop:=chk c.k c.n c.s=0
theorem FY{k n:Int}{s:ByteArray}(h:chk k n s=0):
 s.size<=64/\((k=0/\n=0/\s.size=0)\/(k=1/\n=0/\s.size=0)\/(k=1/\n=1/\s.size=0)\/(k=2/\s.size=0)\/(k=3/\n=0)):=by
 unfold chk at h;split at h
 ·omega
 ·split at h
  ·omega
  ·split at h
   ·omega
   ·omega
theorem C4(h:ownB w base v l)(o:Obj):ownB (w.alloc o) base v l:=World.ownsRow.alloc h o
theorem C5{d:Ϡ}(g:ownB w base v l){c i:Obj}(f:((w.alloc c).alloc i).grownBy d v.ownBlock)(j:Nat){x:Value}
 (e:Δ (w.alloc c) w j x):Δ d w j x:=by
 refine f.cell ?_ ?_
 ·rw[World.cell?_alloc_lt]
  ·exact e
  ·simp
 ·intro h;have:=(World.ownsRow.lt g w.heap.size h.symm).2;omega
theorem NM(base:Nat)(v:Value)(l:List UInt8)(k n:Int)(s:ByteArray)(w:Ϡ)(i:base<=w.heap.size)(d:ownB w base v l)(J:l.length<=900000)
 (H: -9223372036854775808<=n) (I:n<=9223372036854775807) (D:chk k n s=0):
 χ 184 #[v,.agg #[vI k,vI n,.string s]] w λe w'=> ∃E,e= .returned E/\ownB w' base E (l++C3 ⟨k,n,s⟩)/\Below base w w':=by
 obtain⟨G,F⟩:=FY D;clear D;rcases F with⟨rfl,rfl,A⟩|⟨rfl,rfl,A⟩|⟨rfl,rfl,A⟩|⟨rfl,A⟩|⟨rfl,rfl⟩
 ·go_enter func184,ntmps184;go_wp2_with (at_builtin;refine BH rfl (.tmp 5) (.tmp 9) rfl base v l rfl _ (C4 d _) _ 0 rfl (w.heap.size+1) Ϧ rfl Ϥ ϩ ?_;intro m g h c;have q:=C5 (x:=vI 0) d c 0 Ϩ;have r:=C5 (x:=vI 0) d c 1 Ϩ;have t:=C5 (x:=.string s) d c 2 Ϩ;have f:=AX ((Below.refl base w).alloc i _) ϩ (C4 d _) c;have j:base<=g.heap.size:=Nat.le_trans i f.size;clear c);go_ret;exact⟨_,rfl,h,f⟩
 ·go_enter func184,ntmps184;go_wp2_with (first
   |(at_builtin;refine BH rfl (.tmp 5) (.tmp 9) rfl base v l rfl _ (C4 d _) _ 1 rfl (w.heap.size+1) Ϧ rfl Ϥ ϩ ?_;intro m g h c;have q:=C5 (x:=vI 1) d c 0 Ϩ;have r:=C5 (x:=vI 0) d c 1 Ϩ;have t:=C5 (x:=.string s) d c 2 Ϩ;have f:=AX ((Below.refl base w).alloc i _) ϩ (C4 d _) c;have j:base<=g.heap.size:=Nat.le_trans i f.size;clear c)
   |(at_builtin;refine BH rfl (.tmp 15) (.tmp 19) rfl base m (l++[1]) rfl _ h _ 0 rfl g.heap.size rfl rfl ϩ j ?_;intro B C p z))
  go_ret;exact⟨_,rfl,by simpa[C3,append_assoc]using p,AX f j h z⟩
 ·go_enter func184,ntmps184;go_wp2_with (first
   |(at_builtin;refine BH rfl (.tmp 5) (.tmp 9) rfl base v l rfl _ (C4 d _) _ 1 rfl (w.heap.size+1) Ϧ rfl Ϥ ϩ ?_;intro m g h c;have q:=C5 (x:=vI 1) d c 0 Ϩ;have r:=C5 (x:=vI 1) d c 1 Ϩ;have t:=C5 (x:=.string s) d c 2 Ϩ;have f:=AX ((Below.refl base w).alloc i _) ϩ (C4 d _) c;have j:base<=g.heap.size:=Nat.le_trans i f.size;clear c)
   |(at_builtin;refine BH rfl (.tmp 15) (.tmp 19) rfl base m (l++[1]) rfl _ h _ 1 rfl g.heap.size rfl rfl ϩ j ?_;intro B C p z))
  go_ret;exact⟨_,rfl,by simpa[C3,append_assoc]using p,AX f j h z⟩
 ·go_enter func184,ntmps184;go_wp2_with (first
   |(at_builtin;refine BH rfl (.tmp 5) (.tmp 9) rfl base v l rfl _ (C4 d _) _ 2 rfl (w.heap.size+1) Ϧ rfl Ϥ ϩ ?_;intro m g h c;have q:=C5 (x:=vI 2) d c 0 Ϩ;have r:=C5 (x:=vI n) d c 1 Ϩ;have t:=C5 (x:=.string s) d c 2 Ϩ;have f:=AX ((Below.refl base w).alloc i _) ϩ (C4 d _) c;have j:base<=g.heap.size:=Nat.le_trans i f.size;clear c)
   |(go_at_call 244;refine(Pj base m (l++[2]) n g j h ϩ H I).mono ?_;rintro e C ⟨B,rfl,p,u⟩))
  go_ret;exact⟨_,rfl,by simpa[C3,append_assoc]using p,f.trans u⟩
 ·go_enter func184,ntmps184;go_wp2_with (first
   |(at_builtin;refine BH rfl (.tmp 5) (.tmp 9) rfl base v l rfl _ (C4 d _) _ 3 rfl (w.heap.size+1) Ϧ rfl Ϥ ϩ ?_;intro m g h c;have q:=C5 (x:=vI 3) d c 0 Ϩ;have r:=C5 (x:=vI 0) d c 1 Ϩ;have t:=C5 (x:=.string s) d c 2 Ϩ;have f:=AX ((Below.refl base w).alloc i _) ϩ (C4 d _) c;have j:base<=g.heap.size:=Nat.le_trans i f.size;clear c)
   |(go_at_call 245;refine(NL base m (l++[3]) s g j h ϩ G).mono ?_;rintro e C ⟨B,rfl,p,u⟩))
  go_ret;exact⟨_,rfl,by simpa[C3,append_assoc]using p,f.trans u⟩
def encR(r:List Cel):List UInt8:=r.flatMap C3
def Ff:List Cel->Int
 |[]=>0
 |c::r=>if chk c.k c.n c.s=0 then Ff r else chk c.k c.n c.s
def Au(r:List Cel):Int:=if 8<r.length then 2 else Ff r
theorem Qc(r:List Cel)(k:Nat)(h:∀i,i<k->((r.getD i ϰ).ok)):Ff r=Ff (r.drop k):=by
 induction k generalizing r with
 |zero=>rfl
 |succ k ih=>
  match r with
  |[]=>rfl
  |c::r=>
   have d:chk c.k c.n c.s=0:=h 0 Ϥ;rw[Ff,if_pos d,drop_succ_cons];exact ih r (λi e=>h (i+1) Ϥ)
theorem Tq(c:Cel)(h:c.ok):(C3 c).length<=131:=by
 have d:=(FY h).1;unfold C3;split
 ·simp
 ·split
  ·simp
  ·split
   ·simp[Eb]
   ·have:=NJ c.s.data.toList;simp only[length_cons,lAp,length_nil];have e:c.s.data.toList.length=c.s.size:=Array.length_toList;omega
theorem D6(r:List Cel)(h:∀c∈r,c.ok):(encR r).length<=131 * r.length:=by
 induction r with
 |nil=>simp[encR]
 |cons c r ih=>
  have e:encR (c::r)=C3 c++encR r:=rfl;have f:=Tq c (h c (mem_cons_self ..));have g:=ih (λx d=>h x (mem_cons_of_mem _ d));rw[e,lAp,length_cons];omega
theorem LP(r:List Cel)(c:Cel):encR (r++[c])=encR r++C3 c:=by
 unfold encR;rw[flatMap_append];simp
theorem LQ(r:List Cel)(k:Nat)(h:k<r.length):r.take (k+1)=r.take k++[r.getD k ϰ]:=by
 rw[take_succ_eq_append_getElem h];simp[gDe,h]
theorem He(h:ownB w base v l):(convert 51 9 v).run Tryz.prog w= .ok (.string ⟨l.toArray⟩) w:=by
 rcases h.2 with⟨rfl,e⟩|⟨g,d,i,rfl,j,f,m,k,n,c⟩
 ·have:l=[]:=eq_nil_of_length_eq_zero e;subst this;exact Lib.run_convert_nil_bytes w 51 9 5 0 underlying51 underlying5 underlying9
 ·refine run_convert_bytes_back w 51 9 5 ⟨g,0,none⟩ d l underlying51 underlying5 underlying9 ?_;refine Lib.bytes_of_row f ?_;rw[Nat.mul_one]at c;rw[c];simp[Lib.byteCells,Ef]
theorem JJ(h:ownB w base v l)(m:ϣ w w'):ownB w' base v l:=by
 refine⟨h.1,?_⟩;rcases h.2 with i|⟨g,e,f,p,j,c,k⟩
 ·exact .inl i
 ·have d:g<w.heap.size:=by
   rcases Nat.lt_or_ge g w.heap.size with d|n
   ·exact d
   ·rw[Array.getElem?_eq_none n]at c;cases c
  exact .inr ⟨g,e,f,p,j,by rw[m.block g d];exact c,k⟩
def Bq(r:List Cel):Prop:=∀c∈r,(-9223372036854775808<=c.n/\c.n<=9223372036854775807)/\c.s.size<=maxLen
theorem Abl{r:List Cel}(h:Bq r)(k:Nat)(c:k<r.length):(-9223372036854775808<=(r.getD k ϰ).n/\(r.getD k ϰ).n<=9223372036854775807)/\(r.getD k ϰ).s.size<=maxLen:=
 h _ (by simp[gDe,c])
theorem QR(r:List Cel)(k:Nat)(c:k<r.length)(h:∀i,i<k->((r.getD i ϰ).ok))(d:¬(r.getD k ϰ).ok):Ff r=chk (r.getD k ϰ).k (r.getD k ϰ).n (r.getD k ϰ).s:=by
 rw[Qc r k h,FX r k c,Ff];exact if_neg d
theorem K7(r:List Cel)(k:Nat)(c:r.length<=k)(h:∀i,i<k->((r.getD i ϰ).ok)):Ff r=0:=by
 rw[Qc r k h,drop_of_length_le c];rfl
theorem I9{r:List Cel}(h:Ff r=0):∀c∈r,c.ok:=by
 induction r with
 |nil=>intro c d;cases d
 |cons a r ih=>
  rw[Ff]at h;split at h
  ·rename_i e;intro c d;rcases mem_cons.1 d with rfl|d
   ·exact e
   ·exact ih h c d
  ·rename_i e;exact absurd h e
theorem AdK(r:List Cel)(k:Nat)(f:k<=r.length)(h:∀i,i<k->((r.getD i ϰ).ok)):∀c∈r.take k,c.ok:=by
 intro c d;obtain⟨i,e,rfl⟩:=getElem_of_mem d;rw[length_take]at e;have:=h i Ϥ;rw[getElem_take];simpa[gDe,show i<r.length by omega]using this
def FR(r:List Cel):ByteArray:=⟨(if Au r=0 then encR r else []).toArray⟩
theorem Vf{x y:ByteArray}{a b:Int}(h1:x=y)(c:a=b):Ending.returned (.tuple #[.string x,vI a])= .returned (.tuple #[.string y,vI b]):=by rw[h1,c]
theorem Jj(a:ϡ)(cap:Nat)(r:List Cel)(w:Ϡ)(N:rowAt w a r)(ad:Bq r)(hl:r.length<=ύ):
 χ 112 #[vS a r.length cap] w (ψ w (.tuple #[.string (FR r),vI (Au r)])):=by
 obtain⟨n,G⟩:∃n,r.length=n:=⟨_,rfl⟩;have d:=hV0 G;rw[G]at hl⊢;clear G;by_cases L:8<n
 ·have q:Ϣ (Au r=2):=by
   show Au r=2;unfold Au;rw[if_pos (by rw[d.o];exact L)]
  go_enter func112,ntmps112;go_wp2
  go_ret2
  exact⟨Vf (by unfold FR;rw[q.o];rfl) q.o.symm,bR⟩
 ·have q:Ϣ (Au r=Ff r):=by
   show Au r=Ff r;unfold Au;rw[if_neg (by rw[d.o];exact L)]
  go_enter func112,ntmps112;go_wp2
  go_loopw [4,13] (λv i wr=> ∃k:Nat,k<=n/\i=vI k/\ownB wr w.heap.size v (encR (r.take k))/\ϣ w wr/\(∀i,i<k->((r.getD i ϰ).ok))) (λ_ i _=>n - (intOf i).toNat)
  case atStart=>exact⟨0,Ϥ,rfl,World.ownsRow_nil _ _ _ _,bR,λi F=>absurd F (Nat.not_lt_zero i)⟩
  case round=>
   obtain⟨k,hk,rfl,M,t,D⟩:=hrel;have C:=hV0 D;have K:=hV0 M;have Z:Ϣ ((encR (r.take k)).length<=2000):=by
    have h1:=D6 (r.take k) (AdK r k (by rw[d.o];exact hk) D);have h2:(r.take k).length<=k:=length_take_le _ _;show _<=2000;omega
   clear D M;by_cases B:k<n
   ·obtain⟨b1,o1,e1,U,V,W⟩:=N k (by rw[d.o];exact B);subst e1;obtain⟨H,R,S⟩:=lk3 t U V W;clear U V W N;have P:=Abl ad k (by rw[d.o];exact B);have HT:Ϣ (encR (r.take (k+1))=encR (r.take k)++C3 (r.getD k ϰ)):=by
     show encR (r.take (k+1))=_;rw[LQ r k (by rw[d.o];exact B),LP]
    obtain⟨⟨f,g,j⟩,E⟩:∃c,r.getD k ϰ=c:=⟨_,rfl⟩;rw[E]at H R S P;have u:=hV0 E;clear E;obtain⟨⟨T,I⟩,J⟩:=P;dsimp only at H R S T I J;have i1:=nn0 k;have i2:(k:Int)<(n:Int):=Ϥ;have j1:=bLt _ _ H;have O:=t.size;by_cases z:(chk f g j==0)=true
    ·have m:Ϣ (chk f g j=0):=by
      show chk f g j=0;simpa using z
     go_wp2_with (first
      |(go_at_call 183;refine(Bi _ _ _ _ J).mono ?_;rintro e wc ⟨rfl,p⟩;have af:=cLz p (a:=⟨wr.heap.size,0,none⟩) (v:=vI f) Ϩ;have ag:=cLz p (a:=⟨wr.heap.size,1,none⟩) (v:=vI g) Ϩ;have ah:=cLz p (a:=⟨wr.heap.size,2,none⟩) (v:=.string j) Ϩ;have ab:=JJ (C4 K.o _) p;have A:=(t.alloc O _).trans (p.mono ϩ))
      |(go_at_call 184;refine(NM w.heap.size u4 (encR (r.take k)) f g j wc A.size ab (by have:=Z.o;omega) T I m.o).mono ?_;rintro e I ⟨v2,rfl,ac,aa⟩))
     go_roundw;exact⟨k+1,Ϥ,by go_num,by rw[HT.o,u.o];exact ac,A.trans aa,λi F=>by
      rcases Nat.lt_succ_iff_lt_or_eq.1 F with h|h
      ·exact C.o i h
      ·rw[h,u.o];exact m.o⟩
     simp[intOf];omega
    ·have ae:(chk f g j==0)=false:=by simpa using z
     have m:Ϣ (Au r=chk f g j):=by
      show Au r=chk f g j;rw[q.o,QR r k (by rw[d.o];exact B) C.o (by rw[u.o];intro h;exact z (beq_iff_eq.2 h)),u.o]
     have X:Ϣ (¬chk f g j=0):=λh=>z (beq_iff_eq.2 h);go_wp2_with (go_at_call 183;refine(Bi _ _ _ _ J).mono ?_;rintro e wc ⟨rfl,p⟩;have A:=(t.alloc O _).trans (p.mono ϩ))
     go_ret2
     exact⟨Vf (by unfold FR;rw[if_neg (by rw[m.o];exact X.o)]) m.o.symm,A⟩
   ·have m:Ϣ (Au r=0):=by
     show Au r=0;rw[q.o,K7 r k (by rw[d.o];omega) C.o]
    have Y:Ϣ (r.take k=r):=take_of_length_le (by rw[d.o];omega);have ai:=He K.o;go_wp2
    go_ret2
    exact⟨Vf (by unfold FR;rw[if_pos m.o,Y.o]) m.o.symm,t⟩
theorem Cr(a:ϡ)(cap:Nat)(r:List Cel)(w:Ϡ)(I:rowAt w a r)(U:Bq r)(T:r.length<=ύ):
 χ 119 #[vS a r.length cap] w (ψ w (vI (Au r))):=by
 obtain⟨n,E⟩:∃n,r.length=n:=⟨_,rfl⟩;have d:=hV0 E;rw[E]at T⊢;clear E;by_cases G:8<n
 ·have q:Ϣ (Au r=2):=by
   show Au r=2;unfold Au;rw[if_pos (by rw[d.o];exact G)]
  go_enter func119,ntmps119;go_wp2;go_ret;exact⟨Ad q.o.symm,bR⟩
 ·have q:Ϣ (Au r=Ff r):=by
   show Au r=Ff r;unfold Au;rw[if_neg (by rw[d.o];exact G)]
  go_enter func119,ntmps119;go_wp2
  go_loopw [3] (λi wr=> ∃k:Nat,k<=n/\i=vI k/\ϣ w wr/\(∀i,i<k->((r.getD i ϰ).ok))) (λi _=>n - (intOf i).toNat)
  case atStart=>exact⟨0,Ϥ,rfl,bR,λi C=>absurd C (Nat.not_lt_zero i)⟩
  case round=>
   obtain⟨k,Z,rfl,p,H⟩:=hrel;have t:=hV0 H;clear H;by_cases D:k<n
   ·obtain⟨X,o1,S,O,P,R⟩:=I k (by rw[d.o];exact D);subst S;obtain⟨L,M,N⟩:=lk3 p O P R;clear O P R I;have K:=Abl U k (by rw[d.o];exact D);obtain⟨⟨f,g,j⟩,B⟩:∃c,r.getD k ϰ=c:=⟨_,rfl⟩;rw[B]at L M N K;have u:=hV0 B;clear B;obtain⟨⟨V,W⟩,F⟩:=K;dsimp only at L M N V W F;have i1:=nn0 k;have i2:(k:Int)<(n:Int):=Ϥ;have J:=p.size;by_cases A:(chk f g j==0)=true
    ·have m:Ϣ (chk f g j=0):=by
      show chk f g j=0;simpa using A
     go_wp2_with (go_at_call 191;refine(Fp _ _ _ _ F).mono ?_;rintro e wc ⟨rfl,z⟩);go_roundw;exact⟨k+1,Ϥ,by go_num,p.trans (z.mono J),λi C=>by
      rcases Nat.lt_succ_iff_lt_or_eq.1 C with h|h
      ·exact t.o i h
      ·rw[h,u.o];exact m.o⟩
     simp[intOf];omega
    ·have Y:(chk f g j==0)=false:=by simpa using A
     have m:Ϣ (Au r=chk f g j):=by
      show Au r=chk f g j;rw[q.o,QR r k (by rw[d.o];exact D) t.o (by rw[u.o];intro h;exact A (beq_iff_eq.2 h)),u.o]
     go_wp2_with (go_at_call 191;refine(Fp _ _ _ _ F).mono ?_;rintro e wc ⟨rfl,z⟩);go_ret;exact⟨Ad m.o.symm,p.trans (z.mono J)⟩
   ·have m:Ϣ (Au r=0):=by
     show Au r=0;rw[q.o,K7 r k (by rw[d.o];omega) t.o]
    go_wp2;go_ret;exact⟨Ad m.o.symm,p⟩
end vl
namespace vl
variable {s : ByteArray} {x y : List UInt8}
theorem CK(b:UInt8)(x:List UInt8):Bs (b::x)=(if b=0 then [0,255]else [b])++Bs x:=rfl
theorem NN(x t tail rest:List UInt8)(h:Bs x++tail=Bs t++0::1::rest):∃f,t=x++f/\tail=Bs f++0::1::rest:=by
 induction x generalizing t with
 |nil=>exact⟨t,rfl,h⟩
 |cons b x ih=>
  rw[CK]at h
  cases t with
  |nil=>
   by_cases d:b=0
   ·rw[if_pos d]at h;simp[Bs]at h
   ·rw[if_neg d]at h;simp[Bs]at h;exact absurd h.1 d
  |cons c t=>
   rw[CK]at h;by_cases d:b=0
   ·rw[if_pos d]at h;by_cases e:c=0
    ·rw[if_pos e]at h;have j:Bs x++tail=Bs t++0::1::rest:=by simpa using h
     obtain⟨f,g,i⟩:=ih t j;exact⟨f,by rw[d,e,g];rfl,i⟩
    ·rw[if_neg e]at h;simp at h;exact absurd h.1.symm e
   ·rw[if_neg d]at h;by_cases e:c=0
    ·rw[if_pos e]at h;simp at h;exact absurd h.1 d
    ·rw[if_neg e]at h;simp only[cons_append,nil_append,List.cons.injEq]at h;obtain⟨f,g,i⟩:=ih t h.2;exact⟨f,by rw[h.1,g];rfl,i⟩
def Bd(l:List UInt8):Nat:=l.foldl (λu b=>u * 256+b.toNat) 0
theorem Mw(n:Nat):(UInt8.ofNat n).toNat=n % 256:=UInt8.toNat_ofNat'
theorem Ae5(u:Nat):be8 u 8=[Dq u 0,Dq u 1,Dq u 2,Dq u 3,Dq u 4,Dq u 5,Dq u 6,Dq u 7]:=rfl
theorem Hf(u:Nat)(h:u<18446744073709551616):Bd (be8 u 8)=u:=by
 rw[Ae5];simp only[Bd,foldl_cons,foldl_nil,Dq,Mw];simp only[Nat.reduceMul,Nat.reduceSub,Nat.reducePow,Nat.reduceAdd];omega
theorem K8{a b:UInt8}(h:a.toNat=b.toNat):a=b:=UInt8.toNat_inj.1 h
theorem Y9(l:List UInt8)(h:l.length=8):be8 (Bd l) 8=l:=by
 match l,h with
 |[b0,b1,b2,b3,b4,b5,b6,b7],_=>
  have c:=b0.toNat_lt;have d:=b1.toNat_lt;have e:=b2.toNat_lt;have f:=b3.toNat_lt;have g:=b4.toNat_lt;have i:=b5.toNat_lt;have j:=b6.toNat_lt;have k:=b7.toNat_lt;rw[Ae5];simp only[List.cons.injEq,and_true];refine⟨?_,?_,?_,?_,?_,?_,?_,?_⟩<;>
   (apply K8;simp only[Bd,foldl_cons,foldl_nil,Dq,Mw];simp only[Nat.reduceMul,Nat.reduceSub,Nat.reducePow,Nat.reduceAdd];omega)
theorem K9(l:List UInt8)(h:l.length=8):Bd l<18446744073709551616:=by
 match l,h with
 |[b0,b1,b2,b3,b4,b5,b6,b7],_=>
  have c:=b0.toNat_lt;have d:=b1.toNat_lt;have e:=b2.toNat_lt;have f:=b3.toNat_lt;have g:=b4.toNat_lt;have i:=b5.toNat_lt;have j:=b6.toNat_lt;have k:=b7.toNat_lt;simp only[Bd,foldl_cons,foldl_nil];omega
def Cel.wf(c:Cel):Prop:=(-9223372036854775808<=c.n/\c.n<=9223372036854775807)/\c.s.size<=maxLen
theorem Tr(h:s.size=0):s=⟨#[]⟩:=ByteArray.ext (Array.eq_empty_of_size_eq_zero h)
theorem str_eq{t:ByteArray}(h:s.data.toList=t.data.toList):s=t:=ByteArray.ext (Array.ext' h)
theorem encC_cases{c:Cel}(h:c.ok):
 (c=⟨0,0,⟨#[]⟩⟩/\C3 c=[0])\/(c=⟨1,0,⟨#[]⟩⟩/\C3 c=[1,0])\/(c=⟨1,1,⟨#[]⟩⟩/\C3 c=[1,1])\/
 (∃n,c=⟨2,n,⟨#[]⟩⟩/\C3 c=2::be8 (n+9223372036854775808).toNat 8)\/(∃s,c=⟨3,0,s⟩/\s.size<=64/\C3 c=3::(Bs s.data.toList++[0,1])):=by
 obtain⟨k,n,s⟩:=c;obtain⟨f,e⟩:=FY h;dsimp only at f e;rcases e with⟨rfl,rfl,d⟩|⟨rfl,rfl,d⟩|⟨rfl,rfl,d⟩|⟨rfl,d⟩|⟨rfl,rfl⟩
 ·rw[Tr d];exact .inl ⟨rfl,rfl⟩
 ·rw[Tr d];exact .inr (.inl ⟨rfl,rfl⟩)
 ·rw[Tr d];exact .inr (.inr (.inl ⟨rfl,rfl⟩))
 ·rw[Tr d];exact .inr (.inr (.inr (.inl ⟨n,rfl,rfl⟩)))
 ·exact .inr (.inr (.inr (.inr ⟨s,rfl,f,rfl⟩)))
theorem GD{c:Cel}(h:c.ok):C3 c≠[]:=by
 rcases encC_cases h with⟨_,e⟩|⟨_,e⟩|⟨_,e⟩|⟨n,_,e⟩|⟨s,_,_,e⟩<;>rw[e]<;>simp
theorem NO{a b:List UInt8}(ha:a.length=b.length)(h:a++x=b++y):a=b/\x=y:=append_inj h ha
theorem KU{c d:Cel}(z:c.ok)(A:d.ok)(wc:c.wf)(F:d.wf)(h:C3 c++x=C3 d++y):c=d/\x=y:=by
 rcases encC_cases z with⟨rfl,e⟩|⟨rfl,e⟩|⟨rfl,e⟩|⟨n,rfl,e⟩|⟨s,rfl,G,e⟩<;>rcases encC_cases A with⟨rfl,g⟩|⟨rfl,g⟩|⟨rfl,g⟩|⟨m,rfl,g⟩|⟨t,rfl,H,g⟩<;>simp only[e,g,cons_append,nil_append,List.cons.injEq]at h
 all_goals try (exact⟨rfl,h.2⟩)
 all_goals try (exact⟨rfl,h.2.2⟩)
 all_goals try (exact absurd h.1 ϥ)
 all_goals try (exact absurd h.2.1 ϥ)
 ·obtain⟨r,u⟩:=NO (by rw[Eb,Eb]) h.2;have:=congrArg Bd r;obtain⟨⟨D,E⟩,_⟩:=wc;obtain⟨⟨B,C⟩,_⟩:=F;dsimp only at D E B C;rw[Hf _ Ϥ,Hf _ Ϥ]at this;have e:n=m:=Ϥ;exact⟨by rw[e],u⟩
 ·have q:Bs s.data.toList++0::1::x=Bs t.data.toList++0::1::y:=by simpa using h.2
  obtain⟨j,k,f⟩:=NN _ _ _ _ q;have:j=[]:=by
   cases j with
   |nil=>rfl
   |cons b j=>
    rw[CK]at f;by_cases i:b=0
    ·rw[if_pos i]at f;simp at f
    ·rw[if_neg i]at f;simp at f;exact absurd f.1.symm i
  subst this;rw[append_nil]at k;have p:x=y:=by simpa[Bs]using f
  exact⟨by rw[str_eq k],p⟩
end vl
namespace vl
variable {w w' : Ϡ} {base : Nat} {v : Value} {l tail x : List UInt8} {b : UInt8}
theorem Bw(h:ownB w base v l):∃d c,v=vS d l.length c:=by
 rcases h.2 with⟨rfl,e⟩|⟨g,c,f,rfl,_⟩
 ·exact⟨none,0,by rw[e]⟩
 ·exact⟨_,_,rfl⟩
theorem BG(s:ByteArray)(k:Nat)(h:k<s.size):s.data.toList.drop k=s[k]::s.data.toList.drop (k+1):=by
 rw[drop_eq_getElem_cons (by simpa using h)];rfl
theorem A2(s:ByteArray):s.data.toList.length=s.size:=Array.length_toList
def Gi(l:List UInt8):Prop:=∀t rest,t.length<=64->l≠Bs t++0::1::rest
theorem Jk(h:l=Bs x++tail)(g:∀c rest,(x++c).length<=64->tail≠Bs c++0::1::rest):Gi l:=by
 intro t rest i d;rw[h]at d;obtain⟨c,e,f⟩:=NN _ _ _ _ d;exact g c rest (by rw[<-e];exact i) f
theorem Afj(h:l=Bs x++[]):Gi l:=Jk h (λc rest _ e=>by simp at e)
theorem WZ(h:l=Bs x++tail)(d:64<x.length):Gi l:=Jk h (λf rest c e=>by rw[lAp]at c;omega)
theorem AdL(h:l=Bs x++[0]):Gi l:=Jk h (λd rest _ e=>by
 cases d with
 |nil=>simp[Bs]at e
 |cons b d=>
  rw[CK]at e;by_cases c:b=0
  ·rw[if_pos c]at e;simp at e
  ·rw[if_neg c]at e;simp at e)
theorem Abm{c:UInt8}(h:l=Bs x++0::c::tail)(h1:c≠1)(g:c≠255):Gi l:=Jk h (λf rest _ e=>by
 cases f with
 |nil=>simp[Bs]at e;exact h1 e.1
 |cons b f=>
  rw[CK]at e;by_cases d:b=0
  ·rw[if_pos d]at e;simp at e;exact g e.1
  ·rw[if_neg d]at e;simp at e;exact absurd e.1.symm d)
theorem DR(b c:UInt8):((b.toNat:Int)==(c.toNat:Int))=decide (b=c):=by
 rw[Bool.eq_iff_iff,beq_iff_eq,decide_eq_true_iff,<-UInt8.toNat_inj];omega
theorem QS(s:ByteArray)(w:Ϡ)(T:s.size<=maxLen):
 χ 249 #[.string s] w λe w'=>(∃C K ok,e= .returned (.tuple #[.string C,.string K,.bool ok])/\C.size<=65/\
  ((ok=true/\s.data.toList=Bs C.data.toList++0::1::K.data.toList)\/(ok=false/\Gi s.data.toList)))/\ϣ w w':=by
 unfold maxLen at T;go_enter func249,ntmps249;go_wp2
 go_loopw [5,6] (λv i wr=> ∃(k:Nat) (t:List UInt8),k<=s.size/\i=vI k/\ownB wr w.heap.size v t/\ϣ w wr/\t.length<=65/\s.data.toList=Bs t++s.data.toList.drop k) (λ_ i _=>s.size - (intOf i).toNat)
 case atStart=>exact⟨0,[],Ϥ,rfl,World.ownsRow_nil _ _ _ _,bR,Ϧ,rfl⟩
 case round=>
  obtain⟨k,t,hk,rfl,A,c,ht,H⟩:=hrel;obtain⟨Y,Z,U⟩:=Bw A;subst U;have d:=hV0 A;have f:=hV0 H;have j:=c.size;clear A H;by_cases P:k<s.size
  ·by_cases aa:t.length<=64
   ·have ab:((t.length:Nat):Int)<=64:=Ϥ;have q:Ϣ (s.data.toList.drop k=s[k]::s.data.toList.drop (k+1)):=BG s k P;by_cases I:((s[k].toNat:Int)==0)=true
    ·have J:s[k]=0:=of_decide_eq_true ((byte_zero s[k]).symm.trans I);have g:=hV0 J;clear J;by_cases R:k+1<s.size
     ·have L:Ϣ (s.data.toList.drop (k+1)=s[k+1]::s.data.toList.drop (k+1+1)):=BG s (k+1) R;have S:((k:Int)+1==(s.size:Int))=false:=ϩ;have u:Ϣ (s.data.toList=Bs t++0::s[k+1]::s.data.toList.drop (k+1+1)):=by
       show s.data.toList=_;have h:=f.o;rw[q.o,L.o,g.o]at h;exact h
      by_cases D:((s[k+1].toNat:Int)==1)=true
      ·have E:s[k+1]=1:=of_decide_eq_true ((DR s[k+1] 1).symm.trans D);have m:=hV0 E;clear E;have ac:=λn=>He (w:=wr.drewN n) (base:=w.heap.size) d.o;go_wp2
       go_quiet (fail)
       go_wp2
       go_ret3
       exact⟨⟨_,_,_,rfl,by show t.toArray.size<=65;simp;omega,.inl ⟨rfl,by
        have h:=u.o;rw[m.o]at h;rw[Lib.extract_to_end];exact h⟩⟩,below_drewN c _⟩
      ·have M:((s[k+1].toNat:Int)==1)=false:=by simpa using D
       have m:Ϣ (¬s[k+1]=1):=of_decide_eq_false ((DR s[k+1] 1).symm.trans M);by_cases F:((s[k+1].toNat:Int)==255)=true
       ·have G:s[k+1]=255:=of_decide_eq_true ((DR s[k+1] 255).symm.trans F);have p:=hV0 G;clear G;go_wp2_with (at_builtin;refine BH rfl (.tmp 47) (.tmp 48) rfl w.heap.size _ t rfl _ d.o _ 0 rfl _ rfl rfl Ϥ j ?_;intro W X B z);go_roundw;exact⟨k+1+1,t++[0],Ϥ,by go_num,B,AX c j d.o z,ϩ,by
         have h:=u.o;rw[p.o]at h;rw[Ji,if_pos rfl,append_assoc];exact h⟩
        simp[intOf];omega
       ·have N:((s[k+1].toNat:Int)==255)=false:=by simpa using F
        have p:Ϣ (¬s[k+1]=255):=of_decide_eq_false ((DR s[k+1] 255).symm.trans N);go_wp2
        go_ret3
        exact⟨⟨_,_,_,rfl,Nat.zero_le _,.inr ⟨rfl,Abm u.o m.o p.o⟩⟩,c⟩
     ·have S:((k:Int)+1==(s.size:Int))=true:=ϩ;have r:Ϣ (s.data.toList.drop (k+1)=[]):=drop_of_length_le (by rw[A2];omega);go_wp2
      go_ret3
      exact⟨⟨_,_,_,rfl,Nat.zero_le _,.inr ⟨rfl,AdL (x:=t) (by have h:=f.o;rw[q.o,r.o,g.o]at h;exact h)⟩⟩,c⟩
    ·have V:((s[k].toNat:Int)==0)=false:=by simpa using I
     have g:Ϣ (¬s[k]=0):=of_decide_eq_false ((byte_zero s[k]).symm.trans V);go_wp2_with (at_builtin;refine BH rfl (.tmp 22) (.tmp 26) rfl w.heap.size _ t rfl _ d.o _ s[k] rfl _ rfl rfl Ϥ j ?_;intro W X B z);go_roundw;exact⟨k+1,t++[s[k]],Ϥ,by go_num,B,AX c j d.o z,ϩ,by
      have h:=f.o;rw[q.o]at h;rw[Ji,if_neg g.o,append_assoc];exact h⟩
     simp[intOf];omega
   ·have O:decide (((t.length:Nat):Int)<=64)=false:=decide_eq_false Ϥ;go_wp2
    go_ret3
    exact⟨⟨_,_,_,rfl,Nat.zero_le _,.inr ⟨rfl,WZ f.o Ϥ⟩⟩,c⟩
  ·have r:Ϣ (s.data.toList.drop k=[]):=drop_of_length_le (by rw[A2];omega);have O:decide ((k:Int)<(s.size:Int))=false:=decide_eq_false Ϥ;go_wp2
   go_ret3
   exact⟨⟨_,_,_,rfl,Nat.zero_le _,.inr ⟨rfl,Afj (x:=t) (by have h:=f.o;rw[r.o]at h;exact h)⟩⟩,c⟩
theorem JK(l:List UInt8)(b:UInt8):Bd (l++[b])=Bd l * 256+b.toNat:=by
 unfold Bd;rw[foldl_append];rfl
theorem Vg(l:List UInt8)(a:Nat):l.foldl (λu b=>u * 256+b.toNat) a+1<=(a+1) * 256 ^ l.length:=by
 induction l generalizing a with
 |nil=>simp
 |cons b l ih=>
  have c:=b.toNat_lt;rw[foldl_cons,length_cons,Nat.pow_succ];refine Nat.le_trans (ih _) ?_;rw[show(a+1) * (256 ^ l.length * 256)=((a+1) * 256) * 256 ^ l.length by rw[Nat.mul_comm (256 ^ l.length),Nat.mul_assoc]];exact Nat.mul_le_mul_right _ Ϥ
theorem FD(l:List UInt8):Bd l<256 ^ l.length:=by
 have:=Vg l 0;rw[Nat.zero_add,Nat.one_mul]at this;exact this
theorem Abn(u b:Nat)(c:b<256):u * 256|||b=u * 256+b:=by
 have:=Nat.shiftLeft_add_eq_or_of_lt (a:=u) (b:=b) (i:=8) (by simpa using c);rw[Nat.shiftLeft_eq]at this;exact this.symm
theorem GF(x:Nat)(c:x<18446744073709551616):(BitVec.ofInt 64 (x:Int)).toNat=x:=by
 rw[BitVec.toNat_ofInt];show((x:Int) % 18446744073709551616).toNat=x;rw[Int.emod_eq_of_lt Ϥ Ϥ];rfl
theorem Xa(u b:Nat)(f:u<72057594037927936)(e:b<256):
 bits BinOp.or IntKind.u64 (IntKind.u64.wrap ((u:Int) * 256)) (IntKind.u64.wrap (b:Int))=((u * 256+b:Nat):Int):=by
 unfold bits;simp only[Tp];rw[Int.emod_eq_of_lt (a:=(u:Int) * 256) Ϥ Ϥ,Int.emod_eq_of_lt (a:=(b:Int)) Ϥ Ϥ];have c:(BitVec.ofInt IntKind.u64.bits ((u:Int) * 256)).toNat=u * 256:=by
  have:=GF (u * 256) Ϥ;rw[show((u * 256:Nat):Int)=(u:Int) * 256 by omega]at this;exact this
 have d:(BitVec.ofInt IntKind.u64.bits (b:Int)).toNat=b:=GF b Ϥ;rw[BitVec.toNat_or,c,d,Abn u b e];exact Int.emod_eq_of_lt Ϥ Ϥ
theorem Abo(u:Nat)(e:u<18446744073709551616):wrap64 (bits BinOp.xor IntKind.u64 (u:Int) 9223372036854775808)=(u:Int) - 9223372036854775808:=by
 unfold bits;simp only[Tp];have c:(BitVec.ofInt IntKind.u64.bits (u:Int)).toNat=u:=GF u e;have d:(BitVec.ofInt IntKind.u64.bits 9223372036854775808).toNat=9223372036854775808:=by rw[BitVec.toNat_ofInt];rfl
 rw[BitVec.toNat_xor,c,d];by_cases h:u<9223372036854775808
 ·have:=ML u Ϥ;rw[show(2:Nat) ^ 63=9223372036854775808 by decide]at this;rw[this];unfold wrap64;omega
 ·have:=NI u Ϥ Ϥ;rw[show(2:Nat) ^ 63=9223372036854775808 by decide]at this;rw[this];unfold wrap64;omega
theorem Ts(s:ByteArray)(w:Ϡ)(n:s.size=8):
 χ 248 #[.string s] w λe w'=>e= .returned (vI ((Bd s.data.toList:Int) - 9223372036854775808))/\w'=w:=by
 have t:s.size<=8:=Ϥ;go_enter func248,ntmps248;go_wp2
 go_loop [3,7] (λu i=> ∃k:Nat,k<=8/\i=vI k/\u= .int .u64 (Bd (s.data.toList.take k):Int)) (λ_ i=>8 - (intOf i).toNat)
 case atStart=>exact⟨0,Ϥ,rfl,rfl⟩
 case round=>
  obtain⟨k,q,rfl,rfl⟩:=hrel;obtain⟨u,f⟩:∃u,Bd (s.data.toList.take k)=u:=⟨_,rfl⟩;have d:=hV0 f;rw[f];clear f;by_cases r:k<8
  ·have m:k<s.size:=Ϥ;have c:Ϣ (u<72057594037927936):=by
    show u<72057594037927936;have j:=FD (s.data.toList.take k);rw[d.o,length_take,A2]at j;have p:256 ^ (min k s.size)<=256 ^ 7:=Nat.pow_le_pow_right Ϥ Ϥ;omega
   have h:Ϣ (Bd (s.data.toList.take (k+1))=u * 256+s[k].toNat):=by
    show Bd (s.data.toList.take (k+1))=_;rw[D9 s k m,JK,d.o]
   go_wp2
   go_round
   case rel=>exact⟨k+1,Ϥ,by go_num,by rw[h.o,Xa u s[k].toNat c.o s[k].toNat_lt]⟩
   case measure=>simp[intOf];omega
  ·go_wp2;have g:Ϣ (Bd s.data.toList=u):=by
    show Bd s.data.toList=u;rw[<-d.o,take_of_length_le (by rw[A2];omega)]
   have c:Ϣ (u<18446744073709551616):=by
    show u<18446744073709551616;rw[<-g.o];exact K9 _ (by rw[A2];exact n)
   go_ret;exact⟨Ad (by rw[g.o,Abo u c.o]),rfl⟩
def noCell(l:List UInt8):Prop:=∀(d:Cel) t,d.ok->d.wf->l≠C3 d++t
def NP(l:List UInt8)(c:Cel)(rs:ByteArray)(ok:Bool):Prop:=(ok=true/\c.ok/\l=C3 c++rs.data.toList)\/((ok=false\/¬c.ok)/\noCell l)
def GG(l:List UInt8)(e:Ending):Prop:=∃(c:Cel) (rs:ByteArray) (ok:Bool),e= .returned (.tuple #[.agg #[vI c.k,vI c.n,.string c.s],.string rs,.bool ok])/\
 c.wf/\NP l c rs ok
theorem wf0(k n:Int)(h1: -9223372036854775808<=n)(c:n<=9223372036854775807):(⟨k,n,⟨#[]⟩⟩:Cel).wf:=⟨⟨h1,c⟩,Nat.zero_le _⟩
theorem wf3{c:ByteArray}(h:c.size<=65):(⟨3,0,c⟩:Cel).wf:=⟨⟨by show(-9223372036854775808:Int)<=0;decide,by show(0:Int)<=9223372036854775807;decide⟩,by show c.size<=maxLen;unfold maxLen;omega⟩
theorem NQ(k n:Int)(s:ByteArray)(h:chk k n s=0):(⟨k,n,s⟩:Cel).ok:=h
theorem Xb(h0:b≠0)(h1:b≠1)(c:b≠2)(f:b≠3):noCell (b::l):=by
 intro d t g i h;rcases encC_cases g with⟨_,e⟩|⟨_,e⟩|⟨_,e⟩|⟨n,_,e⟩|⟨s,_,_,e⟩<;>rw[e]at h<;>simp at h
 ·exact h0 h.1
 ·exact h1 h.1
 ·exact h1 h.1
 ·exact c h.1
 ·exact f h.1
theorem Tt:noCell [1]:=by
 intro d t c f h;rcases encC_cases c with⟨_,e⟩|⟨_,e⟩|⟨_,e⟩|⟨n,_,e⟩|⟨s,_,_,e⟩<;>rw[e]at h<;>simp at h
theorem Xc(h0:b≠0)(h1:b≠1):noCell (1::b::l):=by
 intro d t c f h;rcases encC_cases c with⟨_,e⟩|⟨_,e⟩|⟨_,e⟩|⟨n,_,e⟩|⟨s,_,_,e⟩<;>rw[e]at h<;>simp at h
 ·exact h0 h.1
 ·exact h1 h.1
theorem Abp(f:l.length<8):noCell (2::l):=by
 intro d t c g h;rcases encC_cases c with⟨_,e⟩|⟨_,e⟩|⟨_,e⟩|⟨n,_,e⟩|⟨s,_,_,e⟩<;>rw[e]at h<;>simp at h;have:=congrArg List.length h;rw[lAp,Eb]at this;omega
theorem QT(f:Gi l):noCell (3::l):=by
 intro d t c i h;rcases encC_cases c with⟨_,e⟩|⟨_,e⟩|⟨_,e⟩|⟨n,_,e⟩|⟨s,_,g,e⟩<;>rw[e]at h<;>simp at h;exact f s.data.toList t (by rw[A2];exact g) (by simpa using h)
theorem Tu(l:List UInt8)(d:8<=l.length):2::l=C3 ⟨2,(Bd (l.take 8):Int) - 9223372036854775808,⟨#[]⟩⟩++l.drop 8:=by
 have e:(((Bd (l.take 8):Int) - 9223372036854775808)+9223372036854775808).toNat=Bd (l.take 8):=Ϥ;have c:C3 ⟨2,(Bd (l.take 8):Int) - 9223372036854775808,⟨#[]⟩⟩=2::be8 (((Bd (l.take 8):Int) - 9223372036854775808)+9223372036854775808).toNat 8:=rfl;rw[c,e,Y9 _ (by rw[length_take];omega),cons_append,take_append_drop]
theorem Ec(s:ByteArray)(h:0<s.size):s.data.toList=s[0]::(s.extract 1 s.size).data.toList:=by
 rw[Lib.extract_to_end];have:=BG s 0 h;simpa using this
attribute [local go_sem ↓] Go.wp_at_zero Go.wp_at_succ
theorem Pk(s r:ByteArray)(w:Ϡ)(j:0<s.size)(f:s.size<=maxLen)(i:s.extract 1 s.size=r)(h0:s[0]=0):
 χ 209 #[.string s] w λe w'=>GG s.data.toList e/\ϣ w w':=by
 have d:Ϣ (s.data.toList=s[0]::(s.extract 1 s.size).data.toList):=Ec s j;have m:(s[0].toNat:Int)=0:=by rw[h0];rfl
 have c:=hV0 h0;clear h0;unfold maxLen at f;have g:s.extract 1 s.size=r:=i;have n:(0:Int)<(s.size:Int):=Ϥ;have k:(s[0].toNat:Int)<=255:=by have:=s[0].toNat_lt;omega
 go_enter func209,ntmps209;go_wp2
 go_quiet (fail)
 go_wp2;exact bodyPost_ret (v:=.tuple #[.agg #[Ϗ,Ϗ,ϐ],.string r,.bool true]) (by simp[results,results209,go_sem]) rfl
  ⟨⟨⟨0,0,⟨#[]⟩⟩,r,true,rfl,wf0 _ _ ϥ ϥ,.inl ⟨rfl,NQ _ _ _ ϥ,by have h:=d.o;rw[c.o,g]at h;exact h⟩⟩,by repeat (first|exact bR|(refine below_drewN ?_ _)|apply Below.drew|(refine Below.setCell ?_ Ϧ _)|(refine Below.alloc ?_ ϫ _))⟩
theorem NR(s r:ByteArray)(w:Ϡ)(f:0<s.size)(h:s.size<=maxLen)(i:s.extract 1 s.size=r)(h0:s[0]≠0)(h1:s[0]≠1)(c:s[0]≠2)(d:s[0]≠3):
 χ 209 #[.string s] w λe w'=>GG s.data.toList e/\ϣ w w':=by
 have j:Ϣ (s.data.toList=s[0]::(s.extract 1 s.size).data.toList):=Ec s f;have g:Ϣ (noCell s.data.toList):=by
  show noCell s.data.toList;rw[Ec s f];exact Xb h0 h1 c d
 have p:((s[0].toNat:Int)==0)=false:=(DR s[0] 0).trans (decide_eq_false h0);have q:((s[0].toNat:Int)==1)=false:=(DR s[0] 1).trans (decide_eq_false h1);have t:((s[0].toNat:Int)==2)=false:=(DR s[0] 2).trans (decide_eq_false c);have u:((s[0].toNat:Int)==3)=false:=(DR s[0] 3).trans (decide_eq_false d);clear h0 h1 c d;unfold maxLen at h;have m:s.extract 1 s.size=r:=i;have n:(0:Int)<(s.size:Int):=Ϥ;have k:(s[0].toNat:Int)<=255:=by have:=s[0].toNat_lt;omega
 go_enter func209,ntmps209;go_wp2
 go_quiet (fail)
 go_wp2;exact bodyPost_ret (v:=.tuple #[.agg #[Ϗ,Ϗ,ϐ],ϐ,ϑ]) (by simp[results,results209,go_sem]) rfl
  ⟨⟨⟨0,0,⟨#[]⟩⟩,⟨#[]⟩,false,rfl,wf0 _ _ ϥ ϥ,.inr ⟨.inl rfl,g.o⟩⟩,by repeat (first|exact bR|(refine below_drewN ?_ _)|apply Below.drew|(refine Below.setCell ?_ Ϧ _)|(refine Below.alloc ?_ ϫ _))⟩
theorem NT(s r:ByteArray)(w:Ϡ)(h:0<s.size)(f:s.size<=maxLen)(c:s.extract 1 s.size=r)(h0:s[0]=1)(g:r.size=0):
 χ 209 #[.string s] w λe w'=>GG s.data.toList e/\ϣ w w':=by
 have d:Ϣ (noCell s.data.toList):=by
  show noCell s.data.toList;rw[Ec s h,h0,c,Tr g];exact Tt
 have j:(s[0].toNat:Int)=1:=by rw[h0];rfl
 clear h0;unfold maxLen at f;have k:s.extract 1 s.size=r:=c;have m:(0:Int)<(s.size:Int):=Ϥ;have i:(s[0].toNat:Int)<=255:=by have:=s[0].toNat_lt;omega
 go_enter func209,ntmps209;go_wp2
 go_quiet (fail)
 go_wp2;exact bodyPost_ret (v:=.tuple #[.agg #[Ϗ,Ϗ,ϐ],ϐ,ϑ]) (by simp[results,results209,go_sem]) rfl
  ⟨⟨⟨0,0,⟨#[]⟩⟩,⟨#[]⟩,false,rfl,wf0 _ _ ϥ ϥ,.inr ⟨.inl rfl,d.o⟩⟩,by repeat (first|exact bR|(refine below_drewN ?_ _)|apply Below.drew|(refine Below.setCell ?_ Ϧ _)|(refine Below.alloc ?_ ϫ _))⟩
theorem Tv(b:UInt8)(h:b=0\/b=1):(⟨1,(b.toNat:Int),⟨#[]⟩⟩:Cel).ok/\C3 ⟨1,(b.toNat:Int),⟨#[]⟩⟩=[1,b]:=by
 rcases h with rfl|rfl<;>exact⟨NQ _ _ _ ϥ,rfl⟩
theorem Vh(b:UInt8)(h0:b≠0)(h1:b≠1):¬(⟨1,(b.toNat:Int),⟨#[]⟩⟩:Cel).ok:=by
 intro h;obtain⟨_,c⟩:=FY h;dsimp only at c;have e0:b.toNat≠0:=λe=>h0 (K8 e);have d:b.toNat≠1:=λe=>h1 (K8 e);omega
theorem Abq(s r:ByteArray)(m:0<s.size)(k:s.extract 1 s.size=r)(h0:s[0]=1)(j:0<r.size):
 NP s.data.toList ⟨1,(r[0].toNat:Int),⟨#[]⟩⟩ (r.extract 1 r.size) true:=by
 have e:s.data.toList=(1:UInt8)::r[0]::(r.extract 1 r.size).data.toList:=by rw[Ec s m,h0,k,<-Ec r j]
 by_cases c:r[0]=0\/r[0]=1
 ·obtain⟨g,i⟩:=Tv r[0] c;exact .inl ⟨rfl,g,by rw[i,e];rfl⟩
 ·have d:r[0]≠0:=λh=>c (.inl h);have f:r[0]≠1:=λh=>c (.inr h);exact .inr ⟨.inr (Vh _ d f),by rw[e];exact Xc d f⟩
theorem Pm(s r:ByteArray)(w:Ϡ)(k:0<s.size)(h:s.size<=maxLen)(c:s.extract 1 s.size=r)(h0:s[0]=1)(i:0<r.size):
 χ 209 #[.string s] w λe w'=>GG s.data.toList e/\ϣ w w':=by
 have d:=Abq s r k c h0 i;have f:Ϣ (NP s.data.toList ⟨1,(r[0].toNat:Int),⟨#[]⟩⟩ (r.extract 1 r.size) true):=d;have g:Ϣ ((⟨1,(r[0].toNat:Int),⟨#[]⟩⟩:Cel).wf):=by
  have:=r[0].toNat_lt;exact wf0 _ _ Ϥ Ϥ
 clear d;have j:r.size<=maxLen:=by
  rw[<-c,ByteArray.size_extract];omega
 have p:(s[0].toNat:Int)=1:=by rw[h0];rfl
 have t:((r.size:Int)==0)=false:=by rw[beq_eq_false_iff_ne];omega
 have z:(0:Int)<(r.size:Int):=Ϥ;have n:(r[0].toNat:Int)<=255:=by have:=r[0].toNat_lt;omega
 clear h0;unfold maxLen at h j;have q:s.extract 1 s.size=r:=c;have u:(0:Int)<(s.size:Int):=Ϥ;have m:(s[0].toNat:Int)<=255:=by have:=s[0].toNat_lt;omega
 go_enter func209,ntmps209;go_wp2
 go_quiet (fail)
 go_wp2
 go_region
 all_goals go_wp2
 all_goals
  exact bodyPost_ret (v:=.tuple #[.agg #[vI 1,vI (r[0].toNat:Int),ϐ],.string (r.extract 1 r.size),.bool true]) (by simp[results,results209,go_sem]) rfl
   ⟨⟨⟨1,_,⟨#[]⟩⟩,_,true,rfl,g.o,f.o⟩,by repeat (first|exact bR|(refine below_drewN ?_ _)|apply Below.drew|(refine Below.setCell ?_ Ϧ _)|(refine Below.alloc ?_ ϫ _))⟩
theorem Pn(s r:ByteArray)(w:Ϡ)(h:0<s.size)(f:s.size<=maxLen)(c:s.extract 1 s.size=r)(h0:s[0]=2)(g:r.size<8):
 χ 209 #[.string s] w λe w'=>GG s.data.toList e/\ϣ w w':=by
 have d:Ϣ (noCell s.data.toList):=by
  show noCell s.data.toList;rw[Ec s h,h0,c];exact Abp (by rw[A2];exact g)
 have j:(s[0].toNat:Int)=2:=by rw[h0];rfl
 clear h0;unfold maxLen at f;have k:s.extract 1 s.size=r:=c;have m:(0:Int)<(s.size:Int):=Ϥ;have i:(s[0].toNat:Int)<=255:=by have:=s[0].toNat_lt;omega
 go_enter func209,ntmps209;go_wp2
 go_quiet (fail)
 go_wp2;exact bodyPost_ret (v:=.tuple #[.agg #[Ϗ,Ϗ,ϐ],ϐ,ϑ]) (by simp[results,results209,go_sem]) rfl
  ⟨⟨⟨0,0,⟨#[]⟩⟩,⟨#[]⟩,false,rfl,wf0 _ _ ϥ ϥ,.inr ⟨.inl rfl,d.o⟩⟩,by repeat (first|exact bR|(refine below_drewN ?_ _)|apply Below.drew|(refine Below.setCell ?_ Ϧ _)|(refine Below.alloc ?_ ϫ _))⟩
theorem QU(s:ByteArray)(k:Nat):(s.extract 0 k).data.toList=s.data.toList.take k:=by
 simp[ByteArray.data_extract,Array.toList_extract]
theorem Abr(n:Int):(⟨2,n,⟨#[]⟩⟩:Cel).ok:=by
 refine NQ _ _ _ ?_;unfold chk;have e:(⟨#[]⟩:ByteArray).size=0:=rfl;rw[e,if_neg Ϥ,if_neg Ϥ,if_neg Ϥ]
theorem QV(s r:ByteArray)(w:Ϡ)(m:0<s.size)(i:s.size<=maxLen)(c:s.extract 1 s.size=r)(h0:s[0]=2)(j:8<=r.size):
 χ 209 #[.string s] w λe w'=>GG s.data.toList e/\ϣ w w':=by
 have g:Ϣ (s.data.toList=C3 ⟨2,(Bd (r.extract 0 8).data.toList:Int) - 9223372036854775808,⟨#[]⟩⟩++(r.extract 8 r.size).data.toList):=by
  show s.data.toList=_;rw[Ec s m,h0,c,QU,Lib.extract_to_end];exact Tu _ (by rw[A2];exact j)
 have d:(r.extract 0 8).size=8:=by rw[ByteArray.size_extract];omega
 have f:Ϣ (Bd (r.extract 0 8).data.toList<18446744073709551616):=K9 _ (by rw[A2];exact d);have k:r.size<=maxLen:=by
  rw[<-c,ByteArray.size_extract];omega
 have p:(s[0].toNat:Int)=2:=by rw[h0];rfl
 have u:(8:Int)<=(r.size:Int):=Ϥ;have h:=hV0 d;clear h0 d;unfold maxLen at i k;have q:s.extract 1 s.size=r:=c;have t:(0:Int)<(s.size:Int):=Ϥ;have n:(s[0].toNat:Int)<=255:=by have:=s[0].toNat_lt;omega
 go_enter func209,ntmps209;go_wp2
 go_quiet (fail)
 go_wp2
 go_region_held3 (λ_=>True) (trivial) (first|(go_at_call 248;refine(Ts _ _ h.o).mono ?_;rintro e w' ⟨rfl,rfl⟩))
 all_goals go_wp2
 all_goals
  exact bodyPost_ret (v:=.tuple #[.agg #[vI 2,vI ((Bd (r.extract 0 8).data.toList:Int) - 9223372036854775808),ϐ],.string (r.extract 8 r.size),.bool true]) (by simp[results,results209,go_sem]) rfl
   ⟨⟨⟨2,_,⟨#[]⟩⟩,_,true,rfl,wf0 _ _ (by have:=f.o;omega) (by have:=f.o;omega),.inl ⟨rfl,Abr _,g.o⟩⟩,by repeat (first|exact bR|(refine below_drewN ?_ _)|apply Below.drew|(refine Below.setCell ?_ Ϧ _)|(refine Below.alloc ?_ ϫ _))⟩
theorem Abs(s r c rs:ByteArray)(ok:Bool)(i:0<s.size)(g:s.extract 1 s.size=r)(h0:s[0]=3)
 (h:(ok=true/\r.data.toList=Bs c.data.toList++0::1::rs.data.toList)\/(ok=false/\Gi r.data.toList)):
 NP s.data.toList ⟨3,0,c⟩ rs ok:=by
 have e:s.data.toList=(3:UInt8)::r.data.toList:=by rw[Ec s i,h0,g]
 rcases h with⟨rfl,h⟩|⟨rfl,h⟩
 ·by_cases f:c.size<=64
  ·refine .inl ⟨rfl,NQ _ _ _ ?_,?_⟩
   ·unfold chk;rw[if_neg Ϥ,if_neg Ϥ,if_neg Ϥ]
   ·rw[e,h];show _=(3::(Bs c.data.toList++[0,1]))++_;simp
  ·refine .inr ⟨.inr ?_,?_⟩
   ·intro d;have:=(FY d).1;exact f this
   ·rw[e];exact QT (WZ h (by rw[A2];omega))
 ·exact .inr ⟨.inl rfl,by rw[e];exact QT h⟩
theorem Po(s r:ByteArray)(w:Ϡ)(A:0<s.size)(t:s.size<=maxLen)(i:s.extract 1 s.size=r)(h0:s[0]=3):
 χ 209 #[.string s] w λe w'=>GG s.data.toList e/\ϣ w w':=by
 have j:∀d c ok,((ok=true/\r.data.toList=Bs d.data.toList++0::1::c.data.toList)\/(ok=false/\Gi r.data.toList))->NP s.data.toList ⟨3,0,d⟩ c ok:=
  λd c ok h=>Abs s r d c ok A i h0 h
 have k:Ϣ (∀d c ok,((ok=true/\r.data.toList=Bs d.data.toList++0::1::c.data.toList)\/(ok=false/\Gi r.data.toList))->NP s.data.toList ⟨3,0,d⟩ c ok):=j;clear j;have z:r.size<=maxLen:=by
  rw[<-i,ByteArray.size_extract];omega
 have H:(s[0].toNat:Int)=3:=by rw[h0];rfl
 clear h0;unfold maxLen at t;have I:s.extract 1 s.size=r:=i;have J:(0:Int)<(s.size:Int):=Ϥ;have D:(s[0].toNat:Int)<=255:=by have:=s[0].toNat_lt;omega
 go_enter func209,ntmps209;go_wp2
 go_quiet (fail)
 go_wp2_with (go_at_call 249;refine(QS r _ z).mono ?_;rintro e g ⟨⟨d,c,ok,rfl,B,u⟩,f⟩;have n:=cLz f (a:=⟨w,0,none⟩) (v:=vI 0) Ϩ;have p:=cLz f (a:=⟨w,1,none⟩) (v:=vI 0) Ϩ;have q:=cLz f (a:=⟨w,2,none⟩) (v:=.string ⟨#[]⟩) Ϩ;have E:Ξ g w 0:=(f.frozen Ϧ).trans Ϩ;have F:Ξ g w 1:=(f.frozen Ϧ).trans Ϩ;have G:Ξ g w 2:=(f.frozen Ϧ).trans Ϩ);have m:ϣ w g:=(below_drewN ϯ _).trans (f.mono Ϧ);have C:w.heap.size<g.heap.size:=by have:=f.size;simp at this;omega
 exact bodyPost_ret (v:=.tuple #[.agg #[vI 3,Ϗ,.string d],.string c,.bool ok]) (by simp[results,results209,go_sem,n,p,q,C]) rfl
  ⟨⟨⟨3,0,d⟩,c,ok,rfl,wf3 B,k.o d c ok u⟩,by repeat (first|exact m|(refine Below.setCell ?_ Ϧ _))⟩
theorem QW(s:ByteArray)(w:Ϡ)(f:0<s.size)(c:s.size<=maxLen):
 χ 209 #[.string s] w λe w'=>GG s.data.toList e/\ϣ w w':=by
 obtain⟨r,d⟩:∃r,s.extract 1 s.size=r:=⟨_,rfl⟩;by_cases j:s[0]=0
 ·exact Pk s r w f c d j
 ·by_cases g:s[0]=1
  ·by_cases i:r.size=0
   ·exact NT s r w f c d g i
   ·exact Pm s r w f c d g Ϥ
  ·by_cases h:s[0]=2
   ·by_cases i:r.size<8
    ·exact Pn s r w f c d h i
    ·exact QV s r w f c d h Ϥ
   ·by_cases k:s[0]=3
    ·exact Po s r w f c d k
    ·exact NR s r w f c d j g h k
theorem Tryz.infoV:(Tryz.prog.info? 119).map (λi=>(i.zero,i.size,i.bytes))=some (some (.agg #[Ϗ,Ϗ,ϐ]),3,32):=ϧ
def celCells(r:List Cel):List Value:=r.flatMap λc=>[vI c.k,vI c.n,.string c.s]
theorem Ed(r:List Cel):(celCells r).length=r.length * 3:=by
 induction r with
 |nil=>rfl
 |cons c r ih=>show([_,_,_]++celCells r).length=_;rw[lAp,ih,length_cons];simp;omega
theorem Pp(r:List Cel)(c:Cel):celCells (r++[c])=celCells r++[vI c.k,vI c.n,.string c.s]:=by
 unfold celCells;rw[flatMap_append];simp
theorem IA(r:List Cel)(i:Nat)(h:i<r.length):(celCells r)[i * 3]? =some (vI (r.getD i ϰ).k)/\(celCells r)[i * 3+1]? =some (vI (r.getD i ϰ).n)/\(celCells r)[i * 3+2]? =some (.string (r.getD i ϰ).s):=by
 induction r generalizing i with
 |nil=>exact absurd h (Nat.not_lt_zero i)
 |cons c r ih=>
  have e:celCells (c::r)=vI c.k::vI c.n:: .string c.s::celCells r:=rfl;rw[e]
  cases i with
  |zero=>exact⟨rfl,rfl,rfl⟩
  |succ i=>
   have:=ih i (by simpa using h);rw[show(i+1) * 3=i * 3+1+1+1 by omega];simpa using this
def AM(w:World)(base:Nat)(v:Value)(r:List Cel):Prop:=w.ownsRow base 119 3 v r.length (celCells r)
theorem Gj{r:List Cel}(h:AM w base v r)(o:Obj):AM (w.alloc o) base v r:=World.ownsRow.alloc h o
theorem H4{r:List Cel}(h:AM w base v r)(m:ϣ w w'):AM w' base v r:=by
 refine⟨h.1,?_⟩;rcases h.2 with i|⟨g,e,f,p,j,c,k⟩
 ·exact .inl i
 ·have d:g<w.heap.size:=by
   rcases Nat.lt_or_ge g w.heap.size with d|n
   ·exact d
   ·rw[Array.getElem?_eq_none n]at c;cases c
  exact .inr ⟨g,e,f,p,j,by rw[m.block g d];exact c,k⟩
theorem Jl{r:List Cel}(h:AM w base v r):∃d c,v=vS d r.length c:=by
 rcases h.2 with⟨rfl,e⟩|⟨g,c,f,rfl,_⟩
 ·exact⟨none,0,by rw[e]⟩
 ·exact⟨_,_,rfl⟩
theorem FF{ad:ϡ}{cap:Nat}{r:List Cel}(h:AM w base (vS ad r.length cap) r):rowAt w ad r:=by
 intro i f;rcases h.2 with⟨e,t⟩|⟨g,p,q,e,u,A,z⟩
 ·omega
 ·cases e
  have d:=World.ownsRow.cells h (g:=g) rfl;obtain⟨k,m,n⟩:=IA r i f;have c:∀j,((⟨g,0,none⟩:Addr).add j)=⟨g,0+j,none⟩:=λj=>by unfold Addr.add;split<;>simp_all
  refine⟨g,0,rfl,?_,?_,?_⟩
  ·have:=d _ _ k;rw[c]at this;exact this
  ·have:=d _ _ m;rw[c]at this;exact this
  ·have:=d _ _ n;rw[c]at this;exact this
theorem NU(w:Ϡ)(a b c:Value)(t:TypeId):∀j u,[a,b,c][j]? =some u->(w.alloc (.cells #[a,b,c] t)).cell? ((⟨w,0,none⟩:Addr).add j)=some u:=by
 intro j u d
 match j,d with
 |0,d=>simp at d;subst d;simp[Addr.add]
 |1,d=>simp at d;subst d;simp[Addr.add]
 |2,d=>simp at d;subst d;simp[Addr.add]
theorem ED{ops:Array Oper}{rest:List Oper}{o:Oper}{a:Act}{Q:Exit->Act->World->Prop}(k:o.guard=none)(s x:Operand)
 (n:o.op= .call {callee:=.builtin .append,args:=#[s,x],argTypes:=#[80,80]}) (base:Nat) (v:Value) (r:List Cel) (q:a.eval s=v) (d:Ϡ)
 (p:AM d base v r) (c:Cel) (B:Nat) (j:d.heap.size=B) (t:a.eval x=vS (ϋ B) 1 1) (F:r.length<=1000000) (E:base<=d.heap.size)
 (h:∀e w',AM w' base e (r++[c])->(d.alloc (.cells #[vI c.k,vI c.n,.string c.s] 119)).grownBy w' v.ownBlock->wpList Tryz.prog ops Q rest (a.put o.dst e) w'):
 wpList Tryz.prog ops Q (o::rest) a (ϊ d #[vI c.k,vI c.n,.string c.s] 119):=by
 subst j;obtain⟨D,m,z,A,C⟩:=info_parts Tryz.infoV;refine wpList_append_own _ k s x 80 n base 119 D (.agg #[Ϗ,Ϗ,ϐ]) 3 32 underlying80 m z A C rfl ϥ v r.length (celCells r) q
  (World.ownsRow.alloc p _) ⟨d,0,none⟩ 1 1 [vI c.k,vI c.n,.string c.s] t rfl (NU _ _ _ _ _) (by intro u f;simp at f;rcases f with rfl|rfl|rfl<;>rfl) Ϯ Ϥ ϩ ?_
 intro e w' g i _;refine h e w' ?_ i;unfold AM;rw[lAp,Pp];exact g
theorem DC{c:Ϡ}{r:List Cel}{o:Obj}(d:Below base w c)(h0:base<=c.heap.size)(g:AM c base v r)(e:(c.alloc o).grownBy w' v.ownBlock):Below base w w':=
 (d.alloc h0 o).grown e ϩ (λk f=>(World.ownsRow.lt g k f).1)
theorem Ia(x r:List Cel)(tail:List UInt8)(k:∀c∈x,c.ok/\c.wf)(j:∀c∈r,c.ok/\c.wf)(h:encR x++tail=encR r):∃f,r=x++f/\tail=encR f:=by
 induction x generalizing r with
 |nil=>exact⟨r,rfl,h⟩
 |cons c x ih=>
  have e:encR (c::x)=C3 c++encR x:=rfl;rw[e,append_assoc]at h;have g:=k c (mem_cons_self ..)
  cases r with
  |nil=>
   have:=GD g.1;simp[encR]at h;exact absurd h.1 this
  |cons d r=>
   have m:encR (d::r)=C3 d++encR r:=rfl;rw[m]at h;have i:=j d (mem_cons_self ..);obtain⟨rfl,q⟩:=KU g.1 i.1 g.2 i.2 h;obtain⟨f,n,p⟩:=ih r (λy hy=>k y (mem_cons_of_mem _ hy)) (λy hy=>j y (mem_cons_of_mem _ hy)) q;exact⟨f,by rw[n];rfl,p⟩
def rowOk(r:List Cel):Prop:=r.length<=8/\∀c∈r,c.ok/\c.wf
def NV(l:List UInt8):Prop:=∀r,rowOk r->encR r≠l
theorem NW{x:List Cel}(p:∀c∈x,c.ok/\c.wf)(k:l=encR x++tail)(n:tail≠[])(m:noCell tail):NV l:=by
 intro r i h;rw[k]at h;obtain⟨e,j,f⟩:=Ia x r tail p i.2 h.symm
 cases e with
 |nil=>exact n f
 |cons d e=>
  have g:=i.2 d (by rw[j];simp);exact m d (encR e) g.1 g.2 f
theorem Vi{x:List Cel}(m:∀c∈x,c.ok/\c.wf)(j:l=encR x++tail)(k:tail≠[])(n:x.length=8):NV l:=by
 intro r e h;rw[j]at h;obtain⟨f,g,i⟩:=Ia x r tail m e.2 h.symm
 cases f with
 |nil=>exact k i
 |cons d f=>
  have:=e.1;rw[g,lAp,length_cons]at this;omega
end vl
end Go.Proofs.YtfkihidbnfkbaaaGreatDoor
