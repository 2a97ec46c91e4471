import Derived.Test.YtfkihidbnfkbaaaGreatDoorPv4
import Derived.Lib.SmallJoins
set_option linter.all false
set_option maxHeartbeats 4000000
set_option maxRecDepth 100000
open List renaming length->ϲ
namespace Go.Proofs.YtfkihidbnfkbaaaGreatDoor
open ChangeShapes WideShapes ChangeAt RowKit Joins Deep List Proofs.Tryz
namespace vl
variable {r : List Cel}
def Xo:Value->Nat
 | .string q=>q.size
 |_=>0
def Yw(s:ByteArray)(base:Nat)(e:Ending)(w':World):Prop:=
 (∃r ad cap,e= .returned (.tuple #[vS ad (ϲ r) cap,Ϗ])/\rowOk r/\encR r=s.data.toList/\AF w' base (vS ad (ϲ r) cap) r)\/
 (e= .returned (.tuple #[ώ,vI 1])/\IW s.data.toList)
def Afn{q:ByteArray}(h:0<q.size):q.data.toList≠[]:=λe=>by
 have:=A2 q;rw[e]at this;simp at this;omega
theorem Pw(s:ByteArray)(w:ϟ)(G:s.size<=maxLen):
 χ 145 #[.string s] w λe N=>Yw s w.heap.size e N/\Ϣ w N:=by
 have P:=hV0 G;unfold maxLen at G;go_enter func145,ntmps145;go_wp2
 go_loopw [0,4] (λt v wr=> ∃(q:ByteArray) (r:List Cel),t= .string q/\q.size<=s.size/\AF wr w v r/\Ϣ w wr/\(ϲ r)<=8/\(∀c∈r,c.ok/\c.wf)/\s.data.toList=encR r++q.data.toList) (λt _ _=>Xo t)
 case atStart=>exact⟨s,[],rfl,HU _,KX _ _ _ _,bR,ϥ,ϥ,rfl⟩
 case round=>
  obtain⟨q,r,rfl,hq,x,u,V,E,L⟩:=hrel;obtain⟨S,T,hv⟩:=J4 x;subst hv;have D:=hV0 x;have i:=hV0 E;have l:=hV0 L;have ac:=u.size;have J:q.size<=maxLen:=B0 hq P.o;have Q:=hV0 J;unfold maxLen at J;clear x E L;by_cases M:0<q.size
  ·have o:ϡ (q.data.toList≠[]):=Afn M;go_wp2_with fail;refine(Rw q _ M Q.o).mono ?_;rintro e B ⟨⟨c,A,ok,rfl,z,K⟩,F⟩;obtain⟨k,n,t⟩:=c;have R:=hV0 z;have p:=hV0 K;have y:t.size<=maxLen:=z.2;have d:=u.trans (F.mono ac);have Z:=F2 D.o F;clear K z
   cases ok with
   |false=>
    go_wp2
    go_ret2
    exact⟨.inr ⟨rfl,Og i.o l.o o.o (by
     rcases p.o with⟨h,_⟩|⟨_,h⟩
     ·cases h
     ·exact h)⟩,by repeat (first|exact d|(refine KZ ?_ (by have:=d.size;simp;omega) _)|(refine DH ?_ (by have:=d.size;simp;omega) _))⟩
   |true=>
    by_cases m:(chk k n t==0)=true
    ·have j:ϡ (chk k n t=0):=by
      show chk k n t=0;simpa using m
     have C:ϡ (q.data.toList=C1 ⟨k,n,t⟩++A.data.toList):=by
      show q.data.toList=_;rcases p.o with⟨_,_,h⟩|⟨h|h,_⟩
      ·exact h
      ·cases h
      ·exact absurd j.o h
     have ab:A.size<q.size:=by
      have U:=Bk List.length C.o;rw[lAp,A2,A2]at U;have h2:0<ϲ (C1 ⟨k,n,t⟩):=fD.2 (GO j.o);omega
     by_cases W:ϲ r=8
     ·have X:((ϲ r:Int)==8)=true:=by rw[UV];omega
      go_wp2_with (go_at_call 183;refine(Bb _ _ _ _ y).mono ?_;rintro e wc ⟨rfl,f⟩;have g:=(d.alloc d.size _).trans (f.mono (by have:=d.size;simp;omega)))
      go_ret2
      exact⟨.inr ⟨rfl,VI i.o l.o o.o W⟩,g⟩
     ·have X:((ϲ r:Int)==8)=false:=by rw[K5];omega
      go_wp2_with (first
       |(go_at_call 183;refine(Bb _ _ _ _ y).mono ?_;rintro e wc ⟨rfl,f⟩;have g:=(d.alloc d.size _).trans (f.mono (by have:=d.size;simp;omega));have I:=F2 (Gn Z _) f;have af:=cLz f (a:=⟨B.heap.size,0,none⟩) (v:=vI k) ϧ;have ag:=cLz f (a:=⟨B.heap.size,1,none⟩) (v:=vI n) ϧ;have ah:=cLz f (a:=⟨B.heap.size,2,none⟩) (v:=.string t) ϧ)
       |(at_builtin;refine EO rfl (.tmp 29) (.tmp 31) rfl w.heap.size _ r rfl _ I ⟨k,n,t⟩ _ rfl rfl ϣ g.size ?_;intro v' w2 aa Y))
      go_roundw
      case rel=>exact⟨A,r++[⟨k,n,t⟩],rfl,ϣ,aa,D8 g g.size I Y,by rw[lAp];simp;omega,λc m=>by
       rcases Fk.1 m with h|h
       ·exact i.o c h
       ·rw[M2.1 h];exact⟨j.o,R.o⟩,by rw[l.o,Mi,Bx,C.o]⟩
      case measure=>exact ab
    ·have ae:(chk k n t==0)=false:=by simpa using m
     have j:ϡ (¬(⟨k,n,t⟩:Cel).ok):=λh=>m (UV.2 h);go_wp2_with (go_at_call 183;refine(Bb _ _ _ _ y).mono ?_;rintro e wc ⟨rfl,f⟩;have g:=(d.alloc d.size _).trans (f.mono (by have:=d.size;simp;omega)))
     go_ret2
     exact⟨.inr ⟨rfl,Og i.o l.o o.o (by
      rcases p.o with⟨_,h,_⟩|⟨_,h⟩
      ·exact absurd h j.o
      ·exact h)⟩,g⟩
  ·have O:ϡ (q.data.toList=[]):=fE (by rw[A2];omega);go_wp2
   go_ret2
   exact⟨.inl ⟨r,S,T,rfl,⟨V,i.o⟩,by have h:=l.o;rw[O.o,Nd]at h;exact h.symm,D.o⟩,u⟩
theorem UE(s:ByteArray)(r:List Cel)(w:ϟ)(x:s.size<=maxLen)(j:rowOk r)(m:encR r=s.data.toList):
 χ 145 #[.string s] w λe k=>(∃f g,e= .returned (.tuple #[vS f (ϲ r) g,Ϗ])/\AF k w (vS f (ϲ r) g) r)/\Ϣ w k:=by
 refine(Pw s w x).mono λe k ⟨h,t⟩=>⟨?_,t⟩;rcases h with⟨y,f,g,v,o,p,q⟩|⟨_,h⟩
 ·obtain⟨c,i,l⟩:=Ik y r [] o.2 j.2 (by rw[Nd,p,m]);have:c=[]:=by
   cases c with
   |nil=>rfl
   |cons d c=>
    have u:=j.2 d (by rw[i];simp);have n:encR (d::c)=C1 d++encR c:=rfl;rw[n]at l;have:=(gG.1 l.symm).1;exact absurd this (GO u.1)
  subst this;rw[Nd]at i;subst i;exact⟨f,g,v,q⟩
 ·exact absurd m (h r j)
def Afo(s:ByteArray)(w:ϟ)(g:s.size<=maxLen)(i:IW s.data.toList):
 χ 145 #[.string s] w (ψ w (.tuple #[ώ,vI 1])):=by
 refine(Pw s w g).mono λe o ⟨h,f⟩=>⟨?_,f⟩;rcases h with⟨j,k,l,n,c,d,m⟩|⟨h,_⟩
 ·exact absurd d (i j c)
 ·exact h
theorem Afp(h:∀c∈r,c.ok/\c.wf):F0 r=0:=by
 induction r with
 |nil=>rfl
 |cons c r ih=>
  have d:chk c.k c.n c.s=0:=(h c (E0 ..)).1;rw[F0,AE d];exact ih (λx e=>h x (EQ _ e))
def JI(h:rowOk r):Aq r=0:=by
 unfold Aq;have:=h.1;rw[AC ϣ];exact Afp h.2
def LP(h:rowOk r):(FY r).data.toList=encR r:=by
 unfold FY;rw[AE (JI h)]
def UF(h:rowOk r):B8 r:=λc d=>(h.2 c d).2
def UG(h:rowOk r):(FY r).size<=1048:=by
 rw[<-A2,LP h];have e:=DU r (λc d=>(h.2 c d).1);have:=h.1;omega
def Ag8(a:Ϡ)(cap:Nat)(r:List Cel)(w:ϟ)(f:rowAt w a r)(h:rowOk r):
 χ 112 #[vS a (ϲ r) cap] w (ψ w (.tuple #[.string (FY r),Ϗ])):=by
 refine(J2 a cap r w f (UF h) (by have:=h.1;omega)).mono λe g ⟨d,c⟩=>⟨?_,c⟩;rw[d,JI h]
def Ac{w w':ϟ}{a:Ϡ}(h:rowAt w a r)(c:Ϣ w w'):rowAt w' a r:=by
 intro i d;obtain⟨b,o,e,f,g,j⟩:=h i d;exact⟨b,o,e,cLz c f,cLz c g,cLz c j⟩
def laidOut:laidOutB prog=true:=Ϧ
def own:ownKnob prog.godebug=none:=Ϧ
def LQ:prog.cellsOf 3=1:=Ϧ
section
variable {H : Type} {enc : TypeId × Value -> H} {w : ϟ} {base : Nat} {spare : Nat -> Bool} {held : Bool}
end
variable {a b:UInt8}
theorem EZ(l x y:List UInt8):Lib.compareBytes (l++x) (l++y)=Lib.compareBytes x y:=by
 induction l with
 |nil=>rfl
 |cons a l ih=>
  rw[KY,KY,Lib.compareBytes,AC (dH a),AC (dH a)];exact ih
def JJ(x y:List UInt8)(h:a<b):Lib.compareBytes (a::x) (b::y)= -1:=by rw[Lib.compareBytes,AE h]
def JK(x y:List UInt8)(h:b<a):Lib.compareBytes (a::x) (b::y)=1:=by
 rw[Lib.compareBytes,AC (λc=>absurd (UInt8.lt_trans h c) (dH b)),AE h]
theorem fold_acc(l:List UInt8)(a:Nat):l.foldl (λu b=>u * 256+b.toNat) a=a * 256 ^ (ϲ l)+AK l:=by
 induction l generalizing a with
 |nil=>simp[AK]
 |cons b l ih=>
  have e:AK (b::l)=(b::l).foldl (λu b=>u * 256+b.toNat) 0:=rfl;rw[e,dG,dG,ih,ih (0 * 256+b.toNat),DP,Nat.pow_succ];rw[bL,Nat.mul_assoc,Nat.mul_comm 256,bU,Fr];omega
def Px(b:UInt8)(l:List UInt8):AK (b::l)=b.toNat * 256 ^ (ϲ l)+AK l:=by
 have e:AK (b::l)=l.foldl (λu b=>u * 256+b.toNat) (0 * 256+b.toNat):=rfl;rw[e,fold_acc];simp
theorem Afq(l m x y:List UInt8)(h:ϲ l=ϲ m):
 Lib.compareBytes (l++x) (m++y)=if AK l<AK m then -1 else if AK m<AK l then 1 else Lib.compareBytes x y:=by
 induction l generalizing m with
 |nil=>
  cases m with
  |nil=>simp[AK]
  |cons b m=>simp at h
 |cons a l ih=>
  cases m with
  |nil=>simp at h
  |cons b m=>
   have e:ϲ l=ϲ m:=by simpa using h
   have f:=EN l;have k:=EN m;rw[KY,KY,Px,Px];rw[e]at f⊢;by_cases c:a<b
   ·have g:a.toNat+1<=b.toNat:=bX.1 c;have:=cY (256 ^ (ϲ m)) g;rw[bL]at this;rw[JJ _ _ c,AE ϣ]
   ·by_cases d:b<a
    ·have i:b.toNat+1<=a.toNat:=bX.1 d;have:=cY (256 ^ (ϲ m)) i;rw[bL]at this;rw[JK _ _ d,AC ϣ,AE ϣ]
    ·have j:a=b:=UInt8.le_antisymm (fK.1 d) (fK.1 c);subst j;rw[Lib.compareBytes,AC c,AC c,ih m e];simp only[Nat.add_lt_add_iff_left]
def JL(h:b≠0):(0:UInt8)<b:=by
 rcases dP b.toNat with c|c
 ·exact absurd (La c) h
 ·exact bX.2 c
theorem Aa4(s t x y:List UInt8):
 Lib.compareBytes (Bq s++0::1::x) (Bq t++0::1::y)=if Lib.compareBytes s t=0 then Lib.compareBytes x y else Lib.compareBytes s t:=by
 induction s generalizing t with
 |nil=>
  cases t with
  |nil=>simp[Bq,Lib.compareBytes]
  |cons b t=>
   rw[CH];by_cases c:b=0
   ·rw[AE c];simp[Bq,Lib.compareBytes]
   ·have:=JL c;rw[AC c];simp[Bq,Lib.compareBytes,this]
 |cons a s ih=>
  cases t with
  |nil=>
   rw[CH];by_cases ha:a=0
   ·rw[AE ha];simp[Bq,Lib.compareBytes]
   ·have:=JL ha;have d:¬a<0:=λh=>absurd (UInt8.lt_trans this h) (dH 0);rw[AC ha];simp[Bq,Lib.compareBytes,this,d]
  |cons b t=>
   rw[CH,CH];by_cases g:a=b
   ·subst g;rw[Bx,Bx,EZ,ih t,Lib.compareBytes,AC (dH a),AC (dH a)]
   ·by_cases f:a<b
    ·have e:Lib.compareBytes (a::s) (b::t)= -1:=JJ _ _ f;have c:b≠0:=λh=>by subst h;exact absurd (bX.1 f) (CA _)
     rw[e,AC (show¬((-1:Int)=0) by decide),AC c];by_cases ha:a=0
     ·rw[AE ha];exact JJ _ _ (JL c)
     ·rw[AC ha];exact JJ _ _ f
    ·have d:b<a:=by
      rcases Nat.lt_trichotomy a.toNat b.toNat with h|h|h
      ·exact absurd (bX.2 h) f
      ·exact absurd (La h) g
      ·exact bX.2 h
     have e:Lib.compareBytes (a::s) (b::t)=1:=JK _ _ d;have ha:a≠0:=λh=>by subst h;exact absurd (bX.1 d) (CA _)
     rw[e,AC (show¬((1:Int)=0) by decide),AC ha];by_cases c:b=0
     ·rw[AE c];exact JK _ _ (JL ha)
     ·rw[AC c];exact JK _ _ d
def Afr(c d:Cel):FI c d=if CN c.k d.k=0 then(if CN c.n d.n=0 then Lib.compareBytes c.s.data.toList d.s.data.toList else CN c.n d.n)else CN c.k d.k:=by
 unfold FI Jd AY AY AY AY;by_cases e:CN c.k d.k=0
 ·rw[AE e,AE e];by_cases f:CN c.n d.n=0
  ·rw[AE f,AE f];split
   ·rename_i h;exact h.symm
   ·rfl
  ·rw[AC f,AC f]
 ·rw[AC e,AC e]
theorem Aa5{c d:Cel}(i:c.ok)(j:d.ok)(wc:c.wf)(q:d.wf)(x y:List UInt8):
 Lib.compareBytes (C1 c++x) (C1 d++y)=if FI c d=0 then Lib.compareBytes x y else FI c d:=by
 rw[Afr];rcases encC_cases i with⟨rfl,e⟩|⟨rfl,e⟩|⟨rfl,e⟩|⟨n,rfl,e⟩|⟨s,rfl,u,e⟩<;>rcases encC_cases j with⟨rfl,f⟩|⟨rfl,f⟩|⟨rfl,f⟩|⟨m,rfl,f⟩|⟨t,rfl,v,f⟩<;>simp only[e,f,KY,JV]
 all_goals try (rw[JJ _ _ Ϥ];rfl)
 all_goals try (rw[JK _ _ Ϥ];rfl)
 ·exact EZ [0] x y
 ·exact EZ [1,0] x y
 ·have:=EZ [1] (0::x) (1::y);simp only[KY,JV]at this;rw[this,JJ _ _ Ϥ];rfl
 ·have:=EZ [1] (1::x) (0::y);simp only[KY,JV]at this;rw[this,JK _ _ Ϥ];rfl
 ·exact EZ [1,1] x y
 ·obtain⟨⟨o,p⟩,_⟩:=wc;obtain⟨⟨k,l⟩,_⟩:=q;dsimp only at o p k l⊢;have:=EZ [2] (be8 (n+9223372036854775808).toNat 8++x) (be8 (m+9223372036854775808).toNat 8++y);simp only[KY,JV]at this;rw[this,Afq _ _ _ _ (by rw[DZ,DZ]),Hr _ ϣ,Hr _ ϣ];have e0:CN 2 2=0:=Ϥ;rw[e0,AE rfl];unfold CN;by_cases g:n<m
  ·rw[AE ϣ,AE g];rfl
  ·rw[AC ϣ,AC g];by_cases h:m<n
   ·rw[AE ϣ,AE h];rfl
   ·rw[AC ϣ,AC h];rfl
 ·have:=EZ [3] (Bq s.data.toList++[0,1]++x) (Bq t.data.toList++[0,1]++y);simp only[KY,JV,Bx]at this⊢;rw[this,Aa4];rfl
theorem QQ(a b:List Cel)(ha:∀c∈a,c.ok/\c.wf)(f:∀c∈b,c.ok/\c.wf):Lib.compareBytes (encR a) (encR b)=AH a b:=by
 induction a generalizing b with
 |nil=>
  cases b with
  |nil=>rfl
  |cons d b=>
   have e:encR (d::b)=C1 d++encR b:=rfl;rw[e];have:=GO (f d (E0 ..)).1
   cases h:C1 d with
   |nil=>exact absurd h this
   |cons z zs=>rfl
 |cons c a ih=>
  have j:encR (c::a)=C1 c++encR a:=rfl;have g:=ha c (E0 ..)
  cases b with
  |nil=>
   rw[j]
   cases h:C1 c with
   |nil=>exact absurd h (GO g.1)
   |cons z zs=>rfl
  |cons d b=>
   have l:encR (d::b)=C1 d++encR b:=rfl;have k:=f d (E0 ..);rw[j,l,Aa5 g.1 k.1 g.2 k.2,ih b (λx i=>ha x (EQ _ i)) (λx i=>f x (EQ _ i)),AH]
theorem UH{a b:List Cel}(ha:∀c∈a,c.ok/\c.wf)(i:∀c∈b,c.ok/\c.wf)(h:encR a=encR b):a=b:=by
 obtain⟨e,f,g⟩:=Ik a b [] ha i (by rw[Nd];exact h)
 cases e with
 |nil=>rw[f,Nd]
 |cons d e=>
  have k:=i d (by rw[f];simp);have j:encR (d::e)=C1 d++encR e:=rfl;rw[j]at g;exact absurd (gG.1 g.symm).1 (GO k.1)
def R4:List Cel:=[⟨2, -1,⟨#[]⟩⟩,⟨3,0,⟨#[97,0]⟩⟩,⟨1,1,⟨#[]⟩⟩,⟨0,0,⟨#[]⟩⟩]
def UI(w:ϟ)(B:Nat)(c:w.heap.size=B)(b:UInt8):(convert 51 9 (vS (ϋ B) 1 1)).run prog (ϊ w #[.int .u8 (b.toNat:Int)] 5)= .ok (.string ⟨#[b]⟩) (ϊ w #[.int .u8 (b.toNat:Int)] 5):=by
 subst c;exact run_convert_bytes_back (ϊ w #[.int .u8 (b.toNat:Int)] 5) 51 9 5 ⟨w,0,none⟩ 1 [b] underlying51 underlying5 underlying9 (λj d=>by
  have:j=0:=by simp at d;omega
  subst this;simp[Addr.add])
def GC(w:ϟ)(B:Nat)(c:w.heap.size=B)(x:Int)(b:UInt8)(d:(b.toNat:Int)=x):(convert 51 9 (vS (ϋ B) 1 1)).run prog (ϊ w #[.int .u8 x] 5)= .ok (.string ⟨#[b]⟩) (ϊ w #[.int .u8 x] 5):=by
 subst d;exact UI w B c b
def Xp(u j:Nat):((u:Int)/2 ^ (56 - 8 * j) % 256)=((Dj u j).toNat:Int):=by
 have:=Mh u j;unfold EL at this;injection this
def Adj(a:ByteArray)(l:List UInt8)(h:a=⟨l.toArray⟩)(b:UInt8):a++(⟨#[b]⟩:ByteArray)=⟨(l++[b]).toArray⟩:=by
 subst h;apply str_eq;rw[Joins.data_append]
theorem Aa6(n:Int)(u:Nat)(w:ϟ)(m:IntKind.u64.wrap n=(u:Int))(o:u<=18446744073709551615):
 χ 123 #[vI n] w (ψ w (.string ⟨(be8 u 8).toArray⟩)):=by
 go_enter func123,ntmps123;go_wp2
 go_loopw [3,4] (λt i wr=> ∃j:Nat,j<=8/\i=vI (56 - 8 * (j:Int))/\t= .string ⟨(be8 u j).toArray⟩/\Ϣ w wr) (λ_ i _=>(intOf i+8).toNat)
 case atStart=>exact⟨0,ϣ,rfl,rfl,bR⟩
 case round=>
  obtain⟨j,h,rfl,rfl,c⟩:=hrel;by_cases l:j<8
  ·have f:=Xp u j;have g:=λd=>UI d d.heap.size rfl (Dj u j);have k:=DZ u j;go_wp2;go_roundw;exact⟨j+1,ϣ,by go_num,by rw[Adj _ _ rfl,<-NT],c.alloc c.size _⟩;simp[intOf];omega
  ·have e:j=8:=ϣ;subst e;go_wp2;go_ret;exact⟨rfl,c⟩
def Adk(b:UInt8)(l:List UInt8):(⟨#[b]⟩:ByteArray)++(⟨l.toArray⟩:ByteArray)=⟨(b::l).toArray⟩:=by
 apply str_eq;rw[Joins.data_append];rfl
def UJ(s:ByteArray)(k:Nat)(h:k<s.size):s.extract k (k+1)=⟨#[s[k]]⟩:=by
 apply str_eq;have c:s.data.toList.drop k=s[k]::s.data.toList.drop (k+1):=BE s k h;simp only[dU,gD];rw[extract_eq_take_drop,c];simp
def Ls{a b:ByteArray}(h:a=b):Ending.returned (.string a)= .returned (.string b):=by rw[h]
theorem UK(k n:Int)(s:ByteArray)(w:ϟ)(D: -9223372036854775808<=n)(E:n<=9223372036854775807)(l:chk k n s=0):
 χ 194 #[.agg #[vI k,vI n,.string s]] w (ψ w (.string ⟨(C1 ⟨k,n,s⟩).toArray⟩)):=by
 obtain⟨L,m⟩:=Gg l;clear l;rcases m with⟨rfl,rfl,h⟩|⟨rfl,rfl,h⟩|⟨rfl,rfl,h⟩|⟨rfl,h⟩|⟨rfl,rfl⟩
 ·have d:=GC (ϊ w #[Ϗ,Ϗ,.string s] 119) (w.heap.size+1) ϥ 0 0 rfl;go_enter func194,ntmps194;go_wp2;go_ret;exact⟨rfl,Ϯ.alloc ϥ _⟩
 ·have d:=GC (ϊ w #[vI 1,Ϗ,.string s] 119) (w.heap.size+1) ϥ 1 1 rfl;have B:=GC (ϊ (ϊ w #[vI 1,Ϗ,.string s] 119) #[.int .u8 1] 5) (w.heap.size+1+1) ϥ 0 0 rfl;go_enter func194,ntmps194;go_wp2;go_ret;exact⟨rfl,(Ϯ.alloc ϥ _).alloc Ϩ _⟩
 ·have d:=GC (ϊ w #[vI 1,vI 1,.string s] 119) (w.heap.size+1) ϥ 1 1 rfl;have B:=GC (ϊ (ϊ w #[vI 1,vI 1,.string s] 119) #[.int .u8 1] 5) (w.heap.size+1+1) ϥ 1 1 rfl;go_enter func194,ntmps194;go_wp2;go_ret;exact⟨rfl,(Ϯ.alloc ϥ _).alloc Ϩ _⟩
 ·have d:=GC (ϊ w #[vI 2,vI n,.string s] 119) (w.heap.size+1) ϥ 2 2 rfl;have p:=YV n D E;have y:=hV0 p;clear p;have J:=DZ (n+9223372036854775808).toNat 8;go_enter func194,ntmps194;go_wp2_with (go_at_call 123;refine(Aa6 _ (n+9223372036854775808).toNat _ y.o ϣ).mono ?_;rintro e M ⟨rfl,z⟩);go_ret;exact⟨Ls (Adk 2 _),(Ϯ.alloc ϥ _).trans (z.mono Ϩ)⟩
 ·have d:=GC (ϊ w #[vI 3,Ϗ,.string s] 119) (w.heap.size+1) ϥ 3 3 rfl;go_enter func194,ntmps194;have A:Ϣ w (ϊ (ϊ w #[vI 3,Ϗ,.string s] 119) #[.int .u8 3] 5):=Ϯ.alloc ϥ _;go_wp2
  go_loop [3,4] (λt i=> ∃(k:Nat) (q:ByteArray),k<=s.size/\i=vI k/\t= .string q/\q.data.toList=3::Bq (s.data.toList.take k)) (λ_ i=>s.size - (intOf i).toNat)
  case atStart=>exact⟨0,_,ϣ,rfl,rfl,rfl⟩
  case round=>
   obtain⟨k,q,m,rfl,rfl,g⟩:=hrel;have f:=hV0 g;have K:q.size<=129:=by
    rw[<-A2,g];have F:=NV (s.data.toList.take k);have G:ϲ (s.data.toList.take k)<=k:=fN _ _;simp only[DP];omega
   clear g;by_cases o:k<s.size
   ·have I:=UJ s k o;have j:ϡ (Bq (s.data.toList.take (k+1))=Bq (s.data.toList.take k)++(if s[k]=0 then [0,255]else [s[k]])):=by
     show Bq (s.data.toList.take (k+1))=_;rw[Dk s k o,J0]
    by_cases u:((s[k].toNat:Int)==0)=true
    ·have v:s[k]=0:=Fd ((byte_zero s[k]).symm.trans u);have c:=hV0 v;clear v;go_wp2
     go_round
     case rel=>exact⟨k+1,_,ϣ,by go_num,rfl,by rw[Joins.data_append,Joins.data_append,f.o,j.o,AE c.o,c.o];simp⟩
     case measure=>simp[intOf];omega
    ·have C:((s[k].toNat:Int)==0)=false:=by simpa using u
     have c:ϡ (¬s[k]=0):=aO ((byte_zero s[k]).symm.trans C);go_wp2
     go_round
     case rel=>exact⟨k+1,_,ϣ,by go_num,rfl,by rw[Joins.data_append,f.o,j.o,AC c.o];simp⟩
     case measure=>simp[intOf];omega
   ·have x:ϡ (s.data.toList.take k=s.data.toList):=KI (by rw[A2];omega);go_wp2;go_ret;exact⟨Ls (by apply str_eq;rw[Joins.data_append,f.o,x.o];rfl),A⟩
theorem Js(a:Ϡ)(cap:Nat)(r:List Cel)(w:ϟ)(s:rowAt w a r)(m:rowOk r):
 χ 125 #[vS a (ϲ r) cap] w (ψ w (.string ⟨(encR r).toArray⟩)):=by
 obtain⟨n,j⟩:∃n,ϲ r=n:=⟨_,rfl⟩;have d:=hV0 j;have M:=m.1;rw[j]at M⊢;clear j;go_enter func125,ntmps125;go_wp2
 go_loopw [3,4] (λt i wr=> ∃(k:Nat) (q:ByteArray),k<=n/\i=vI k/\t= .string q/\q.data.toList=encR (r.take k)/\Ϣ w wr) (λ_ i _=>n - (intOf i).toNat)
 case atStart=>exact⟨0,_,ϣ,rfl,rfl,rfl,bR⟩
 case round=>
  obtain⟨k,q,U,rfl,rfl,o,l⟩:=hrel;have p:=hV0 o;have V:q.size<=1048:=by
   rw[<-A2,o];have R:=DU (r.take k) (λc O=>(m.2 c (cJ O)).1);have S:ϲ (r.take k)<=k:=fN _ _;omega
  clear o;by_cases h:k<n
  ·obtain⟨Q,Y,L,D,E,F⟩:=s k (by rw[d.o];exact h);subst L;obtain⟨x,y,z⟩:=lk3 l D E F;clear D E F s;have f:=m.2 (r.getD k default) (by simp[gDe,show k<ϲ r by rw[d.o];exact h]);have K:ϡ (encR (r.take (k+1))=encR (r.take k)++C1 (r.getD k default)):=by
    show encR (r.take (k+1))=_;rw[Mj r k (by rw[d.o];exact h),Mi]
   obtain⟨⟨u,v,A⟩,g⟩:∃c,r.getD k default=c:=⟨_,rfl⟩;rw[g]at x y z f;have I:=hV0 g;clear g;have G:ϡ (chk u v A=0):=f.1;have T:ϲ (C1 ⟨u,v,A⟩)<=131:=Td _ f.1;obtain⟨_,⟨B,C⟩,P⟩:=f;dsimp only at x y z B C P;have W:=nn0 k;have X:(k:Int)<(n:Int):=ϣ;go_wp2_with (go_at_call 194;refine(UK _ _ _ _ B C G.o).mono ?_;rintro e wc ⟨rfl,N⟩);go_roundw;exact⟨k+1,_,ϣ,by go_num,rfl,by rw[Joins.data_append,p.o,K.o,I.o],bT l N⟩;simp[intOf];omega
  ·have J:ϡ (r.take k=r):=KI (by rw[d.o];omega);go_wp2;go_ret;exact⟨Ls (by apply str_eq;rw[p.o,J.o]),l⟩
end vl
