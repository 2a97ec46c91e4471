import Derived.Test.YtfkihidbnfkbaaaGreatDoorPv3
import Derived.Lib.SmallJoins
set_option linter.all false
set_option maxHeartbeats 4000000
set_option maxRecDepth 100000
open Go.ChangeShapes Go.WideShapes Go.ChangeAt Go.RowKit Go.Joins Go.Deep List
namespace Go.Proofs.YtfkihidbnfkbaaaGreatDoor
open Go.Proofs.Tryz
namespace vl
variable {r : List Cel}
def U0:Value->Nat
 | .string q=>q.size
 |_=>0
def AcB(s:ByteArray)(base:Nat)(e:Ending)(w':World):Prop:=
 (∃r ad cap,e= .returned (.tuple #[vS ad r.length cap,Ϗ])/\rowOk r/\encR r=s.data.toList/\AM w' base (vS ad r.length cap) r)\/
 (e= .returned (.tuple #[ώ,vI 1])/\NV s.data.toList)
theorem AcC{q:ByteArray}(h:0<q.size):q.data.toList≠[]:=λe=>by
 have:=A2 q;rw[e]at this;simp at this;omega
theorem Sb(s:ByteArray)(w:Ϡ)(G:s.size<=maxLen):
 χ 145 #[.string s] w λe N=>AcB s w.heap.size e N/\ϣ w N:=by
 have P:=hV0 G;unfold maxLen at G;go_enter func145,ntmps145;go_wp2
 go_loopw [0,4] (λt v wr=> ∃(q:ByteArray) (r:List Cel),t= .string q/\q.size<=s.size/\AM wr w v r/\ϣ w wr/\r.length<=8/\(∀c∈r,c.ok/\c.wf)/\s.data.toList=encR r++q.data.toList) (λt _ _=>U0 t)
 case atStart=>exact⟨s,[],rfl,Nat.le_refl _,World.ownsRow_nil _ _ _ _,bR,Ϧ,Ϧ,rfl⟩
 case round=>
  obtain⟨q,r,rfl,hq,x,u,V,E,L⟩:=hrel;obtain⟨S,T,hv⟩:=Jl x;subst hv;have D:=hV0 x;have i:=hV0 E;have l:=hV0 L;have ac:=u.size;have J:q.size<=maxLen:=Nat.le_trans hq P.o;have Q:=hV0 J;unfold maxLen at J;clear x E L;by_cases M:0<q.size
  ·have o:Ϣ (q.data.toList≠[]):=AcC M;go_wp2_with fail;refine(QW q _ M Q.o).mono ?_;rintro e B ⟨⟨c,A,ok,rfl,z,K⟩,F⟩;obtain⟨k,n,t⟩:=c;have R:=hV0 z;have p:=hV0 K;have y:t.size<=maxLen:=z.2;have d:=u.trans (F.mono ac);have Z:=H4 D.o F;clear K z
   cases ok with
   |false=>
    go_wp2
    go_ret2
    exact⟨.inr ⟨rfl,NW i.o l.o o.o (by
     rcases p.o with⟨h,_⟩|⟨_,h⟩
     ·cases h
     ·exact h)⟩,by repeat (first|exact d|(refine Below.setCell ?_ (by have:=d.size;simp;omega) _)|(refine Below.alloc ?_ (by have:=d.size;simp;omega) _))⟩
   |true=>
    by_cases m:(chk k n t==0)=true
    ·have j:Ϣ (chk k n t=0):=by
      show chk k n t=0;simpa using m
     have C:Ϣ (q.data.toList=C3 ⟨k,n,t⟩++A.data.toList):=by
      show q.data.toList=_;rcases p.o with⟨_,_,h⟩|⟨h|h,_⟩
      ·exact h
      ·cases h
      ·exact absurd j.o h
     have ab:A.size<q.size:=by
      have U:=congrArg List.length C.o;rw[lAp,A2,A2]at U;have h2:0<(C3 ⟨k,n,t⟩).length:=length_pos_iff.2 (GD j.o);omega
     by_cases W:r.length=8
     ·have X:((r.length:Int)==8)=true:=by rw[beq_iff_eq];omega
      go_wp2_with (go_at_call 183;refine(Bi _ _ _ _ y).mono ?_;rintro e wc ⟨rfl,f⟩;have g:=(d.alloc d.size _).trans (f.mono (by have:=d.size;simp;omega)))
      go_ret2
      exact⟨.inr ⟨rfl,Vi i.o l.o o.o W⟩,g⟩
     ·have X:((r.length:Int)==8)=false:=by rw[beq_eq_false_iff_ne];omega
      go_wp2_with (first
       |(go_at_call 183;refine(Bi _ _ _ _ y).mono ?_;rintro e wc ⟨rfl,f⟩;have g:=(d.alloc d.size _).trans (f.mono (by have:=d.size;simp;omega));have I:=H4 (Gj Z _) f;have af:=cLz f (a:=⟨B.heap.size,0,none⟩) (v:=vI k) Ϩ;have ag:=cLz f (a:=⟨B.heap.size,1,none⟩) (v:=vI n) Ϩ;have ah:=cLz f (a:=⟨B.heap.size,2,none⟩) (v:=.string t) Ϩ)
       |(at_builtin;refine ED rfl (.tmp 29) (.tmp 31) rfl w.heap.size _ r rfl _ I ⟨k,n,t⟩ _ rfl rfl Ϥ g.size ?_;intro v' w2 aa Y))
      go_roundw
      case rel=>exact⟨A,r++[⟨k,n,t⟩],rfl,Ϥ,aa,DC g g.size I Y,by rw[lAp];simp;omega,λc m=>by
       rcases mem_append.1 m with h|h
       ·exact i.o c h
       ·rw[mem_singleton.1 h];exact⟨j.o,R.o⟩,by rw[l.o,LP,append_assoc,C.o]⟩
      case measure=>exact ab
    ·have ae:(chk k n t==0)=false:=by simpa using m
     have j:Ϣ (¬(⟨k,n,t⟩:Cel).ok):=λh=>m (beq_iff_eq.2 h);go_wp2_with (go_at_call 183;refine(Bi _ _ _ _ y).mono ?_;rintro e wc ⟨rfl,f⟩;have g:=(d.alloc d.size _).trans (f.mono (by have:=d.size;simp;omega)))
     go_ret2
     exact⟨.inr ⟨rfl,NW i.o l.o o.o (by
      rcases p.o with⟨_,h,_⟩|⟨_,h⟩
      ·exact absurd h j.o
      ·exact h)⟩,g⟩
  ·have O:Ϣ (q.data.toList=[]):=eq_nil_of_length_eq_zero (by rw[A2];omega);go_wp2
   go_ret2
   exact⟨.inl ⟨r,S,T,rfl,⟨V,i.o⟩,by have h:=l.o;rw[O.o,append_nil]at h;exact h.symm,D.o⟩,u⟩
theorem Ng(s:ByteArray)(r:List Cel)(w:Ϡ)(x:s.size<=maxLen)(j:rowOk r)(m:encR r=s.data.toList):
 χ 145 #[.string s] w λe k=>(∃f g,e= .returned (.tuple #[vS f r.length g,Ϗ])/\AM k w (vS f r.length g) r)/\ϣ w k:=by
 refine(Sb s w x).mono λe k ⟨h,t⟩=>⟨?_,t⟩;rcases h with⟨y,f,g,v,o,p,q⟩|⟨_,h⟩
 ·obtain⟨c,i,l⟩:=Ia y r [] o.2 j.2 (by rw[append_nil,p,m]);have:c=[]:=by
   cases c with
   |nil=>rfl
   |cons d c=>
    have u:=j.2 d (by rw[i];simp);have n:encR (d::c)=C3 d++encR c:=rfl;rw[n]at l;have:=(append_eq_nil_iff.1 l.symm).1;exact absurd this (GD u.1)
  subst this;rw[append_nil]at i;subst i;exact⟨f,g,v,q⟩
 ·exact absurd m (h r j)
theorem AcD(s:ByteArray)(w:Ϡ)(g:s.size<=maxLen)(i:NV s.data.toList):
 χ 145 #[.string s] w (ψ w (.tuple #[ώ,vI 1])):=by
 refine(Sb s w g).mono λe o ⟨h,f⟩=>⟨?_,f⟩;rcases h with⟨j,k,l,n,c,d,m⟩|⟨h,_⟩
 ·exact absurd d (i j c)
 ·exact h
theorem AcE(h:∀c∈r,c.ok/\c.wf):Ff r=0:=by
 induction r with
 |nil=>rfl
 |cons c r ih=>
  have d:chk c.k c.n c.s=0:=(h c (mem_cons_self ..)).1;rw[Ff,if_pos d];exact ih (λx e=>h x (mem_cons_of_mem _ e))
theorem IZ(h:rowOk r):Au r=0:=by
 unfold Au;have:=h.1;rw[if_neg Ϥ];exact AcE h.2
theorem Ke(h:rowOk r):(FR r).data.toList=encR r:=by
 unfold FR;rw[if_pos (IZ h)]
theorem Sc(h:rowOk r):Bq r:=λc d=>(h.2 c d).2
theorem Sd(h:rowOk r):(FR r).size<=1048:=by
 rw[<-A2,Ke h];have e:=D6 r (λc d=>(h.2 c d).1);have:=h.1;omega
theorem AeP(a:ϡ)(cap:Nat)(r:List Cel)(w:Ϡ)(f:rowAt w a r)(h:rowOk r):
 χ 112 #[vS a r.length cap] w (ψ w (.tuple #[.string (FR r),Ϗ])):=by
 refine(Jj a cap r w f (Sc h) (by have:=h.1;omega)).mono λe g ⟨d,c⟩=>⟨?_,c⟩;rw[d,IZ h]
theorem Ac{w d:Ϡ}{a:ϡ}(h:rowAt w a r)(c:ϣ w d):rowAt d a r:=by
 intro i f;obtain⟨b,o,e,g,j,k⟩:=h i f;exact⟨b,o,e,cLz c g,cLz c j,cLz c k⟩
end vl
namespace vl
theorem laidOut:laidOutB Tryz.prog=true:=ϧ
theorem own:ownKnob Tryz.prog.godebug=none:=ϧ
theorem CR:Tryz.prog.cellsOf 3=1:=ϧ
theorem Se:Tryz.prog.cellsOf 9=1:=ϧ
theorem ZR:Tryz.prog.cellsOf 119=3:=ϧ
section
variable {H : Type} {enc : TypeId × Value -> H} {w : Ϡ} {base : Nat} {spare : Nat -> Bool} {held : Bool}
theorem Sf{x:Addr}{e:List Value}{y:DataW H×List MemPlace}{fuel:Nat}(t:w.cells? base x 3=some e)(ht:DataW.trod enc Tryz.prog w base spare held fuel 119 e=some y):
 ∃(b d:Nat) (c:Cel),x=⟨b,d,none⟩/\ϒ w b d (.int .i64 c.k) (.int .i64 c.n) (.string c.s) (c.wf):=by
 obtain⟨_,u,f⟩:=World.cells?_some t;obtain⟨D,E,F,n,_,_,o,p,q⟩:=trod_struct3 underlying119 ht
 match e,u with
 |[a0,a1,a2],_=>
  obtain⟨k,e0,_,C⟩:=DataW.trod_int underlying3 o;obtain⟨m,g,_,B⟩:=DataW.trod_int underlying3 p;obtain⟨s,h,_,v⟩:=DataW.trod_string underlying9 q;simp[CR]at e0;simp[CR]at g;simp[Se]at h;subst e0 g h;obtain⟨b,d,A⟩:=x;have i:=f 0 Ϥ;have j:=f 1 Ϥ;have l:=f 2 Ϥ;have z:A=none:=by simpa[Addr.add]using World.cell?_spot i
  subst z;refine⟨b,d,⟨k,m,s⟩,rfl,?_,?_,?_,bounds_i64 B,v⟩
  ·simpa[Addr.add]using i
  ·simpa[Addr.add]using j
  ·simpa[Addr.add]using l
theorem open_row{a:ϡ}{len cap:Nat}{d:DataW H}{p:List MemPlace}(h:DataW.Trod enc Tryz.prog w base spare held 80 (.slice a len cap) d p):
 ∃r:List Cel,r.length=len/\rowAt w a r/\Bq r/\len<=9223372036854775807:=by
 obtain⟨fuel,I⟩:=h;rcases open_slice underlying80 I with⟨j,_⟩|⟨x,l,c,m,n,D,N,j,_,R,J,K,_,y⟩
 ·simp[Value.cells]at j;obtain⟨rfl,rfl,rfl⟩:=j;exact⟨[],rfl,λi g=>absurd g (Nat.not_lt_zero i),(λc v=>by cases v),Ϥ⟩
 ·simp[Value.cells]at j;obtain⟨rfl,rfl,rfl⟩:=j;have S:len<=m:=by rw[K];split<;>omega
  rw[ZR]at y;obtain⟨f,A⟩:=choose_lt (α:=Cel) (n:=len) (p:=λi c=> ∃b k,x=⟨b,k,none⟩/\ϒ w b (k+i * 3) (.int .i64 c.k) (.int .i64 c.n) (.string c.s) (c.wf)) (λi g=>by
   obtain⟨P,F,G⟩:=y i Ϥ;obtain⟨b,k,c,e,s,t,u,z⟩:=Sf F G
   -- the slice begins where its first element does
   obtain⟨Q,L,M⟩:=y 0 Ϥ;obtain⟨q,o,O,e0,_⟩:=Sf L M;have E:x=⟨q,o,none⟩:=by simpa[Addr.add]using e0
   subst E;have C:(⟨q,o,none⟩:Addr).add (i * 3)=⟨q,o+i * 3,none⟩:=by unfold Addr.add;split<;>simp_all
   rw[C]at e
   cases e
   exact⟨c,b,o,rfl,s,t,u,z⟩)
  refine⟨(List.range len).map f,Ϧ,?_,?_,by unfold maxLen at J;omega⟩
  ·intro i g;have B:i<len:=by simpa using g
   obtain⟨b,k,rfl,s,t,u,_⟩:=A i B;have e:((List.range len).map f).getD i default=f i:=by simp[gDe,B]
   rw[e];exact⟨b,k,rfl,s,t,u⟩
  ·intro c v;obtain⟨i,g,rfl⟩:=mem_map.1 v;obtain⟨_,_,_,_,_,_,z⟩:=A i (by simpa using g);exact z
end
end vl
namespace vl
variable {a b : UInt8}
theorem EA(l x y:List UInt8):Lib.compareBytes (l++x) (l++y)=Lib.compareBytes x y:=by
 induction l with
 |nil=>rfl
 |cons a l ih=>
  rw[cons_append,cons_append,Lib.compareBytes,if_neg (UInt8.lt_irrefl a),if_neg (UInt8.lt_irrefl a)];exact ih
theorem Ja(x y:List UInt8)(h:a<b):Lib.compareBytes (a::x) (b::y)= -1:=by rw[Lib.compareBytes,if_pos h]
theorem Jb(x y:List UInt8)(h:b<a):Lib.compareBytes (a::x) (b::y)=1:=by
 rw[Lib.compareBytes,if_neg (λc=>absurd (UInt8.lt_trans h c) (UInt8.lt_irrefl b)),if_pos h]
theorem fold_acc(l:List UInt8)(a:Nat):l.foldl (λu b=>u * 256+b.toNat) a=a * 256 ^ l.length+Bd l:=by
 induction l generalizing a with
 |nil=>simp[Bd]
 |cons b l ih=>
  have e:Bd (b::l)=(b::l).foldl (λu b=>u * 256+b.toNat) 0:=rfl;rw[e,foldl_cons,foldl_cons,ih,ih (0 * 256+b.toNat),length_cons,Nat.pow_succ];rw[Nat.add_mul,Nat.mul_assoc,Nat.mul_comm 256,Nat.zero_mul,Nat.zero_add];omega
theorem Nh(b:UInt8)(l:List UInt8):Bd (b::l)=b.toNat * 256 ^ l.length+Bd l:=by
 have e:Bd (b::l)=l.foldl (λu b=>u * 256+b.toNat) (0 * 256+b.toNat):=rfl;rw[e,fold_acc];simp
theorem AcF(l m x y:List UInt8)(h:l.length=m.length):
 Lib.compareBytes (l++x) (m++y)=if Bd l<Bd m then -1 else if Bd m<Bd l then 1 else Lib.compareBytes x y:=by
 induction l generalizing m with
 |nil=>
  cases m with
  |nil=>simp[Bd]
  |cons b m=>simp at h
 |cons a l ih=>
  cases m with
  |nil=>simp at h
  |cons b m=>
   have e:l.length=m.length:=by simpa using h
   have f:=FD l;have k:=FD m;rw[cons_append,cons_append,Nh,Nh];rw[e]at f⊢;by_cases c:a<b
   ·have g:a.toNat+1<=b.toNat:=UInt8.lt_iff_toNat_lt.1 c;have:=Nat.mul_le_mul_right (256 ^ m.length) g;rw[Nat.add_mul]at this;rw[Ja _ _ c,if_pos Ϥ]
   ·by_cases d:b<a
    ·have i:b.toNat+1<=a.toNat:=UInt8.lt_iff_toNat_lt.1 d;have:=Nat.mul_le_mul_right (256 ^ m.length) i;rw[Nat.add_mul]at this;rw[Jb _ _ d,if_neg Ϥ,if_pos Ϥ]
    ·have j:a=b:=UInt8.le_antisymm (UInt8.not_lt.1 d) (UInt8.not_lt.1 c);subst j;rw[Lib.compareBytes,if_neg c,if_neg c,ih m e];simp only[Nat.add_lt_add_iff_left]
theorem Jc(h:b≠0):(0:UInt8)<b:=by
 rcases Nat.eq_zero_or_pos b.toNat with c|c
 ·exact absurd (K8 c) h
 ·exact UInt8.lt_iff_toNat_lt.2 c
theorem XB(s t x y:List UInt8):
 Lib.compareBytes (Bs s++0::1::x) (Bs t++0::1::y)=if Lib.compareBytes s t=0 then Lib.compareBytes x y else Lib.compareBytes s t:=by
 induction s generalizing t with
 |nil=>
  cases t with
  |nil=>simp[Bs,Lib.compareBytes]
  |cons b t=>
   rw[CK];by_cases c:b=0
   ·rw[if_pos c];simp[Bs,Lib.compareBytes]
   ·have:=Jc c;rw[if_neg c];simp[Bs,Lib.compareBytes,this]
 |cons a s ih=>
  cases t with
  |nil=>
   rw[CK];by_cases ha:a=0
   ·rw[if_pos ha];simp[Bs,Lib.compareBytes]
   ·have:=Jc ha;have d:¬a<0:=λh=>absurd (UInt8.lt_trans this h) (UInt8.lt_irrefl 0);rw[if_neg ha];simp[Bs,Lib.compareBytes,this,d]
  |cons b t=>
   rw[CK,CK];by_cases g:a=b
   ·subst g;rw[append_assoc,append_assoc,EA,ih t,Lib.compareBytes,if_neg (UInt8.lt_irrefl a),if_neg (UInt8.lt_irrefl a)]
   ·by_cases f:a<b
    ·have e:Lib.compareBytes (a::s) (b::t)= -1:=Ja _ _ f;have c:b≠0:=λh=>by subst h;exact absurd (UInt8.lt_iff_toNat_lt.1 f) (Nat.not_lt_zero _)
     rw[e,if_neg (show¬((-1:Int)=0) by decide),if_neg c];by_cases ha:a=0
     ·rw[if_pos ha];exact Ja _ _ (Jc c)
     ·rw[if_neg ha];exact Ja _ _ f
    ·have d:b<a:=by
      rcases Nat.lt_trichotomy a.toNat b.toNat with h|h|h
      ·exact absurd (UInt8.lt_iff_toNat_lt.2 h) f
      ·exact absurd (K8 h) g
      ·exact UInt8.lt_iff_toNat_lt.2 h
     have e:Lib.compareBytes (a::s) (b::t)=1:=Jb _ _ d;have ha:a≠0:=λh=>by subst h;exact absurd (UInt8.lt_iff_toNat_lt.1 d) (Nat.not_lt_zero _)
     rw[e,if_neg (show¬((1:Int)=0) by decide),if_neg ha];by_cases c:b=0
     ·rw[if_pos c];exact Jb _ _ (Jc ha)
     ·rw[if_neg c];exact Jb _ _ d
theorem AcG(c d:Cel):FC c d=if CU c.k d.k=0 then(if CU c.n d.n=0 then Lib.compareBytes c.s.data.toList d.s.data.toList else CU c.n d.n)else CU c.k d.k:=by
 unfold FC IC Bb Bb Bb Bb;by_cases e:CU c.k d.k=0
 ·rw[if_pos e,if_pos e];by_cases f:CU c.n d.n=0
  ·rw[if_pos f,if_pos f];split
   ·rename_i h;exact h.symm
   ·rfl
  ·rw[if_neg f,if_neg f]
 ·rw[if_neg e,if_neg e]
theorem XC{c d:Cel}(i:c.ok)(j:d.ok)(wc:c.wf)(q:d.wf)(x y:List UInt8):
 Lib.compareBytes (C3 c++x) (C3 d++y)=if FC c d=0 then Lib.compareBytes x y else FC c d:=by
 rw[AcG];rcases encC_cases i with⟨rfl,e⟩|⟨rfl,e⟩|⟨rfl,e⟩|⟨n,rfl,e⟩|⟨s,rfl,u,e⟩<;>rcases encC_cases j with⟨rfl,f⟩|⟨rfl,f⟩|⟨rfl,f⟩|⟨m,rfl,f⟩|⟨t,rfl,v,f⟩<;>simp only[e,f,cons_append,nil_append]
 all_goals try (rw[Ja _ _ ϥ];rfl)
 all_goals try (rw[Jb _ _ ϥ];rfl)
 ·exact EA [0] x y
 ·exact EA [1,0] x y
 ·have:=EA [1] (0::x) (1::y);simp only[cons_append,nil_append]at this;rw[this,Ja _ _ ϥ];rfl
 ·have:=EA [1] (1::x) (0::y);simp only[cons_append,nil_append]at this;rw[this,Jb _ _ ϥ];rfl
 ·exact EA [1,1] x y
 ·obtain⟨⟨o,p⟩,_⟩:=wc;obtain⟨⟨k,l⟩,_⟩:=q;dsimp only at o p k l⊢;have:=EA [2] (be8 (n+9223372036854775808).toNat 8++x) (be8 (m+9223372036854775808).toNat 8++y);simp only[cons_append,nil_append]at this;rw[this,AcF _ _ _ _ (by rw[Eb,Eb]),Hf _ Ϥ,Hf _ Ϥ];have e0:CU 2 2=0:=ϥ;rw[e0,if_pos rfl];unfold CU;by_cases g:n<m
  ·rw[if_pos Ϥ,if_pos g];rfl
  ·rw[if_neg Ϥ,if_neg g];by_cases h:m<n
   ·rw[if_pos Ϥ,if_pos h];rfl
   ·rw[if_neg Ϥ,if_neg h];rfl
 ·have:=EA [3] (Bs s.data.toList++[0,1]++x) (Bs t.data.toList++[0,1]++y);simp only[cons_append,nil_append,append_assoc]at this⊢;rw[this,XB];rfl
theorem P0(a b:List Cel)(ha:∀c∈a,c.ok/\c.wf)(f:∀c∈b,c.ok/\c.wf):Lib.compareBytes (encR a) (encR b)=AJ a b:=by
 induction a generalizing b with
 |nil=>
  cases b with
  |nil=>rfl
  |cons d b=>
   have e:encR (d::b)=C3 d++encR b:=rfl;rw[e];have:=GD (f d (mem_cons_self ..)).1
   cases h:C3 d with
   |nil=>exact absurd h this
   |cons z zs=>rfl
 |cons c a ih=>
  have j:encR (c::a)=C3 c++encR a:=rfl;have g:=ha c (mem_cons_self ..)
  cases b with
  |nil=>
   rw[j]
   cases h:C3 c with
   |nil=>exact absurd h (GD g.1)
   |cons z zs=>rfl
  |cons d b=>
   have l:encR (d::b)=C3 d++encR b:=rfl;have k:=f d (mem_cons_self ..);rw[j,l,XC g.1 k.1 g.2 k.2,ih b (λx i=>ha x (mem_cons_of_mem _ i)) (λx i=>f x (mem_cons_of_mem _ i)),AJ]
theorem ZS{a b:List Cel}(ha:∀c∈a,c.ok/\c.wf)(i:∀c∈b,c.ok/\c.wf)(h:encR a=encR b):a=b:=by
 obtain⟨e,f,g⟩:=Ia a b [] ha i (by rw[append_nil];exact h)
 cases e with
 |nil=>rw[f,append_nil]
 |cons d e=>
  have k:=i d (by rw[f];simp);have j:encR (d::e)=C3 d++encR e:=rfl;rw[j]at g;exact absurd (append_eq_nil_iff.1 g.symm).1 (GD k.1)
end vl
namespace vl
def R4:List Cel:=[⟨2, -1,⟨#[]⟩⟩,⟨3,0,⟨#[97,0]⟩⟩,⟨1,1,⟨#[]⟩⟩,⟨0,0,⟨#[]⟩⟩]
theorem Sg(w:Ϡ)(B:Nat)(c:w.heap.size=B)(b:UInt8):(convert 51 9 (vS (ϋ B) 1 1)).run Tryz.prog (ϊ w #[.int .u8 (b.toNat:Int)] 5)= .ok (.string ⟨#[b]⟩) (ϊ w #[.int .u8 (b.toNat:Int)] 5):=by
 subst c;exact run_convert_bytes_back (ϊ w #[.int .u8 (b.toNat:Int)] 5) 51 9 5 ⟨w,0,none⟩ 1 [b] underlying51 underlying5 underlying9 (λj d=>by
  have:j=0:=by simp at d;omega
  subst this;simp[Addr.add])
theorem Gd(w:Ϡ)(B:Nat)(c:w.heap.size=B)(x:Int)(b:UInt8)(d:(b.toNat:Int)=x):(convert 51 9 (vS (ϋ B) 1 1)).run Tryz.prog (ϊ w #[.int .u8 x] 5)= .ok (.string ⟨#[b]⟩) (ϊ w #[.int .u8 x] 5):=by
 subst d;exact Sg w B c b
theorem U1(u j:Nat):((u:Int)/2 ^ (56 - 8 * j) % 256)=((Dq u j).toNat:Int):=by
 have:=LO u j;unfold Ef at this;injection this
theorem ZT(a:ByteArray)(l:List UInt8)(h:a=⟨l.toArray⟩)(b:UInt8):a++(⟨#[b]⟩:ByteArray)=⟨(l++[b]).toArray⟩:=by
 subst h;apply str_eq;rw[Joins.data_append]
theorem P5(n:Int)(u:Nat)(w:Ϡ)(m:IntKind.u64.wrap n=(u:Int))(o:u<=18446744073709551615):
 χ 123 #[vI n] w (ψ w (.string ⟨(be8 u 8).toArray⟩)):=by
 go_enter func123,ntmps123;go_wp2
 go_loopw [3,4] (λt i wr=> ∃j:Nat,j<=8/\i=vI (56 - 8 * (j:Int))/\t= .string ⟨(be8 u j).toArray⟩/\ϣ w wr) (λ_ i _=>(intOf i+8).toNat)
 case atStart=>exact⟨0,Ϥ,rfl,rfl,bR⟩
 case round=>
  obtain⟨j,h,rfl,rfl,c⟩:=hrel;by_cases l:j<8
  ·have f:=U1 u j;have g:=λd=>Sg d d.heap.size rfl (Dq u j);have k:=Eb u j;go_wp2;go_roundw;exact⟨j+1,Ϥ,by go_num,by rw[ZT _ _ rfl,<-NH],c.alloc c.size _⟩;simp[intOf];omega
  ·have e:j=8:=Ϥ;subst e;go_wp2;go_ret;exact⟨rfl,c⟩
theorem ZU(b:UInt8)(l:List UInt8):(⟨#[b]⟩:ByteArray)++(⟨l.toArray⟩:ByteArray)=⟨(b::l).toArray⟩:=by
 apply str_eq;rw[Joins.data_append];rfl
theorem Si(s:ByteArray)(k:Nat)(h:k<s.size):s.extract k (k+1)=⟨#[s[k]]⟩:=by
 apply str_eq;have c:s.data.toList.drop k=s[k]::s.data.toList.drop (k+1):=BG s k h;simp only[ByteArray.data_extract,Array.toList_extract];rw[extract_eq_take_drop,c];simp
theorem Kf{a b:ByteArray}(h:a=b):Ending.returned (.string a)= .returned (.string b):=by rw[h]
theorem Sj(k n:Int)(s:ByteArray)(w:Ϡ)(D: -9223372036854775808<=n)(E:n<=9223372036854775807)(l:chk k n s=0):
 χ 194 #[.agg #[vI k,vI n,.string s]] w (ψ w (.string ⟨(C3 ⟨k,n,s⟩).toArray⟩)):=by
 obtain⟨L,m⟩:=FY l;clear l;rcases m with⟨rfl,rfl,h⟩|⟨rfl,rfl,h⟩|⟨rfl,rfl,h⟩|⟨rfl,h⟩|⟨rfl,rfl⟩
 ·have d:=Gd (ϊ w #[Ϗ,Ϗ,.string s] 119) (w.heap.size+1) Ϧ 0 0 rfl;go_enter func194,ntmps194;go_wp2;go_ret;exact⟨rfl,ϯ.alloc Ϧ _⟩
 ·have d:=Gd (ϊ w #[vI 1,Ϗ,.string s] 119) (w.heap.size+1) Ϧ 1 1 rfl;have B:=Gd (ϊ (ϊ w #[vI 1,Ϗ,.string s] 119) #[.int .u8 1] 5) (w.heap.size+1+1) Ϧ 0 0 rfl;go_enter func194,ntmps194;go_wp2;go_ret;exact⟨rfl,(ϯ.alloc Ϧ _).alloc ϩ _⟩
 ·have d:=Gd (ϊ w #[vI 1,vI 1,.string s] 119) (w.heap.size+1) Ϧ 1 1 rfl;have B:=Gd (ϊ (ϊ w #[vI 1,vI 1,.string s] 119) #[.int .u8 1] 5) (w.heap.size+1+1) Ϧ 1 1 rfl;go_enter func194,ntmps194;go_wp2;go_ret;exact⟨rfl,(ϯ.alloc Ϧ _).alloc ϩ _⟩
 ·have d:=Gd (ϊ w #[vI 2,vI n,.string s] 119) (w.heap.size+1) Ϧ 2 2 rfl;have p:=Y8 n D E;have y:=hV0 p;clear p;have J:=Eb (n+9223372036854775808).toNat 8;go_enter func194,ntmps194;go_wp2_with (go_at_call 123;refine(P5 _ (n+9223372036854775808).toNat _ y.o Ϥ).mono ?_;rintro e M ⟨rfl,z⟩);go_ret;exact⟨Kf (ZU 2 _),(ϯ.alloc Ϧ _).trans (z.mono ϩ)⟩
 ·have d:=Gd (ϊ w #[vI 3,Ϗ,.string s] 119) (w.heap.size+1) Ϧ 3 3 rfl;go_enter func194,ntmps194;have A:ϣ w (ϊ (ϊ w #[vI 3,Ϗ,.string s] 119) #[.int .u8 3] 5):=ϯ.alloc Ϧ _;go_wp2
  go_loop [3,4] (λt i=> ∃(k:Nat) (q:ByteArray),k<=s.size/\i=vI k/\t= .string q/\q.data.toList=3::Bs (s.data.toList.take k)) (λ_ i=>s.size - (intOf i).toNat)
  case atStart=>exact⟨0,_,Ϥ,rfl,rfl,rfl⟩
  case round=>
   obtain⟨k,q,m,rfl,rfl,g⟩:=hrel;have f:=hV0 g;have K:q.size<=129:=by
    rw[<-A2,g];have F:=NJ (s.data.toList.take k);have G:(s.data.toList.take k).length<=k:=length_take_le _ _;simp only[length_cons];omega
   clear g;by_cases o:k<s.size
   ·have I:=Si s k o;have j:Ϣ (Bs (s.data.toList.take (k+1))=Bs (s.data.toList.take k)++(if s[k]=0 then [0,255]else [s[k]])):=by
     show Bs (s.data.toList.take (k+1))=_;rw[D9 s k o,Ji]
    by_cases u:((s[k].toNat:Int)==0)=true
    ·have v:s[k]=0:=of_decide_eq_true ((byte_zero s[k]).symm.trans u);have c:=hV0 v;clear v;go_wp2
     go_round
     case rel=>exact⟨k+1,_,Ϥ,by go_num,rfl,by rw[Joins.data_append,Joins.data_append,f.o,j.o,if_pos c.o,c.o];simp⟩
     case measure=>simp[intOf];omega
    ·have C:((s[k].toNat:Int)==0)=false:=by simpa using u
     have c:Ϣ (¬s[k]=0):=of_decide_eq_false ((byte_zero s[k]).symm.trans C);go_wp2
     go_round
     case rel=>exact⟨k+1,_,Ϥ,by go_num,rfl,by rw[Joins.data_append,f.o,j.o,if_neg c.o];simp⟩
     case measure=>simp[intOf];omega
   ·have x:Ϣ (s.data.toList.take k=s.data.toList):=take_of_length_le (by rw[A2];omega);go_wp2;go_ret;exact⟨Kf (by apply str_eq;rw[Joins.data_append,f.o,x.o];rfl),A⟩
theorem Hb(a:ϡ)(cap:Nat)(r:List Cel)(w:Ϡ)(s:rowAt w a r)(m:rowOk r):
 χ 125 #[vS a r.length cap] w (ψ w (.string ⟨(encR r).toArray⟩)):=by
 obtain⟨n,j⟩:∃n,r.length=n:=⟨_,rfl⟩;have d:=hV0 j;have M:=m.1;rw[j]at M⊢;clear j;go_enter func125,ntmps125;go_wp2
 go_loopw [3,4] (λt i wr=> ∃(k:Nat) (q:ByteArray),k<=n/\i=vI k/\t= .string q/\q.data.toList=encR (r.take k)/\ϣ w wr) (λ_ i _=>n - (intOf i).toNat)
 case atStart=>exact⟨0,_,Ϥ,rfl,rfl,rfl,bR⟩
 case round=>
  obtain⟨k,q,U,rfl,rfl,o,l⟩:=hrel;have p:=hV0 o;have V:q.size<=1048:=by
   rw[<-A2,o];have R:=D6 (r.take k) (λc O=>(m.2 c (mem_of_mem_take O)).1);have S:(r.take k).length<=k:=length_take_le _ _;omega
  clear o;by_cases h:k<n
  ·obtain⟨Q,Y,L,D,E,F⟩:=s k (by rw[d.o];exact h);subst L;obtain⟨x,y,z⟩:=lk3 l D E F;clear D E F s;have f:=m.2 (r.getD k default) (by simp[gDe,show k<r.length by rw[d.o];exact h]);have K:Ϣ (encR (r.take (k+1))=encR (r.take k)++C3 (r.getD k default)):=by
    show encR (r.take (k+1))=_;rw[LQ r k (by rw[d.o];exact h),LP]
   obtain⟨⟨u,v,A⟩,g⟩:∃c,r.getD k default=c:=⟨_,rfl⟩;rw[g]at x y z f;have I:=hV0 g;clear g;have G:Ϣ (chk u v A=0):=f.1;have T:(C3 ⟨u,v,A⟩).length<=131:=Tq _ f.1;obtain⟨_,⟨B,C⟩,P⟩:=f;dsimp only at x y z B C P;have W:=nn0 k;have X:(k:Int)<(n:Int):=Ϥ;go_wp2_with (go_at_call 194;refine(Sj _ _ _ _ B C G.o).mono ?_;rintro e wc ⟨rfl,N⟩);go_roundw;exact⟨k+1,_,Ϥ,by go_num,rfl,by rw[Joins.data_append,p.o,K.o,I.o],bT l N⟩;simp[intOf];omega
  ·have J:Ϣ (r.take k=r):=take_of_length_le (by rw[d.o];omega);go_wp2;go_ret;exact⟨Kf (by apply str_eq;rw[p.o,J.o]),l⟩
end vl
end Go.Proofs.YtfkihidbnfkbaaaGreatDoor
