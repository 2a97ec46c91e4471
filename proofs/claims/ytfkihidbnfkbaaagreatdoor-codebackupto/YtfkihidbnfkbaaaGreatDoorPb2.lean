import Derived.Test.YtfkihidbnfkbaaaGreatDoorPb1
import Derived.Deep.AppendLies
import Derived.Lib.BufferRead
import Derived.Lib.IndexBytes
set_option linter.all false
set_option maxHeartbeats 4000000
set_option maxRecDepth 100000
open Go.ChangeShapes Go.WideShapes Go.ChangeAt Go.RowKit List
open Inhabited renaming default->ϰ
namespace Go.Proofs.YtfkihidbnfkbaaaGreatDoor
open Go.Proofs.Tryz
namespace vl
variable {a : Act} {ops : Array Oper} {rest : List Oper} {o : Oper} {Q : Exit -> Act -> World -> Prop} {base : Nat} {w w' : ϙ} {v : Value} {l : List UInt8}
def chk(k n:Int)(s:ByteArray):Int:=
 if k<0\/3<k then 4
 else if (k≠2/\n≠0/\¬(k=1/\n=1))\/(k≠3/\s.size≠0)then 1
 else if 64<s.size then 2 else 0
theorem Xw(s:ByteArray):s.toList=[]↔s.size=0:=by
 rw[Lib.toList_data];exact⟨λh=>by show s.data.size=0;rw[<-Array.length_toList,h];rfl,λh=>eq_nil_of_length_eq_zero (by rw[Array.length_toList];exact h)⟩
theorem AH(k n:Int)(s:ByteArray)(w:ϙ)(b:s.size<=maxLen):
 η 183 #[.agg #[vI k,vI n,.string s]] w (θ w (vI (chk k n s))):=by
 unfold maxLen at b;go_enter func183,ntmps183;go_wp2
 all_goals
  go_ret;refine⟨Aj ?_,Ϩ⟩
  go_light
  try simp only[beq_iff_eq,beq_eq_false_iff_ne,bne_iff_ne,bne_eq_false_iff_eq,Bool.not_eq_true',Bool.not_eq_false',isEmpty_iff,isEmpty_eq_false_iff,ne_eq,Xw]at *
  unfold chk;omega
theorem Kb:∀(a b:List UInt8),Lib.compareBytes a b=if Op.bytesLess a b=true then -1 else if (a==b)=true then 0 else 1
 |[],[]=>by simp[Lib.compareBytes,Op.bytesLess]
 |_::_,[]=>by simp[Lib.compareBytes,Op.bytesLess]
 |[],_::_=>by simp[Lib.compareBytes,Op.bytesLess]
 |a::x,b::y=>by
  rw[Lib.compareBytes,Kb x y,Op.bytesLess];by_cases c:a<b
  ·simp[c]
  ·by_cases d:b<a
   ·have e:¬a=b:=λh=>by subst h;exact absurd d c
    simp[c,d,e]
   ·have e:a=b:=UInt8.le_antisymm (UInt8.not_lt.1 d) (UInt8.not_lt.1 c);subst e;simp[c]
structure Cel where
 k:Int
 n:Int
 s:ByteArray
deriving DecidableEq
instance:Inhabited Cel:=⟨⟨0,0,⟨#[]⟩⟩⟩
def Cel.val(c:Cel):Value:=.agg #[vI c.k,vI c.n,.string c.s]
def rowAt(w:World)(a:Option Addr)(r:List Cel):Prop:=
 ∀i,i<r.length->∃b off,a=some ⟨b,off,none⟩/\Ϗ w b (off+i * 3) (vI (r.getD i ϰ).k) (vI (r.getD i ϰ).n) (.string (r.getD i ϰ).s)
theorem Aa{a b:Bool}(h:a=b):Ending.returned (.bool a)= .returned (.bool b):=by rw[h]
theorem Qe{b c:List Cel}{k:Nat}(d:k<b.length)(e:k<c.length)(h:b.take k=c.take k)(f:b.getD k ϰ=c.getD k ϰ):b.take (k+1)=c.take (k+1):=by
 rw[take_succ_eq_append_getElem d,take_succ_eq_append_getElem e,h];simp only[gDe,gEe d,gEe e,Option.getD_some]at f;rw[f]
theorem Ni(D E:Ϛ)(c1 c2:Nat)(b d:List Cel)(w:ϙ)(F:rowAt w D b)(G:rowAt w E d)(l1:b.length<=χ)(l2:d.length<=χ):
 η 94 #[vS D b.length c1,vS E d.length c2] w (θ w (.bool (decide (b=d)))):=by
 by_cases I:b.length=d.length
 ·obtain⟨j,p⟩:∃j,b.length=j:=⟨_,rfl⟩;have A:d.length=j:=ϝ;rw[p]at l1;have r:=hqz p;have t:=hqz A;rw[p,A];clear I l2 p A;go_enter func94,ntmps94;go_wp2
  go_loopw [5] (λi wr=> ∃k:Nat,k<=j/\i=vI k/\Ϝ w wr/\b.take k=d.take k) (λi _=>j - (intOf i).toNat)
  case atStart=>exact⟨0,Nat.zero_le _,rfl,bR,rfl⟩
  case round=>
   obtain⟨k,hk,rfl,e,H⟩:=hrel;have C:=hqz H;clear H;by_cases q:k<j
   ·obtain⟨b1,o1,f,U,V,W⟩:=F k (by rw[r.o];exact q);obtain⟨b2,o2,e2,X,Y,Z⟩:=G k (by rw[t.o];exact q);subst f e2;have M:=cLz e U;have N:=cLz e V;have O:=cLz e W;have J:=cLz e X;have K:=cLz e Y;have L:=cLz e Z;clear U V W X Y Z F G;obtain⟨⟨ka,na,P⟩,u⟩:∃c,b.getD k ϰ=c:=⟨_,rfl⟩;obtain⟨⟨kb,nb,R⟩,z⟩:∃c,d.getD k ϰ=c:=⟨_,rfl⟩;rw[u]at M N O;rw[z]at J K L;have m:=hqz u;have n:=hqz z;clear u z;dsimp only at M N O J K L;have i1:(0:Int)<=(k:Int):=ϝ;have i2:(k:Int)<(j:Int):=ϝ;by_cases S:ka=kb
    ·by_cases T:na=nb
     ·by_cases B:P.toList=R.toList
      ·have aa:P=R:=ByteArray.ext (Array.ext' (by rwa[Lib.toList_data,Lib.toList_data]at B));clear B;subst S T aa;go_wp2
       go_quiet (fail)
       go_wp2;go_roundw
       case rel=>exact⟨k+1,ϝ,by go_num,below_drewN e _,Qe (by rw[r.o];exact q) (by rw[t.o];exact q) C.o (by rw[m.o,n.o])⟩
       case measure=>simp[intOf];omega
      ·have g:ϛ (¬b=d):=λh=>by
        have f:=m.o;rw[h,n.o]at f
        cases f
        exact B rfl
       go_wp2
       go_quiet (fail)
       go_wp2;go_ret;exact⟨Aa (by rw[decide_eq_false g.o]),below_drewN e _⟩
     ·have g:ϛ (¬b=d):=λh=>by
       have f:=m.o;rw[h,n.o]at f
       cases f
       exact T rfl
      go_wp2
      go_quiet (fail)
      go_wp2;go_ret;exact⟨Aa (by rw[decide_eq_false g.o]),below_drewN e _⟩
    ·have g:ϛ (¬b=d):=λh=>by
      have f:=m.o;rw[h,n.o]at f
      cases f
      exact S rfl
     go_wp2
     go_quiet (fail)
     go_wp2;go_ret;exact⟨Aa (by rw[decide_eq_false g.o]),below_drewN e _⟩
   ·have g:ϛ (b=d):=by
     show b=d;have h:=C.o;rwa[take_of_length_le (by rw[r.o];omega),take_of_length_le (by rw[t.o];omega)]at h
    go_wp2;go_ret;exact⟨Aa (by rw[decide_eq_true g.o]),e⟩
 ·have g:ϛ (¬b=d):=λh=>I (by rw[h]);have ab:((b.length:Int)==(d.length:Int))=false:=Ϣ;go_enter func94,ntmps94;go_wp2;go_ret;exact⟨Aa (by rw[decide_eq_false g.o]),bR⟩
def Gm(a b:Cel):Int:=P7 a.k a.n a.s b.k b.n b.s
def AX:List Cel->List Cel->Int
 |[],[]=>0
 |[],_::_=> -1
 |_::_,[]=>1
 |a::x,b::y=>if Gm a b=0 then AX x y else Gm a b
theorem Kc(c d:List Cel)(k:Nat)(e:k<=c.length)(f:k<=d.length)(h:∀i,i<k->Gm (c.getD i ϰ) (d.getD i ϰ)=0):
 AX c d=AX (c.drop k) (d.drop k):=by
 induction k generalizing c d with
 |zero=>rfl
 |succ k ih=>
  match c,d,e,f with
  |a::x,b::y,e,f=>
   have g:Gm a b=0:=h 0 ϝ;rw[AX,if_pos g,drop_succ_cons,drop_succ_cons];exact ih x y (by simpa using e) (by simpa using f) (λi j=>h (i+1) ϝ)
theorem Gn(r:List Cel)(k:Nat)(h:k<r.length):r.drop k=r.getD k ϰ::r.drop (k+1):=by
 rw[drop_eq_getElem_cons h];simp[gDe,h]
theorem TK(b c:List Cel)(k:Nat)(d:k<b.length)(e:k<c.length)(h:∀i,i<k->Gm (b.getD i ϰ) (c.getD i ϰ)=0)
 (f:Gm (b.getD k ϰ) (c.getD k ϰ)≠0):AX b c=Gm (b.getD k ϰ) (c.getD k ϰ):=by
 rw[Kc b c k ϝ ϝ h,Gn b k d,Gn c k e,AX,if_neg f]
theorem L6(c b:List Cel)(k:Nat)(e:k<=c.length)(f:k<=b.length)(h:∀i,i<k->Gm (c.getD i ϰ) (b.getD i ϰ)=0)
 (j:k=c.length\/k=b.length):AX c b=CL c.length b.length:=by
 rw[Kc c b k e f h];unfold CL;by_cases g:k=c.length
 ·rw[drop_of_length_le (show c.length<=k by omega)];by_cases d:k=b.length
  ·rw[drop_of_length_le (show b.length<=k by omega),AX,if_neg ϝ,if_neg ϝ]
  ·rw[Gn b k ϝ,AX,if_pos ϝ]
 ·have d:k=b.length:=ϝ;rw[drop_of_length_le (show b.length<=k by omega),Gn c k ϝ,AX,if_neg ϝ,if_pos ϝ]
attribute [local go_sem ↓] Go.wp_at_zero Go.wp_at_succ
theorem RN(O P:Ϛ)(c1 c2:Nat)(b d:List Cel)(w:ϙ)(R:rowAt w O b)(S:rowAt w P d)(l1:b.length<=χ)(l2:d.length<=χ):
 η 256 #[vS O b.length c1,vS P d.length c2,.func (.func 257) #[] #[]] w (θ w (vI (AX b d))):=by
 obtain⟨r,K⟩:∃n,b.length=n:=⟨_,rfl⟩;obtain⟨B,L⟩:∃n,d.length=n:=⟨_,rfl⟩;have g:=hqz K;have j:=hqz L;rw[K]at l1⊢;rw[L]at l2⊢;clear K L;go_enter func256,ntmps256;go_wp2
 go_loopw [13] (λi wr=> ∃k:Nat,k<=r/\k<=B/\i=vI k/\Ϝ w wr/\(∀i,i<k->Gm (b.getD i ϰ) (d.getD i ϰ)=0)) (λi _=>r - (intOf i).toNat)
 case atStart=>exact⟨0,Nat.zero_le _,Nat.zero_le _,rfl,bR,λi J=>absurd J (Nat.not_lt_zero i)⟩
 case round=>
  obtain⟨k,U,V,rfl,f,T⟩:=hrel;have C:=hqz T;clear T;by_cases W:k<r
  ·obtain⟨b1,o1,e1,x1,x2,x3⟩:=R k (by rw[g.o];exact W);subst e1;have N:=cLz f x1;have q2:=cLz f x2;have q3:=cLz f x3;clear x1 x2 x3 R;obtain⟨⟨p,t,z⟩,H⟩:∃c,b.getD k ϰ=c:=⟨_,rfl⟩;rw[H]at N q2 q3;have D:=hqz H;clear H;dsimp only at N q2 q3;have i1:(0:Int)<=(k:Int):=ϝ;have i2:(k:Int)<(r:Int):=ϝ;have j1:=bLt _ _ N;by_cases X:k<B
   ·obtain⟨b2,o2,e2,y1,y2,y3⟩:=S k (by rw[j.o];exact X);subst e2;have M:=cLz f y1;have Y:=cLz f y2;have Z:=cLz f y3;clear y1 y2 y3 S;obtain⟨⟨q,u,A⟩,I⟩:∃c,d.getD k ϰ=c:=⟨_,rfl⟩;rw[I]at M Y Z;have E:=hqz I;clear I;dsimp only at M Y Z;have j2:=bLt _ _ M;have i3:(k:Int)<(B:Int):=ϝ;by_cases G:(P7 p t z q u A==0)=true
    ·have m:ϛ (Gm (b.getD k ϰ) (d.getD k ϰ)=0):=by
      show Gm (b.getD k ϰ) (d.getD k ϰ)=0;rw[D.o,E.o];exact(show P7 p t z q u A=0 by simpa using G)
     go_wp2_with (go_at_call 257;refine(Hl _ _ _ _ _ _ _).mono ?_;rintro e w1 ⟨rfl,F⟩);go_roundw
     case rel=>exact⟨k+1,ϝ,ϝ,by go_num,((f.alloc f.size _).alloc (by have:=f.size;simp;omega) _).trans (F.mono (by have:=f.size;simp;omega)),λi J=>by
      rcases Nat.lt_succ_iff_lt_or_eq.1 J with h|h
      ·exact C.o i h
      ·rw[h];exact m.o⟩
     case measure=>simp[intOf];omega
    ·have m:ϛ (AX b d=P7 p t z q u A):=by
      show AX b d=P7 p t z q u A;rw[TK b d k (by rw[g.o];exact W) (by rw[j.o];exact X) C.o (by rw[D.o,E.o];exact(show¬P7 p t z q u A=0 by simpa using G)),D.o,E.o];rfl
     have aa:(P7 p t z q u A==0)=false:=by simpa using G
     go_wp2_with (go_at_call 257;refine(Hl _ _ _ _ _ _ _).mono ?_;rintro e w1 ⟨rfl,F⟩);go_ret;exact⟨Aj (by rw[m.o]),((f.alloc f.size _).alloc (by have:=f.size;simp;omega) _).trans (F.mono (by have:=f.size;simp;omega))⟩
   ·have m:ϛ (AX b d=1):=by
     show AX b d=1;rw[L6 b d k (by rw[g.o];exact U) (by rw[j.o];exact V) C.o (by rw[g.o,j.o];omega),g.o,j.o];unfold CL;rw[if_neg ϝ,if_pos ϝ]
    go_wp2;go_ret;exact⟨Aj (by rw[m.o]),f.alloc f.size _⟩
  ·have m:ϛ (AX b d=CL r B):=by
    show AX b d=CL r B;rw[L6 b d k (by rw[g.o];exact U) (by rw[j.o];exact V) C.o (by rw[g.o,j.o];omega),g.o,j.o]
   go_wp2
   all_goals
    go_ret;exact⟨Aj (by rw[m.o];unfold CL;omega),f⟩
theorem RO(d f:Ϛ)(g h:Nat)(b c:List Cel)(w:ϙ)(k:rowAt w d b)(m:rowAt w f c)(q:b.length<=χ)(r:c.length<=χ):
 η 220 #[vS d b.length g,vS f c.length h] w (θ w (vI (AX b c))):=by
 obtain⟨t,i⟩:∃n,b.length=n:=⟨_,rfl⟩;obtain⟨u,j⟩:∃n,c.length=n:=⟨_,rfl⟩;have H:=RN d f g h b c w k m q r;rw[i,j]at H⊢;clear i j;go_enter func220,ntmps220;go_wp2_with (go_at_call 256;refine H.mono ?_;rintro e z ⟨rfl,p⟩);go_ret;exact⟨rfl,p⟩
theorem Tryz.info5:(Tryz.prog.info? 5).map (λi=>(i.zero,i.size,i.bytes))=some (some (.int .u8 0),1,1):=Ϡ
def EW(b:UInt8):Value:=.int .u8 (b.toNat:Int)
def ownB(w:World)(base:Nat)(v:Value)(l:List UInt8):Prop:=w.ownsRow base 5 1 v l.length (l.map EW)
def Dd(u:Nat)(j:Nat):UInt8:=UInt8.ofNat (u/2 ^ (56 - 8 * j))
def be8(u:Nat)(j:Nat):List UInt8:=(List.range j).map (Dd u)
theorem Bs(k:o.guard=none)(s x:Operand)
 (n:o.op= .call {callee:=.builtin .append,args:=#[s,x],argTypes:=#[51,51]}) (base:Nat) (v:Value) (l:List UInt8) (q:a.eval s=v) (c:ϙ)
 (p:ownB c base v l) (X:Value) (b:UInt8) (j:X=EW b) (B:Nat) (i:c.heap.size=B) (r:a.eval x=vS (τ B) 1 1) (E:l.length<=2000000) (D:base<=c.heap.size)
 (h:∀d w',ownB w' base d (l++[b])->(c.alloc (.cells #[X] 5)).grownBy w' v.ownBlock->wpList Tryz.prog ops Q rest (a.put o.dst d) w'):
 wpList Tryz.prog ops Q (o::rest) a (ξ c #[X] 5):=by
 subst j;subst i;obtain⟨C,m,t,z,A⟩:=info_parts Tryz.info5;refine wpList_append_own _ k s x 51 n base 5 C (.int .u8 0) 1 1 underlying51 m t z A rfl Ϟ v l.length (l.map EW) q
  (World.ownsRow.alloc p _) ⟨c,0,none⟩ 1 1 [EW b] r rfl (cell_one_new _ _ _) (by intro u e;simp at e;subst e;rfl) ϧ ϝ Ϣ ?_
 intro d w' f g _;refine h d w' ?_ g;unfold ownB;rw[lAp,map_append];exact f
theorem AO{b:ϙ}{o:Obj}(d:Below base w b)(c:base<=b.heap.size)(g:ownB b base v l)(e:(b.alloc o).grownBy w' v.ownBlock):Below base w w':=
 (d.alloc c o).grown e Ϣ (λk f=>(World.ownsRow.lt g k f).1)
theorem ON(u j:Nat):(.int .u8 ((u:Int)/2 ^ (56 - 8 * j) % 256):Value)=EW (Dd u j):=by
 unfold EW Dd;rw[UInt8.toNat_ofNat']
 congr 1
theorem RU(u j:Nat):be8 u (j+1)=be8 u j++[Dd u j]:=by
 unfold be8;rw[range_succ,map_append];rfl
theorem E9(u j:Nat):(be8 u j).length=j:=by simp[be8]
theorem Qf(m:Nat)(h:m<2 ^ 63):m ^^^ 2 ^ 63=2 ^ 63+m:=by
 apply Nat.eq_of_testBit_eq;intro i;rw[Nat.testBit_xor];by_cases b:i<63
 ·rw[Nat.testBit_two_pow_add_gt b,Nat.testBit_two_pow_of_ne ϝ];simp
 ·by_cases c:i=63
  ·subst c;rw[Nat.testBit_two_pow_add_eq,Nat.testBit_two_pow_self,Nat.testBit_lt_two_pow h];rfl
  ·have d:2 ^ 64<=2 ^ i:=Nat.pow_le_pow_right ϝ ϝ;rw[Nat.testBit_lt_two_pow (Nat.lt_of_lt_of_le h ϝ),Nat.testBit_two_pow_of_ne ϝ,Nat.testBit_lt_two_pow (Nat.lt_of_lt_of_le ϝ d)];rfl
theorem RV(m:Nat)(h:2 ^ 63<=m)(b:m<2 ^ 64):m ^^^ 2 ^ 63=m - 2 ^ 63:=by
 have e:=Qf (m - 2 ^ 63) ϝ;have:m=(m - 2 ^ 63) ^^^ 2 ^ 63:=by rw[e];omega
 rw[this,Nat.xor_assoc,Nat.xor_self,Nat.xor_zero,<-this]
theorem ZW(n:Int)(b: -9223372036854775808<=n)(c:n<=9223372036854775807):
 (n % 18446744073709551616).toNat ^^^ 9223372036854775808=(n+9223372036854775808).toNat:=by
 by_cases h:0<=n
 ·have e:n % 18446744073709551616=n:=Int.emod_eq_of_lt h ϝ;rw[e];have:=Qf n.toNat ϝ;rw[show(2:Nat) ^ 63=9223372036854775808 by decide]at this;rw[this];omega
 ·have e:n % 18446744073709551616=n+18446744073709551616:=ϝ;rw[e];have:=RV (n+18446744073709551616).toNat ϝ ϝ;rw[show(2:Nat) ^ 63=9223372036854775808 by decide]at this;rw[this];omega
theorem Va(x:Int):IntKind.u64.wrap x=x % 18446744073709551616:=by
 simp[IntKind.wrap,IntKind.signed,IntKind.bits]
theorem ZX(n:Int)(d: -9223372036854775808<=n)(e:n<=9223372036854775807):
 bits BinOp.xor IntKind.u64 (IntKind.u64.wrap n) 9223372036854775808=(((n+9223372036854775808).toNat:Nat):Int):=by
 unfold bits;simp only[Va];rw[BitVec.toNat_xor];have b:(BitVec.ofInt IntKind.u64.bits (n % 18446744073709551616)).toNat=(n % 18446744073709551616).toNat:=by
  rw[BitVec.toNat_ofInt];show((n % 18446744073709551616) % 18446744073709551616).toNat=_;rw[Int.emod_emod_of_dvd _ (Int.dvd_refl _)]
 have c:(BitVec.ofInt IntKind.u64.bits 9223372036854775808).toNat=9223372036854775808:=by
  rw[BitVec.toNat_ofInt];rfl
 rw[b,c,ZW n d e];omega
theorem Od(base:Nat)(v:Value)(l:List UInt8)(n:Int)(w:ϙ)(q:base<=w.heap.size)(h:ownB w base v l)(D:l.length<=1000000)
 (A: -9223372036854775808<=n) (B:n<=9223372036854775807):
 η 244 #[v,vI n] w λe w'=> ∃f,e= .returned f/\ownB w' base f (l++be8 (n+9223372036854775808).toNat 8)/\Below base w w':=by
 have z:=ZX n A B;obtain⟨u,d⟩:∃u,(n+9223372036854775808).toNat=u:=⟨_,rfl⟩;rw[d]at z;have m:=hqz d;have G:u<=18446744073709551615:=ϝ;clear d;go_enter func244,ntmps244;go_wp2
 go_loopw [0,6] (λv i wr=> ∃j:Nat,j<=8/\i=vI (56 - 8 * (j:Int))/\ownB wr base v (l++be8 u j)/\Below base w wr) (λ_ i _=>(intOf i+8).toNat)
 case atStart=>exact⟨0,ϝ,rfl,by simpa[be8]using h,bR⟩
 case round=>
  obtain⟨j,C,rfl,k,c⟩:=hrel;have E:=E9 u j;have g:base<=wr.heap.size:=Nat.le_trans q c.size;have b:=hqz k;clear h k;by_cases F:j<8
  ·go_wp2_with (at_builtin;refine Bs rfl (.tmp 14) (.tmp 19) rfl base _ (l++be8 u j) rfl _ b.o _ (Dd u j) (ON u j) _ rfl rfl (by rw[lAp,E9];omega) g ?_;intro f H t r);go_roundw
   case rel=>exact⟨j+1,ϝ,by go_num,by rw[RU,<-append_assoc];exact t,AO c g b.o r⟩
   case measure=>simp[intOf];omega
  ·have p:j=8:=ϝ;subst p;go_wp2;go_ret;exact⟨_,rfl,by rw[m.o];exact b.o,c⟩
theorem TL(i:o.guard=none)(s x:Operand)
 (k:o.op= .call {callee:=.builtin .append,args:=#[s,x],argTypes:=#[51,51]}) (base:Nat) (v:Value) (l:List UInt8) (n:a.eval s=v) (b:ϙ)
 (m:ownB b base v l) (B:Nat) (g:b.heap.size=B) (p:a.eval x=vS (τ B) 2 2) (C:l.length<=2000000) (A:base<=b.heap.size)
 (h:∀c w',ownB w' base c (l++[0,1])->(b.alloc (.cells #[.int .u8 0,.int .u8 1] 5)).grownBy w' v.ownBlock->wpList Tryz.prog ops Q rest (a.put o.dst c) w'):
 wpList Tryz.prog ops Q (o::rest) a (ξ b #[.int .u8 0,.int .u8 1] 5):=by
 subst g;obtain⟨z,j,q,r,t⟩:=info_parts Tryz.info5;refine wpList_append_own _ i s x 51 k base 5 z (.int .u8 0) 1 1 underlying51 j q r t rfl Ϟ v l.length (l.map EW) n
  (World.ownsRow.alloc m _) ⟨b,0,none⟩ 2 2 [.int .u8 0,.int .u8 1] p rfl (cell_two_new _ _ _ _) (by intro u d;simp at d;rcases d with rfl|rfl<;>rfl) ϧ ϝ Ϣ ?_
 intro c w' e f _;refine h c w' ?_ f;unfold ownB;rw[lAp,map_append];exact e
def B5(l:List UInt8):List UInt8:=l.flatMap λb=>if b=0 then [0,255]else [b]
theorem RY(l:List UInt8):(B5 l).length<=2 * l.length:=by
 induction l with
 |nil=>simp[B5]
 |cons b r ih=>
  have:B5 (b::r)=(if b=0 then [0,255]else [b])++B5 r:=rfl;rw[this,lAp,length_cons];split<;>simp<;>omega
theorem Lj(l:List UInt8)(b:UInt8):B5 (l++[b])=B5 l++(if b=0 then [0,255]else [b]):=by
 unfold B5;rw[flatMap_append];simp
theorem Iw(s:ByteArray)(k:Nat)(h:k<s.size):s.data.toList.take (k+1)=s.data.toList.take k++[s[k]]:=by
 rw[take_succ_eq_append_getElem (by simpa using h)];rfl
theorem byte_zero(b:UInt8):((b.toNat:Int)==0)=decide (b=0):=by
 rw[Bool.eq_iff_iff,beq_iff_eq,decide_eq_true_iff,<-UInt8.toNat_inj];simp
theorem byte_of{b c:UInt8}(h:b=c):(.int .u8 (b.toNat:Int):Value)=EW c:=by rw[h];rfl
theorem Nj(base:Nat)(v:Value)(l:List UInt8)(s:ByteArray)(w:ϙ)(C:base<=w.heap.size)(r:ownB w base v l)(K:l.length<=1000000)(L:s.size<=64):
 η 245 #[v,.string s] w λe w'=> ∃g,e= .returned g/\ownB w' base g (l++B5 s.data.toList++[0,1])/\Below base w w':=by
 go_enter func245,ntmps245;go_wp2
 go_loopw [0,8] (λv i wr=> ∃k:Nat,k<=s.size/\i=vI k/\ownB wr base v (l++B5 (s.data.toList.take k))/\Below base w wr) (λ_ i _=>s.size - (intOf i).toNat)
 case atStart=>exact⟨0,ϝ,rfl,by simpa[B5]using r,bR⟩
 case round=>
  obtain⟨k,J,rfl,t,n⟩:=hrel;have q:(l++B5 (s.data.toList.take k)).length<=1000200:=by
   have H:=RY (s.data.toList.take k);have I:(s.data.toList.take k).length<=k:=length_take_le _ _;rw[lAp];omega
  have b:base<=wr.heap.size:=Nat.le_trans C n.size;have c:=hqz t;have j:=hqz q;clear r t q;by_cases E:k<s.size
  ·have p:ϛ (B5 (s.data.toList.take (k+1))=B5 (s.data.toList.take k)++(if s[k]=0 then [0,255]else [s[k]])):=by
    show B5 (s.data.toList.take (k+1))=_;rw[Iw s k E,Lj]
   by_cases u:((s[k].toNat:Int)==0)=true
   ·have z:s[k]=0:=of_decide_eq_true ((byte_zero s[k]).symm.trans u);have m:=hqz z;clear z;go_wp2_with (first
     |(at_builtin;refine Bs rfl (.tmp 11) (.tmp 15) rfl base _ (l++B5 (s.data.toList.take k)) rfl _ c.o _ 0 (byte_of m.o) _ rfl rfl (by have:=j.o;omega) b ?_;intro g A f d)
     |(at_builtin;refine Bs rfl (.tmp 21) (.tmp 22) rfl base _ (l++B5 (s.data.toList.take k)++[0]) rfl _ f _ 255 rfl _ rfl rfl (by have:=j.o;rw[lAp];simp only[length_cons,length_nil];omega) (Nat.le_trans b (AO bR b c.o d).size) ?_;intro M N F D))
    go_roundw
    case rel=>exact⟨k+1,ϝ,by go_num,by rw[p.o,if_pos m.o];simpa[append_assoc]using F,AO (AO n b c.o d) (Nat.le_trans b (AO bR b c.o d).size) f D⟩
    case measure=>simp[intOf];omega
   ·have G:((s[k].toNat:Int)==0)=false:=by simpa using u
    have m:ϛ (¬s[k]=0):=of_decide_eq_false ((byte_zero s[k]).symm.trans G);go_wp2_with (at_builtin;refine Bs rfl (.tmp 11) (.tmp 15) rfl base _ (l++B5 (s.data.toList.take k)) rfl _ c.o _ s[k] rfl _ rfl rfl (by have:=j.o;omega) b ?_;intro g A f d);go_roundw
    case rel=>exact⟨k+1,ϝ,by go_num,by rw[p.o,if_neg m.o];simpa[append_assoc]using f,AO n b c.o d⟩
    case measure=>simp[intOf];omega
  ·have B:ϛ (s.data.toList.take k=s.data.toList):=take_of_length_le Ϣ;go_wp2_with (at_builtin;refine TL rfl (.tmp 25) (.tmp 26) rfl base _ (l++B5 (s.data.toList.take k)) rfl _ c.o _ rfl rfl (by have:=j.o;omega) b ?_;intro g A f d);go_ret;exact⟨_,rfl,by have h:=f;rw[B.o]at h;exact h,AO n b c.o d⟩
def CM(c:Cel):List UInt8:=
 if c.k=0 then [0]else if c.k=1 then [1,UInt8.ofNat c.n.toNat]else if c.k=2 then 2::be8 (c.n+9223372036854775808).toNat 8 else 3::(B5 c.s.data.toList++[0,1])
def Cel.ok(c:Cel):Prop:=chk c.k c.n c.s=0
theorem Gp{k n:Int}{s:ByteArray}(h:chk k n s=0):
 s.size<=64/\((k=0/\n=0/\s.size=0)\/(k=1/\n=0/\s.size=0)\/(k=1/\n=1/\s.size=0)\/(k=2/\s.size=0)\/(k=3/\n=0)):=by
 unfold chk at h;split at h
 ·omega
 ·split at h
  ·omega
  ·split at h
   ·omega
   ·omega
theorem Cj(h:ownB w base v l)(o:Obj):ownB (w.alloc o) base v l:=World.ownsRow.alloc h o
theorem Ck{c:ϙ}(f:ownB w base v l){b g:Obj}(e:((w.alloc b).alloc g).grownBy c v.ownBlock)(j:Nat){x:Value}
 (d:Δ (w.alloc b) w j x):Δ c w j x:=by
 refine e.cell ?_ ?_
 ·rw[World.cell?_alloc_lt]
  ·exact d
  ·simp
 ·intro h;have:=(World.ownsRow.lt f w.heap.size h.symm).2;omega
theorem Nk(base:Nat)(v:Value)(l:List UInt8)(k n:Int)(s:ByteArray)(w:ϙ)(h:base<=w.heap.size)(c:ownB w base v l)(I:l.length<=900000)
 (G: -9223372036854775808<=n) (H:n<=9223372036854775807) (C:chk k n s=0):
 η 184 #[v,.agg #[vI k,vI n,.string s]] w λe w'=> ∃D,e= .returned D/\ownB w' base D (l++CM ⟨k,n,s⟩)/\Below base w w':=by
 obtain⟨F,E⟩:=Gp C;clear C;rcases E with⟨rfl,rfl,z⟩|⟨rfl,rfl,z⟩|⟨rfl,rfl,z⟩|⟨rfl,z⟩|⟨rfl,rfl⟩
 ·go_enter func184,ntmps184;go_wp2_with (at_builtin;refine Bs rfl (.tmp 5) (.tmp 9) rfl base v l rfl _ (Cj c _) _ 0 rfl (w.heap.size+1) ϟ rfl ϝ Ϣ ?_;intro j f g b;have p:=Ck (x:=vI 0) c b 0 ϡ;have q:=Ck (x:=vI 0) c b 1 ϡ;have r:=Ck (x:=.string s) c b 2 ϡ;have d:=AO ((Below.refl base w).alloc h _) Ϣ (Cj c _) b;have i:base<=f.heap.size:=Nat.le_trans h d.size;clear b);go_ret;exact⟨_,rfl,g,d⟩
 ·go_enter func184,ntmps184;go_wp2_with (first
   |(at_builtin;refine Bs rfl (.tmp 5) (.tmp 9) rfl base v l rfl _ (Cj c _) _ 1 rfl (w.heap.size+1) ϟ rfl ϝ Ϣ ?_;intro j f g b;have p:=Ck (x:=vI 1) c b 0 ϡ;have q:=Ck (x:=vI 0) c b 1 ϡ;have r:=Ck (x:=.string s) c b 2 ϡ;have d:=AO ((Below.refl base w).alloc h _) Ϣ (Cj c _) b;have i:base<=f.heap.size:=Nat.le_trans h d.size;clear b)
   |(at_builtin;refine Bs rfl (.tmp 15) (.tmp 19) rfl base j (l++[1]) rfl _ g _ 0 rfl f.heap.size rfl rfl Ϣ i ?_;intro A B m u))
  go_ret;exact⟨_,rfl,by simpa[CM,append_assoc]using m,AO d i g u⟩
 ·go_enter func184,ntmps184;go_wp2_with (first
   |(at_builtin;refine Bs rfl (.tmp 5) (.tmp 9) rfl base v l rfl _ (Cj c _) _ 1 rfl (w.heap.size+1) ϟ rfl ϝ Ϣ ?_;intro j f g b;have p:=Ck (x:=vI 1) c b 0 ϡ;have q:=Ck (x:=vI 1) c b 1 ϡ;have r:=Ck (x:=.string s) c b 2 ϡ;have d:=AO ((Below.refl base w).alloc h _) Ϣ (Cj c _) b;have i:base<=f.heap.size:=Nat.le_trans h d.size;clear b)
   |(at_builtin;refine Bs rfl (.tmp 15) (.tmp 19) rfl base j (l++[1]) rfl _ g _ 1 rfl f.heap.size rfl rfl Ϣ i ?_;intro A B m u))
  go_ret;exact⟨_,rfl,by simpa[CM,append_assoc]using m,AO d i g u⟩
 ·go_enter func184,ntmps184;go_wp2_with (first
   |(at_builtin;refine Bs rfl (.tmp 5) (.tmp 9) rfl base v l rfl _ (Cj c _) _ 2 rfl (w.heap.size+1) ϟ rfl ϝ Ϣ ?_;intro j f g b;have p:=Ck (x:=vI 2) c b 0 ϡ;have q:=Ck (x:=vI n) c b 1 ϡ;have r:=Ck (x:=.string s) c b 2 ϡ;have d:=AO ((Below.refl base w).alloc h _) Ϣ (Cj c _) b;have i:base<=f.heap.size:=Nat.le_trans h d.size;clear b)
   |(go_at_call 244;refine(Od base j (l++[2]) n f i g Ϣ G H).mono ?_;rintro e B ⟨A,rfl,m,t⟩))
  go_ret;exact⟨_,rfl,by simpa[CM,append_assoc]using m,d.trans t⟩
 ·go_enter func184,ntmps184;go_wp2_with (first
   |(at_builtin;refine Bs rfl (.tmp 5) (.tmp 9) rfl base v l rfl _ (Cj c _) _ 3 rfl (w.heap.size+1) ϟ rfl ϝ Ϣ ?_;intro j f g b;have p:=Ck (x:=vI 3) c b 0 ϡ;have q:=Ck (x:=vI 0) c b 1 ϡ;have r:=Ck (x:=.string s) c b 2 ϡ;have d:=AO ((Below.refl base w).alloc h _) Ϣ (Cj c _) b;have i:base<=f.heap.size:=Nat.le_trans h d.size;clear b)
   |(go_at_call 245;refine(Nj base j (l++[3]) s f i g Ϣ F).mono ?_;rintro e B ⟨A,rfl,m,t⟩))
  go_ret;exact⟨_,rfl,by simpa[CM,append_assoc]using m,d.trans t⟩
def encR(r:List Cel):List UInt8:=r.flatMap CM
def FR:List Cel->Int
 |[]=>0
 |c::r=>if chk c.k c.n c.s=0 then FR r else chk c.k c.n c.s
def A5(r:List Cel):Int:=if 8<r.length then 2 else FR r
theorem OO(r:List Cel)(k:Nat)(h:∀i,i<k->((r.getD i ϰ).ok)):FR r=FR (r.drop k):=by
 induction k generalizing r with
 |zero=>rfl
 |succ k ih=>
  match r with
  |[]=>rfl
  |c::r=>
   have b:chk c.k c.n c.s=0:=h 0 ϝ;rw[FR,if_pos b,drop_succ_cons];exact ih r (λi d=>h (i+1) ϝ)
theorem ZY(c:Cel)(h:c.ok):(CM c).length<=131:=by
 have b:=(Gp h).1;unfold CM;split
 ·simp
 ·split
  ·simp
  ·split
   ·simp[E9]
   ·have:=RY c.s.data.toList;simp only[length_cons,lAp,length_nil];have e:c.s.data.toList.length=c.s.size:=Array.length_toList;omega
theorem Dh(r:List Cel)(h:∀c∈r,c.ok):(encR r).length<=131 * r.length:=by
 induction r with
 |nil=>simp[encR]
 |cons c r ih=>
  have e:encR (c::r)=CM c++encR r:=rfl;have d:=ZY c (h c (mem_cons_self ..));have f:=ih (λx b=>h x (mem_cons_of_mem _ b));rw[e,lAp,length_cons];omega
theorem OQ(r:List Cel)(c:Cel):encR (r++[c])=encR r++CM c:=by
 unfold encR;rw[flatMap_append];simp
theorem Xx(r:List Cel)(k:Nat)(h:k<r.length):r.take (k+1)=r.take k++[r.getD k ϰ]:=by
 rw[take_succ_eq_append_getElem h];simp[gDe,h]
theorem Kd(h:ownB w base v l):(convert 51 9 v).run Tryz.prog w= .ok (.string ⟨l.toArray⟩) w:=by
 rcases h.2 with⟨rfl,d⟩|⟨g,c,f,rfl,i,e,k,j,m,b⟩
 ·have:l=[]:=eq_nil_of_length_eq_zero d;subst this;exact Lib.run_convert_nil_bytes w 51 9 5 0 underlying51 underlying5 underlying9
 ·refine run_convert_bytes_back w 51 9 5 ⟨g,0,none⟩ c l underlying51 underlying5 underlying9 ?_;refine Lib.bytes_of_row e ?_;rw[Nat.mul_one]at b;rw[b];simp[Lib.byteCells,EW]
theorem Nl(h:ownB w base v l)(k:Ϝ w w'):ownB w' base v l:=by
 refine⟨h.1,?_⟩;rcases h.2 with f|⟨g,d,e,n,i,b,j⟩
 ·exact .inl f
 ·have c:g<w.heap.size:=by
   rcases Nat.lt_or_ge g w.heap.size with c|m
   ·exact c
   ·rw[Array.getElem?_eq_none m]at b;cases b
  exact .inr ⟨g,d,e,n,i,by rw[k.block g c];exact b,j⟩
def B9(r:List Cel):Prop:=∀c∈r,(-9223372036854775808<=c.n/\c.n<=9223372036854775807)/\c.s.size<=maxLen
theorem AcN{r:List Cel}(h:B9 r)(k:Nat)(b:k<r.length):(-9223372036854775808<=(r.getD k ϰ).n/\(r.getD k ϰ).n<=9223372036854775807)/\(r.getD k ϰ).s.size<=maxLen:=
 h _ (by simp[gDe,b])
theorem Vb(r:List Cel)(k:Nat)(b:k<r.length)(h:∀i,i<k->((r.getD i ϰ).ok))(c:¬(r.getD k ϰ).ok):FR r=chk (r.getD k ϰ).k (r.getD k ϰ).n (r.getD k ϰ).s:=by
 rw[OO r k h,Gn r k b,FR];exact if_neg c
theorem Nm(r:List Cel)(k:Nat)(b:r.length<=k)(h:∀i,i<k->((r.getD i ϰ).ok)):FR r=0:=by
 rw[OO r k h,drop_of_length_le b];rfl
theorem H3{r:List Cel}(h:FR r=0):∀c∈r,c.ok:=by
 induction r with
 |nil=>intro c b;cases b
 |cons a r ih=>
  rw[FR]at h;split at h
  ·rename_i d;intro c b;rcases mem_cons.1 b with rfl|b
   ·exact d
   ·exact ih h c b
  ·rename_i d;exact absurd h d
theorem AbY(r:List Cel)(k:Nat)(e:k<=r.length)(h:∀i,i<k->((r.getD i ϰ).ok)):∀c∈r.take k,c.ok:=by
 intro c b;obtain⟨i,d,rfl⟩:=getElem_of_mem b;rw[length_take]at d;have:=h i ϝ;rw[getElem_take];simpa[gDe,show i<r.length by omega]using this
def EY(r:List Cel):ByteArray:=⟨(if A5 r=0 then encR r else []).toArray⟩
theorem TN{x y:ByteArray}{a b:Int}(c:x=y)(d:a=b):Ending.returned (.tuple #[.string x,vI a])= .returned (.tuple #[.string y,vI b]):=by rw[c,d]
theorem Iy(a:Ϛ)(cap:Nat)(r:List Cel)(w:ϙ)(M:rowAt w a r)(ad:B9 r)(hl:r.length<=χ):
 η 112 #[vS a r.length cap] w (θ w (.tuple #[.string (EY r),vI (A5 r)])):=by
 obtain⟨n,F⟩:∃n,r.length=n:=⟨_,rfl⟩;have b:=hqz F;rw[F]at hl⊢;clear F;by_cases K:8<n
 ·have q:ϛ (A5 r=2):=by
   show A5 r=2;unfold A5;rw[if_pos (by rw[b.o];exact K)]
  go_enter func112,ntmps112;go_wp2
  go_ret2
  exact⟨TN (by unfold EY;rw[q.o];rfl) q.o.symm,bR⟩
 ·have q:ϛ (A5 r=FR r):=by
   show A5 r=FR r;unfold A5;rw[if_neg (by rw[b.o];exact K)]
  go_enter func112,ntmps112;go_wp2
  go_loopw [4,13] (λv i wr=> ∃k:Nat,k<=n/\i=vI k/\ownB wr w.heap.size v (encR (r.take k))/\Ϝ w wr/\(∀i,i<k->((r.getD i ϰ).ok))) (λ_ i _=>n - (intOf i).toNat)
  case atStart=>exact⟨0,ϝ,rfl,World.ownsRow_nil _ _ _ _,bR,λi E=>absurd E (Nat.not_lt_zero i)⟩
  case round=>
   obtain⟨k,hk,rfl,L,p,C⟩:=hrel;have B:=hqz C;have J:=hqz L;have Y:ϛ ((encR (r.take k)).length<=2000):=by
    have h1:=Dh (r.take k) (AbY r k (by rw[b.o];exact hk) C);have h2:(r.take k).length<=k:=length_take_le _ _;show _<=2000;omega
   clear C L;by_cases A:k<n
   ·obtain⟨b1,o1,e1,T,U,V⟩:=M k (by rw[b.o];exact A);subst e1;have G:=cLz p T;have P:=cLz p U;have R:=cLz p V;clear T U V M;have O:=AcN ad k (by rw[b.o];exact A);have Z:ϛ (encR (r.take (k+1))=encR (r.take k)++CM (r.getD k ϰ)):=by
     show encR (r.take (k+1))=_;rw[Xx r k (by rw[b.o];exact A),OQ]
    obtain⟨⟨d,f,g⟩,D⟩:∃c,r.getD k ϰ=c:=⟨_,rfl⟩;rw[D]at G P R O;have t:=hqz D;clear D;obtain⟨⟨S,H⟩,I⟩:=O;dsimp only at G P R S H I;have i1:(0:Int)<=(k:Int):=ϝ;have i2:(k:Int)<(n:Int):=ϝ;have j1:=bLt _ _ G;have N:=p.size;by_cases u:(chk d f g==0)=true
    ·have j:ϛ (chk d f g=0):=by
      show chk d f g=0;simpa using u
     go_wp2_with (first
      |(go_at_call 183;refine(AH _ _ _ _ I).mono ?_;rintro e wc ⟨rfl,m⟩;have af:=cLz m (a:=⟨wr.heap.size,0,none⟩) (v:=vI d) ϡ;have ag:=cLz m (a:=⟨wr.heap.size,1,none⟩) (v:=vI f) ϡ;have ah:=cLz m (a:=⟨wr.heap.size,2,none⟩) (v:=.string g) ϡ;have ab:=Nl (Cj J.o _) m;have z:=(p.alloc N _).trans (m.mono Ϣ))
      |(go_at_call 184;refine(Nk w.heap.size u4 (encR (r.take k)) d f g wc z.size ab (by have:=Y.o;omega) S H j.o).mono ?_;rintro e H ⟨v2,rfl,ac,aa⟩))
     go_roundw
     case rel=>exact⟨k+1,ϝ,by go_num,by rw[Z.o,t.o];exact ac,z.trans aa,λi E=>by
      rcases Nat.lt_succ_iff_lt_or_eq.1 E with h|h
      ·exact B.o i h
      ·rw[h,t.o];exact j.o⟩
     case measure=>simp[intOf];omega
    ·have ae:(chk d f g==0)=false:=by simpa using u
     have j:ϛ (A5 r=chk d f g):=by
      show A5 r=chk d f g;rw[q.o,Vb r k (by rw[b.o];exact A) B.o (by rw[t.o];intro h;exact u (beq_iff_eq.2 h)),t.o]
     have W:ϛ (¬chk d f g=0):=λh=>u (beq_iff_eq.2 h);go_wp2_with (go_at_call 183;refine(AH _ _ _ _ I).mono ?_;rintro e wc ⟨rfl,m⟩;have z:=(p.alloc N _).trans (m.mono Ϣ))
     go_ret2
     exact⟨TN (by unfold EY;rw[if_neg (by rw[j.o];exact W.o)]) j.o.symm,z⟩
   ·have j:ϛ (A5 r=0):=by
     show A5 r=0;rw[q.o,Nm r k (by rw[b.o];omega) B.o]
    have X:ϛ (r.take k=r):=take_of_length_le (by rw[b.o];omega);have ai:=Kd J.o;go_wp2
    go_ret2
    exact⟨TN (by unfold EY;rw[if_pos j.o,X.o]) j.o.symm,p⟩
end vl
namespace vl
variable {s : ByteArray} {x y : List UInt8}
theorem Dn(b:UInt8)(x:List UInt8):B5 (b::x)=(if b=0 then [0,255]else [b])++B5 x:=rfl
theorem Nn(x t tail rest:List UInt8)(h:B5 x++tail=B5 t++0::1::rest):∃f,t=x++f/\tail=B5 f++0::1::rest:=by
 induction x generalizing t with
 |nil=>exact⟨t,rfl,h⟩
 |cons b x ih=>
  rw[Dn]at h
  cases t with
  |nil=>
   by_cases d:b=0
   ·rw[if_pos d]at h;simp[B5]at h
   ·rw[if_neg d]at h;simp[B5]at h;exact absurd h.1 d
  |cons c t=>
   rw[Dn]at h;by_cases d:b=0
   ·rw[if_pos d]at h;by_cases e:c=0
    ·rw[if_pos e]at h;have j:B5 x++tail=B5 t++0::1::rest:=by simpa using h
     obtain⟨f,g,i⟩:=ih t j;exact⟨f,by rw[d,e,g];rfl,i⟩
    ·rw[if_neg e]at h;simp at h;exact absurd h.1.symm e
   ·rw[if_neg d]at h;by_cases e:c=0
    ·rw[if_pos e]at h;simp at h;exact absurd h.1 d
    ·rw[if_neg e]at h;simp only[cons_append,nil_append,List.cons.injEq]at h;obtain⟨f,g,i⟩:=ih t h.2;exact⟨f,by rw[h.1,g];rfl,i⟩
def Be(l:List UInt8):Nat:=l.foldl (λu b=>u * 256+b.toNat) 0
theorem L8(n:Nat):(UInt8.ofNat n).toNat=n % 256:=UInt8.toNat_ofNat'
theorem AcO(u:Nat):be8 u 8=[Dd u 0,Dd u 1,Dd u 2,Dd u 3,Dd u 4,Dd u 5,Dd u 6,Dd u 7]:=rfl
theorem Gq(u:Nat)(h:u<18446744073709551616):Be (be8 u 8)=u:=by
 rw[AcO];simp only[Be,foldl_cons,foldl_nil,Dd,L8];simp only[Nat.reduceMul,Nat.reduceSub,Nat.reducePow,Nat.reduceAdd];omega
theorem Ke{a b:UInt8}(h:a.toNat=b.toNat):a=b:=UInt8.toNat_inj.1 h
theorem OS(l:List UInt8)(h:l.length=8):be8 (Be l) 8=l:=by
 match l,h with
 |[b0,b1,b2,b3,b4,b5,b6,b7],_=>
  have b:=b0.toNat_lt;have c:=b1.toNat_lt;have d:=b2.toNat_lt;have e:=b3.toNat_lt;have f:=b4.toNat_lt;have g:=b5.toNat_lt;have i:=b6.toNat_lt;have j:=b7.toNat_lt;rw[AcO];simp only[List.cons.injEq,and_true];refine⟨?_,?_,?_,?_,?_,?_,?_,?_⟩<;>
   (apply Ke;simp only[Be,foldl_cons,foldl_nil,Dd,L8];simp only[Nat.reduceMul,Nat.reduceSub,Nat.reducePow,Nat.reduceAdd];omega)
theorem Np(l:List UInt8)(h:l.length=8):Be l<18446744073709551616:=by
 match l,h with
 |[b0,b1,b2,b3,b4,b5,b6,b7],_=>
  have b:=b0.toNat_lt;have c:=b1.toNat_lt;have d:=b2.toNat_lt;have e:=b3.toNat_lt;have f:=b4.toNat_lt;have g:=b5.toNat_lt;have i:=b6.toNat_lt;have j:=b7.toNat_lt;simp only[Be,foldl_cons,foldl_nil];omega
def Cel.wf(c:Cel):Prop:=(-9223372036854775808<=c.n/\c.n<=9223372036854775807)/\c.s.size<=maxLen
theorem RZ(h:s.size=0):s=⟨#[]⟩:=ByteArray.ext (Array.eq_empty_of_size_eq_zero h)
theorem str_eq{t:ByteArray}(h:s.data.toList=t.data.toList):s=t:=ByteArray.ext (Array.ext' h)
theorem encC_cases{c:Cel}(h:c.ok):
 (c=⟨0,0,⟨#[]⟩⟩/\CM c=[0])\/(c=⟨1,0,⟨#[]⟩⟩/\CM c=[1,0])\/(c=⟨1,1,⟨#[]⟩⟩/\CM c=[1,1])\/
 (∃n,c=⟨2,n,⟨#[]⟩⟩/\CM c=2::be8 (n+9223372036854775808).toNat 8)\/(∃s,c=⟨3,0,s⟩/\s.size<=64/\CM c=3::(B5 s.data.toList++[0,1])):=by
 obtain⟨k,n,s⟩:=c;obtain⟨e,d⟩:=Gp h;dsimp only at e d;rcases d with⟨rfl,rfl,b⟩|⟨rfl,rfl,b⟩|⟨rfl,rfl,b⟩|⟨rfl,b⟩|⟨rfl,rfl⟩
 ·rw[RZ b];exact .inl ⟨rfl,rfl⟩
 ·rw[RZ b];exact .inr (.inl ⟨rfl,rfl⟩)
 ·rw[RZ b];exact .inr (.inr (.inl ⟨rfl,rfl⟩))
 ·rw[RZ b];exact .inr (.inr (.inr (.inl ⟨n,rfl,rfl⟩)))
 ·exact .inr (.inr (.inr (.inr ⟨s,rfl,e,rfl⟩)))
theorem Iz{c:Cel}(h:c.ok):CM c≠[]:=by
 rcases encC_cases h with⟨_,e⟩|⟨_,e⟩|⟨_,e⟩|⟨n,_,e⟩|⟨s,_,_,e⟩<;>rw[e]<;>simp
theorem Nq{a b:List UInt8}(ha:a.length=b.length)(h:a++x=b++y):a=b/\x=y:=append_inj h ha
theorem ZZ{c d:Cel}(z:c.ok)(A:d.ok)(wc:c.wf)(F:d.wf)(h:CM c++x=CM d++y):c=d/\x=y:=by
 rcases encC_cases z with⟨rfl,e⟩|⟨rfl,e⟩|⟨rfl,e⟩|⟨n,rfl,e⟩|⟨s,rfl,G,e⟩<;>rcases encC_cases A with⟨rfl,g⟩|⟨rfl,g⟩|⟨rfl,g⟩|⟨m,rfl,g⟩|⟨t,rfl,H,g⟩<;>simp only[e,g,cons_append,nil_append,List.cons.injEq]at h
 all_goals try (exact⟨rfl,h.2⟩)
 all_goals try (exact⟨rfl,h.2.2⟩)
 all_goals try (exact absurd h.1 Ϟ)
 all_goals try (exact absurd h.2.1 Ϟ)
 ·obtain⟨r,u⟩:=Nq (by rw[E9,E9]) h.2;have:=congrArg Be r;obtain⟨⟨D,E⟩,_⟩:=wc;obtain⟨⟨B,C⟩,_⟩:=F;dsimp only at D E B C;rw[Gq _ ϝ,Gq _ ϝ]at this;have e:n=m:=ϝ;exact⟨by rw[e],u⟩
 ·have q:B5 s.data.toList++0::1::x=B5 t.data.toList++0::1::y:=by simpa using h.2
  obtain⟨j,k,f⟩:=Nn _ _ _ _ q;have:j=[]:=by
   cases j with
   |nil=>rfl
   |cons b j=>
    rw[Dn]at f;by_cases i:b=0
    ·rw[if_pos i]at f;simp at f
    ·rw[if_neg i]at f;simp at f;exact absurd f.1.symm i
  subst this;rw[append_nil]at k;have p:x=y:=by simpa[B5]using f
  exact⟨by rw[str_eq k],p⟩
end vl
namespace vl
variable {l tail x : List UInt8}
theorem Ce{w:ϙ}{base:Nat}{v:Value}(h:ownB w base v l):∃c b,v=vS c l.length b:=by
 rcases h.2 with⟨rfl,d⟩|⟨g,b,e,rfl,_⟩
 ·exact⟨none,0,by rw[d]⟩
 ·exact⟨_,_,rfl⟩
theorem DI(s:ByteArray)(k:Nat)(h:k<s.size):s.data.toList.drop k=s[k]::s.data.toList.drop (k+1):=by
 rw[drop_eq_getElem_cons (by simpa using h)];rfl
theorem AL(s:ByteArray):s.data.toList.length=s.size:=Array.length_toList
def FT(l:List UInt8):Prop:=∀t rest,t.length<=64->l≠B5 t++0::1::rest
theorem I0(h:l=B5 x++tail)(f:∀b rest,(x++b).length<=64->tail≠B5 b++0::1::rest):FT l:=by
 intro t rest g c;rw[h]at c;obtain⟨b,d,e⟩:=Nn _ _ _ _ c;exact f b rest (by rw[<-d];exact g) e
theorem AdM(h:l=B5 x++[]):FT l:=I0 h (λb rest _ e=>by simp at e)
theorem Vd(h:l=B5 x++tail)(c:64<x.length):FT l:=I0 h (λd rest b e=>by rw[lAp]at b;omega)
theorem AbZ(h:l=B5 x++[0]):FT l:=I0 h (λd rest _ e=>by
 cases d with
 |nil=>simp[B5]at e
 |cons b d=>
  rw[Dn]at e;by_cases c:b=0
  ·rw[if_pos c]at e;simp at e
  ·rw[if_neg c]at e;simp at e)
theorem Aaa{c:UInt8}(h:l=B5 x++0::c::tail)(g:c≠1)(i:c≠255):FT l:=I0 h (λf rest _ e=>by
 cases f with
 |nil=>simp[B5]at e;exact g e.1
 |cons b f=>
  rw[Dn]at e;by_cases d:b=0
  ·rw[if_pos d]at e;simp at e;exact i e.1
  ·rw[if_neg d]at e;simp at e;exact absurd e.1.symm d)
theorem FD(b c:UInt8):((b.toNat:Int)==(c.toNat:Int))=decide (b=c):=by
 rw[Bool.eq_iff_iff,beq_iff_eq,decide_eq_true_iff,<-UInt8.toNat_inj];omega
theorem Qg(s:ByteArray)(w:ϙ)(S:s.size<=maxLen):
 η 249 #[.string s] w λe w'=>(∃B J ok,e= .returned (.tuple #[.string B,.string J,.bool ok])/\B.size<=65/\
  ((ok=true/\s.data.toList=B5 B.data.toList++0::1::J.data.toList)\/(ok=false/\FT s.data.toList)))/\Ϝ w w':=by
 unfold maxLen at S;go_enter func249,ntmps249;go_wp2
 go_loopw [5,6] (λv i wr=> ∃(k:Nat) (t:List UInt8),k<=s.size/\i=vI k/\ownB wr w.heap.size v t/\Ϝ w wr/\t.length<=65/\s.data.toList=B5 t++s.data.toList.drop k) (λ_ i _=>s.size - (intOf i).toNat)
 case atStart=>exact⟨0,[],ϝ,rfl,World.ownsRow_nil _ _ _ _,bR,ϟ,rfl⟩
 case round=>
  obtain⟨k,t,hk,rfl,z,b,ht,G⟩:=hrel;obtain⟨X,Y,T⟩:=Ce z;subst T;have c:=hqz z;have d:=hqz G;have g:=b.size;clear z G;by_cases O:k<s.size
  ·by_cases Z:t.length<=64
   ·have aa:((t.length:Nat):Int)<=64:=ϝ;have p:ϛ (s.data.toList.drop k=s[k]::s.data.toList.drop (k+1)):=DI s k O;by_cases H:((s[k].toNat:Int)==0)=true
    ·have I:s[k]=0:=of_decide_eq_true ((byte_zero s[k]).symm.trans H);have f:=hqz I;clear I;by_cases P:k+1<s.size
     ·have K:ϛ (s.data.toList.drop (k+1)=s[k+1]::s.data.toList.drop (k+1+1)):=DI s (k+1) P;have R:((k:Int)+1==(s.size:Int))=false:=Ϣ;have r:ϛ (s.data.toList=B5 t++0::s[k+1]::s.data.toList.drop (k+1+1)):=by
       show s.data.toList=_;have h:=d.o;rw[p.o,K.o,f.o]at h;exact h
      by_cases C:((s[k+1].toNat:Int)==1)=true
      ·have D:s[k+1]=1:=of_decide_eq_true ((FD s[k+1] 1).symm.trans C);have j:=hqz D;clear D;have ab:=λn=>Kd (w:=wr.drewN n) (base:=w.heap.size) c.o;go_wp2
       go_quiet (fail)
       go_wp2
       go_ret3
       exact⟨⟨_,_,_,rfl,by show t.toArray.size<=65;simp;omega,.inl ⟨rfl,by
        have h:=r.o;rw[j.o]at h;rw[Lib.extract_to_end];exact h⟩⟩,below_drewN b _⟩
      ·have L:((s[k+1].toNat:Int)==1)=false:=by simpa using C
       have j:ϛ (¬s[k+1]=1):=of_decide_eq_false ((FD s[k+1] 1).symm.trans L);by_cases E:((s[k+1].toNat:Int)==255)=true
       ·have F:s[k+1]=255:=of_decide_eq_true ((FD s[k+1] 255).symm.trans E);have m:=hqz F;clear F;go_wp2_with (at_builtin;refine Bs rfl (.tmp 47) (.tmp 48) rfl w.heap.size _ t rfl _ c.o _ 0 rfl _ rfl rfl ϝ g ?_;intro V W A u);go_roundw
        case rel=>exact⟨k+1+1,t++[0],ϝ,by go_num,A,AO b g c.o u,Ϣ,by
         have h:=r.o;rw[m.o]at h;rw[Lj,if_pos rfl,append_assoc];exact h⟩
        case measure=>simp[intOf];omega
       ·have M:((s[k+1].toNat:Int)==255)=false:=by simpa using E
        have m:ϛ (¬s[k+1]=255):=of_decide_eq_false ((FD s[k+1] 255).symm.trans M);go_wp2
        go_ret3
        exact⟨⟨_,_,_,rfl,Nat.zero_le _,.inr ⟨rfl,Aaa r.o j.o m.o⟩⟩,b⟩
     ·have R:((k:Int)+1==(s.size:Int))=true:=Ϣ;have q:ϛ (s.data.toList.drop (k+1)=[]):=drop_of_length_le (by rw[AL];omega);go_wp2
      go_ret3
      exact⟨⟨_,_,_,rfl,Nat.zero_le _,.inr ⟨rfl,AbZ (x:=t) (by have h:=d.o;rw[p.o,q.o,f.o]at h;exact h)⟩⟩,b⟩
    ·have U:((s[k].toNat:Int)==0)=false:=by simpa using H
     have f:ϛ (¬s[k]=0):=of_decide_eq_false ((byte_zero s[k]).symm.trans U);go_wp2_with (at_builtin;refine Bs rfl (.tmp 22) (.tmp 26) rfl w.heap.size _ t rfl _ c.o _ s[k] rfl _ rfl rfl ϝ g ?_;intro V W A u);go_roundw
     case rel=>exact⟨k+1,t++[s[k]],ϝ,by go_num,A,AO b g c.o u,Ϣ,by
      have h:=d.o;rw[p.o]at h;rw[Lj,if_neg f.o,append_assoc];exact h⟩
     case measure=>simp[intOf];omega
   ·have N:decide (((t.length:Nat):Int)<=64)=false:=decide_eq_false ϝ;go_wp2
    go_ret3
    exact⟨⟨_,_,_,rfl,Nat.zero_le _,.inr ⟨rfl,Vd d.o ϝ⟩⟩,b⟩
  ·have q:ϛ (s.data.toList.drop k=[]):=drop_of_length_le (by rw[AL];omega);have N:decide ((k:Int)<(s.size:Int))=false:=decide_eq_false ϝ;go_wp2
   go_ret3
   exact⟨⟨_,_,_,rfl,Nat.zero_le _,.inr ⟨rfl,AdM (x:=t) (by have h:=d.o;rw[q.o]at h;exact h)⟩⟩,b⟩
theorem Nr(l:List UInt8)(b:UInt8):Be (l++[b])=Be l * 256+b.toNat:=by
 unfold Be;rw[foldl_append];rfl
theorem TO(l:List UInt8)(a:Nat):l.foldl (λu b=>u * 256+b.toNat) a+1<=(a+1) * 256 ^ l.length:=by
 induction l generalizing a with
 |nil=>simp
 |cons b l ih=>
  have c:=b.toNat_lt;rw[foldl_cons,length_cons,Nat.pow_succ];refine Nat.le_trans (ih _) ?_;rw[show(a+1) * (256 ^ l.length * 256)=((a+1) * 256) * 256 ^ l.length by rw[Nat.mul_comm (256 ^ l.length),Nat.mul_assoc]];exact Nat.mul_le_mul_right _ ϝ
theorem FE(l:List UInt8):Be l<256 ^ l.length:=by
 have:=TO l 0;rw[Nat.zero_add,Nat.one_mul]at this;exact this
theorem AdN(u b:Nat)(c:b<256):u * 256|||b=u * 256+b:=by
 have:=Nat.shiftLeft_add_eq_or_of_lt (a:=u) (b:=b) (i:=8) (by simpa using c);rw[Nat.shiftLeft_eq]at this;exact this.symm
theorem H4(x:Nat)(b:x<18446744073709551616):(BitVec.ofInt 64 (x:Int)).toNat=x:=by
 rw[BitVec.toNat_ofInt];show((x:Int) % 18446744073709551616).toNat=x;rw[Int.emod_eq_of_lt ϝ ϝ];rfl
theorem Ve(u b:Nat)(f:u<72057594037927936)(e:b<256):
 bits BinOp.or IntKind.u64 (IntKind.u64.wrap ((u:Int) * 256)) (IntKind.u64.wrap (b:Int))=((u * 256+b:Nat):Int):=by
 unfold bits;simp only[Va];rw[Int.emod_eq_of_lt (a:=(u:Int) * 256) ϝ ϝ,Int.emod_eq_of_lt (a:=(b:Int)) ϝ ϝ];have c:(BitVec.ofInt IntKind.u64.bits ((u:Int) * 256)).toNat=u * 256:=by
  have:=H4 (u * 256) ϝ;rw[show((u * 256:Nat):Int)=(u:Int) * 256 by omega]at this;exact this
 have d:(BitVec.ofInt IntKind.u64.bits (b:Int)).toNat=b:=H4 b ϝ;rw[BitVec.toNat_or,c,d,AdN u b e];exact Int.emod_eq_of_lt ϝ ϝ
theorem Aab(u:Nat)(d:u<18446744073709551616):wrap64 (bits BinOp.xor IntKind.u64 (u:Int) 9223372036854775808)=(u:Int) - 9223372036854775808:=by
 unfold bits;simp only[Va];have b:(BitVec.ofInt IntKind.u64.bits (u:Int)).toNat=u:=H4 u d;have c:(BitVec.ofInt IntKind.u64.bits 9223372036854775808).toNat=9223372036854775808:=by rw[BitVec.toNat_ofInt];rfl
 rw[BitVec.toNat_xor,b,c];by_cases h:u<9223372036854775808
 ·have:=Qf u ϝ;rw[show(2:Nat) ^ 63=9223372036854775808 by decide]at this;rw[this];unfold wrap64;omega
 ·have:=RV u ϝ ϝ;rw[show(2:Nat) ^ 63=9223372036854775808 by decide]at this;rw[this];unfold wrap64;omega
theorem Sa(s:ByteArray)(w:ϙ)(m:s.size=8):
 η 248 #[.string s] w λe w'=>e= .returned (vI ((Be s.data.toList:Int) - 9223372036854775808))/\w'=w:=by
 have r:s.size<=8:=ϝ;go_enter func248,ntmps248;go_wp2
 go_loop [3,7] (λu i=> ∃k:Nat,k<=8/\i=vI k/\u= .int .u64 (Be (s.data.toList.take k):Int)) (λ_ i=>8 - (intOf i).toNat)
 case atStart=>exact⟨0,ϝ,rfl,rfl⟩
 case round=>
  obtain⟨k,p,rfl,rfl⟩:=hrel;obtain⟨u,d⟩:∃u,Be (s.data.toList.take k)=u:=⟨_,rfl⟩;have c:=hqz d;rw[d];clear d;by_cases q:k<8
  ·have j:k<s.size:=ϝ;have b:ϛ (u<72057594037927936):=by
    show u<72057594037927936;have h:=FE (s.data.toList.take k);rw[c.o,length_take,AL]at h;have n:256 ^ (min k s.size)<=256 ^ 7:=Nat.pow_le_pow_right ϝ ϝ;omega
   have g:ϛ (Be (s.data.toList.take (k+1))=u * 256+s[k].toNat):=by
    show Be (s.data.toList.take (k+1))=_;rw[Iw s k j,Nr,c.o]
   go_wp2
   go_round
   case rel=>exact⟨k+1,ϝ,by go_num,by rw[g.o,Ve u s[k].toNat b.o s[k].toNat_lt]⟩
   case measure=>simp[intOf];omega
  ·go_wp2;have f:ϛ (Be s.data.toList=u):=by
    show Be s.data.toList=u;rw[<-c.o,take_of_length_le (by rw[AL];omega)]
   have b:ϛ (u<18446744073709551616):=by
    show u<18446744073709551616;rw[<-f.o];exact Np _ (by rw[AL];exact m)
   go_ret;exact⟨Aj (by rw[f.o,Aab u b.o]),rfl⟩
end vl
end Go.Proofs.YtfkihidbnfkbaaaGreatDoor
