import Derived.Test.YtdohnkkbkfhphaaGreatPw1
import Derived.Deep.AppendLies
import Derived.Lib.BufferRead
import Derived.Lib.IndexBytes
set_option linter.all false
set_option maxHeartbeats 4000000
set_option maxRecDepth 100000
open Go.ChangeShapes Go.WideShapes Go.ChangeAt Go.RowKit List
open Inhabited renaming default->ϰ
namespace Go.Proofs.YtdohnkkbkfhphaaGreat
open Go.Proofs.Tryz
namespace vl
variable {ops : Array Oper} {rest : List Oper} {o : Oper} {a : Act} {Q : Exit -> Act -> World -> Prop} {base : Nat} {w w' : ϛ} {v : Value} {l : List UInt8}
def Jd(a b:Cel):Int:=Qs a.k a.n a.s b.k b.n b.s
def B5:List Cel->List Cel->Int
 |[],[]=>0
 |[],_::_=> -1
 |_::_,[]=>1
 |a::x,b::y=>if Jd a b=0 then B5 x y else Jd a b
theorem JJ(c d:List Cel)(k:Nat)(h1:k<=c.length)(e:k<=d.length)(h:∀i,i<k->Jd (c.getD i ϰ) (d.getD i ϰ)=0):
 B5 c d=B5 (c.drop k) (d.drop k):=by
 induction k generalizing c d with
 |zero=>rfl
 |succ k ih=>
  match c,d,h1,e with
  |a::x,b::y,h1,e=>
   have f:Jd a b=0:=h 0 ϟ;rw[B5,if_pos f,drop_succ_cons,drop_succ_cons];exact ih x y (by simpa using h1) (by simpa using e) (λi g=>h (i+1) ϟ)
theorem Fx(r:List Cel)(k:Nat)(h:k<r.length):r.drop k=r.getD k ϰ::r.drop (k+1):=by
 rw[drop_eq_getElem_cons h];simp[gDe,h]
theorem T8(b c:List Cel)(k:Nat)(h1:k<b.length)(d:k<c.length)(h:∀i,i<k->Jd (b.getD i ϰ) (c.getD i ϰ)=0)
 (e:Jd (b.getD k ϰ) (c.getD k ϰ)≠0):B5 b c=Jd (b.getD k ϰ) (c.getD k ϰ):=by
 rw[JJ b c k ϟ ϟ h,Fx b k h1,Fx c k d,B5,if_neg e]
theorem LH(c b:List Cel)(k:Nat)(h1:k<=c.length)(e:k<=b.length)(h:∀i,i<k->Jd (c.getD i ϰ) (b.getD i ϰ)=0)
 (g:k=c.length\/k=b.length):B5 c b=Dl c.length b.length:=by
 rw[JJ c b k h1 e h];unfold Dl;by_cases f:k=c.length
 ·rw[drop_of_length_le (show c.length<=k by omega)];by_cases d:k=b.length
  ·rw[drop_of_length_le (show b.length<=k by omega),B5,if_neg ϟ,if_neg ϟ]
  ·rw[Fx b k ϟ,B5,if_pos ϟ]
 ·have d:k=b.length:=ϟ;rw[drop_of_length_le (show b.length<=k by omega),Fx c k ϟ,B5,if_neg ϟ,if_pos ϟ]
attribute [local go_sem ↓] Go.wp_at_zero Go.wp_at_succ
theorem Rl(O P:Ϝ)(c1 c2:Nat)(b d:List Cel)(w:ϛ)(h1:rowAt w O b)(R:rowAt w P d)(l1:b.length<=χ)(l2:d.length<=χ):
 η 175 #[vS O b.length c1,vS P d.length c2,.func (.func 176) #[] #[]] w (θ w (vI (B5 b d))):=by
 obtain⟨r,K⟩:∃n,b.length=n:=⟨_,rfl⟩;obtain⟨B,L⟩:∃n,d.length=n:=⟨_,rfl⟩;have g:=hV0 K;have j:=hV0 L;rw[K]at l1⊢;rw[L]at l2⊢;clear K L;go_enter func175,ntmps175;go_wp2
 go_loopw [13] (λi wr=> ∃k:Nat,k<=r/\k<=B/\i=vI k/\Ϟ w wr/\(∀i,i<k->Jd (b.getD i ϰ) (d.getD i ϰ)=0)) (λi _=>r - (intOf i).toNat)
 case atStart=>exact⟨0,Nat.zero_le _,Nat.zero_le _,rfl,bR,λi J=>absurd J (Nat.not_lt_zero i)⟩
 case round=>
  obtain⟨k,T,U,rfl,f,S⟩:=hrel;have C:=hV0 S;clear S;by_cases V:k<r
  ·obtain⟨b1,o1,e1,x1,x2,x3⟩:=h1 k (by rw[g.o];exact V);subst e1;have N:=cLz f x1;have Z:=cLz f x2;have q3:=cLz f x3;clear x1 x2 x3 h1;obtain⟨⟨p,t,z⟩,H⟩:∃c,b.getD k ϰ=c:=⟨_,rfl⟩;rw[H]at N Z q3;have D:=hV0 H;clear H;dsimp only at N Z q3;have i1:(0:Int)<=(k:Int):=ϟ;have i2:(k:Int)<(r:Int):=ϟ;have j1:=bLt _ _ N;by_cases W:k<B
   ·obtain⟨b2,o2,e2,y1,y2,y3⟩:=R k (by rw[j.o];exact W);subst e2;have M:=cLz f y1;have X:=cLz f y2;have Y:=cLz f y3;clear y1 y2 y3 R;obtain⟨⟨q,u,A⟩,I⟩:∃c,d.getD k ϰ=c:=⟨_,rfl⟩;rw[I]at M X Y;have E:=hV0 I;clear I;dsimp only at M X Y;have j2:=bLt _ _ M;have i3:(k:Int)<(B:Int):=ϟ;by_cases G:(Qs p t z q u A==0)=true
    ·have m:ϝ (Jd (b.getD k ϰ) (d.getD k ϰ)=0):=by
      show Jd (b.getD k ϰ) (d.getD k ϰ)=0;rw[D.o,E.o];exact(show Qs p t z q u A=0 by simpa using G)
     go_wp2_with (go_at_call 176;refine(LK _ _ _ _ _ _ _).mono ?_;rintro e w1 ⟨rfl,F⟩);go_roundw
     case rel=>exact⟨k+1,ϟ,ϟ,by go_num,((f.alloc f.size _).alloc (by have:=f.size;simp;omega) _).trans (F.mono (by have:=f.size;simp;omega)),λi J=>by
      rcases Nat.lt_succ_iff_lt_or_eq.1 J with h|h
      ·exact C.o i h
      ·rw[h];exact m.o⟩
     case measure=>simp[intOf];omega
    ·have m:ϝ (B5 b d=Qs p t z q u A):=by
      show B5 b d=Qs p t z q u A;rw[T8 b d k (by rw[g.o];exact V) (by rw[j.o];exact W) C.o (by rw[D.o,E.o];exact(show¬Qs p t z q u A=0 by simpa using G)),D.o,E.o];rfl
     have aa:(Qs p t z q u A==0)=false:=by simpa using G
     go_wp2_with (go_at_call 176;refine(LK _ _ _ _ _ _ _).mono ?_;rintro e w1 ⟨rfl,F⟩);go_ret;exact⟨Af (by rw[m.o]),((f.alloc f.size _).alloc (by have:=f.size;simp;omega) _).trans (F.mono (by have:=f.size;simp;omega))⟩
   ·have m:ϝ (B5 b d=1):=by
     show B5 b d=1;rw[LH b d k (by rw[g.o];exact T) (by rw[j.o];exact U) C.o (by rw[g.o,j.o];omega),g.o,j.o];unfold Dl;rw[if_neg ϟ,if_pos ϟ]
    go_wp2;go_ret;exact⟨Af (by rw[m.o]),f.alloc f.size _⟩
  ·have m:ϝ (B5 b d=Dl r B):=by
    show B5 b d=Dl r B;rw[LH b d k (by rw[g.o];exact T) (by rw[j.o];exact U) C.o (by rw[g.o,j.o];omega),g.o,j.o]
   go_wp2
   all_goals
    go_ret;exact⟨Af (by rw[m.o];unfold Dl;omega),f⟩
theorem YV(d f:Ϝ)(g h:Nat)(b c:List Cel)(w:ϛ)(h1:rowAt w d b)(k:rowAt w f c)(p:b.length<=χ)(q:c.length<=χ):
 η 130 #[vS d b.length g,vS f c.length h] w (θ w (vI (B5 b c))):=by
 obtain⟨r,i⟩:∃n,b.length=n:=⟨_,rfl⟩;obtain⟨t,j⟩:∃n,c.length=n:=⟨_,rfl⟩;have H:=Rl d f g h b c w h1 k p q;rw[i,j]at H⊢;clear i j;go_enter func130,ntmps130;go_wp2_with (go_at_call 175;refine H.mono ?_;rintro e u ⟨rfl,m⟩);go_ret;exact⟨rfl,m⟩
theorem Tryz.info5:(Tryz.prog.info? 5).map (λi=>(i.zero,i.size,i.bytes))=some (some (.int .u8 0),1,1):=Ϣ
def Gy(b:UInt8):Value:=.int .u8 (b.toNat:Int)
def ownB(w:World)(base:Nat)(v:Value)(l:List UInt8):Prop:=w.ownsRow base 5 1 v l.length (l.map Gy)
def DJ(u:Nat)(j:Nat):UInt8:=UInt8.ofNat (u/2 ^ (56 - 8 * j))
def be8(u:Nat)(j:Nat):List UInt8:=(List.range j).map (DJ u)
theorem BK(k:o.guard=none)(s x:Operand)
 (n:o.op= .call {callee:=.builtin .append,args:=#[s,x],argTypes:=#[204,204]}) (base:Nat) (v:Value) (l:List UInt8) (q:a.eval s=v) (c:ϛ)
 (p:ownB c base v l) (X:Value) (b:UInt8) (j:X=Gy b) (B:Nat) (i:c.heap.size=B) (r:a.eval x=vS (τ B) 1 1) (E:l.length<=2000000) (D:base<=c.heap.size)
 (h:∀d w',ownB w' base d (l++[b])->(c.alloc (.cells #[X] 5)).grownBy w' v.ownBlock->wpList Tryz.prog ops Q rest (a.put o.dst d) w'):
 wpList Tryz.prog ops Q (o::rest) a (ξ c #[X] 5):=by
 subst j;subst i;obtain⟨C,m,t,z,A⟩:=info_parts Tryz.info5;refine wpList_append_own _ k s x 204 n base 5 C (.int .u8 0) 1 1 underlying204 m t z A rfl Ϡ v l.length (l.map Gy) q
  (World.ownsRow.alloc p _) ⟨c,0,none⟩ 1 1 [Gy b] r rfl (cell_one_new _ _ _) (by intro u e;simp at e;subst e;rfl) ϩ ϟ Ϥ ?_
 intro d w' f g _;refine h d w' ?_ g;unfold ownB;rw[lAp,map_append];exact f
theorem AV{b:ϛ}{o:Obj}(c:Below base w b)(h0:base<=b.heap.size)(f:ownB b base v l)(d:(b.alloc o).grownBy w' v.ownBlock):Below base w w':=
 (c.alloc h0 o).grown d Ϥ (λk e=>(World.ownsRow.lt f k e).1)
theorem OJ(u j:Nat):(.int .u8 ((u:Int)/2 ^ (56 - 8 * j) % 256):Value)=Gy (DJ u j):=by
 unfold Gy DJ;rw[UInt8.toNat_ofNat']
 congr 1
theorem Rm(u j:Nat):be8 u (j+1)=be8 u j++[DJ u j]:=by
 unfold be8;rw[range_succ,map_append];rfl
theorem Ey(u j:Nat):(be8 u j).length=j:=by simp[be8]
theorem Mi(m:Nat)(h:m<2 ^ 63):m ^^^ 2 ^ 63=2 ^ 63+m:=by
 apply Nat.eq_of_testBit_eq;intro i;rw[Nat.testBit_xor];by_cases b:i<63
 ·rw[Nat.testBit_two_pow_add_gt b,Nat.testBit_two_pow_of_ne ϟ];simp
 ·by_cases c:i=63
  ·subst c;rw[Nat.testBit_two_pow_add_eq,Nat.testBit_two_pow_self,Nat.testBit_lt_two_pow h];rfl
  ·have d:2 ^ 64<=2 ^ i:=Nat.pow_le_pow_right ϟ ϟ;rw[Nat.testBit_lt_two_pow (Nat.lt_of_lt_of_le h ϟ),Nat.testBit_two_pow_of_ne ϟ,Nat.testBit_lt_two_pow (Nat.lt_of_lt_of_le ϟ d)];rfl
theorem M9(m:Nat)(h:2 ^ 63<=m)(b:m<2 ^ 64):m ^^^ 2 ^ 63=m - 2 ^ 63:=by
 have e:=Mi (m - 2 ^ 63) ϟ;have:m=(m - 2 ^ 63) ^^^ 2 ^ 63:=by rw[e];omega
 rw[this,Nat.xor_assoc,Nat.xor_self,Nat.xor_zero,<-this]
theorem Rn(n:Int)(b: -9223372036854775808<=n)(c:n<=9223372036854775807):
 (n % 18446744073709551616).toNat ^^^ 9223372036854775808=(n+9223372036854775808).toNat:=by
 by_cases h:0<=n
 ·have e:n % 18446744073709551616=n:=Int.emod_eq_of_lt h ϟ;rw[e];have:=Mi n.toNat ϟ;rw[show(2:Nat) ^ 63=9223372036854775808 by decide]at this;rw[this];omega
 ·have e:n % 18446744073709551616=n+18446744073709551616:=ϟ;rw[e];have:=M9 (n+18446744073709551616).toNat ϟ ϟ;rw[show(2:Nat) ^ 63=9223372036854775808 by decide]at this;rw[this];omega
theorem Vp(x:Int):IntKind.u64.wrap x=x % 18446744073709551616:=by
 simp[IntKind.wrap,IntKind.signed,IntKind.bits]
theorem YW(n:Int)(d: -9223372036854775808<=n)(e:n<=9223372036854775807):
 bits BinOp.xor IntKind.u64 (IntKind.u64.wrap n) 9223372036854775808=(((n+9223372036854775808).toNat:Nat):Int):=by
 unfold bits;simp only[Vp];rw[BitVec.toNat_xor];have b:(BitVec.ofInt IntKind.u64.bits (n % 18446744073709551616)).toNat=(n % 18446744073709551616).toNat:=by
  rw[BitVec.toNat_ofInt];show((n % 18446744073709551616) % 18446744073709551616).toNat=_;rw[Int.emod_emod_of_dvd _ (Int.dvd_refl _)]
 have c:(BitVec.ofInt IntKind.u64.bits 9223372036854775808).toNat=9223372036854775808:=by
  rw[BitVec.toNat_ofInt];rfl
 rw[b,c,Rn n d e];omega
theorem WV(n:Int)(d: -9223372036854775808<=n)(e:n<=9223372036854775807):
 IntKind.u64.wrap (bits BinOp.xor IntKind.i64 n (-9223372036854775808))=(((n+9223372036854775808).toNat:Nat):Int):=by
 unfold bits;simp only[Vp];rw[BitVec.toNat_xor];have b:(BitVec.ofInt IntKind.i64.bits n).toNat=(n % 18446744073709551616).toNat:=by
  rw[BitVec.toNat_ofInt];rfl
 have c:(BitVec.ofInt IntKind.i64.bits (-9223372036854775808)).toNat=9223372036854775808:=by
  rw[BitVec.toNat_ofInt];rfl
 rw[b,c,Rn n d e];simp only[IntKind.wrap,IntKind.signed,IntKind.bits];simp;split<;>omega
theorem On(base:Nat)(v:Value)(l:List UInt8)(n:Int)(w:ϛ)(q:base<=w.heap.size)(h:ownB w base v l)(D:l.length<=1000000)
 (A: -9223372036854775808<=n) (B:n<=9223372036854775807):
 η 193 #[v,vI n] w λe w'=> ∃f,e= .returned f/\ownB w' base f (l++be8 (n+9223372036854775808).toNat 8)/\Below base w w':=by
 have z:=YW n A B;obtain⟨u,d⟩:∃u,(n+9223372036854775808).toNat=u:=⟨_,rfl⟩;rw[d]at z;have m:=hV0 d;have G:u<=18446744073709551615:=ϟ;clear d;go_enter func193,ntmps193;go_wp2
 go_loopw [0,6] (λv i wr=> ∃j:Nat,j<=8/\i=vI (56 - 8 * (j:Int))/\ownB wr base v (l++be8 u j)/\Below base w wr) (λ_ i _=>(intOf i+8).toNat)
 case atStart=>exact⟨0,ϟ,rfl,by simpa[be8]using h,bR⟩
 case round=>
  obtain⟨j,C,rfl,k,c⟩:=hrel;have E:=Ey u j;have g:base<=wr.heap.size:=Nat.le_trans q c.size;have b:=hV0 k;clear h k;by_cases F:j<8
  ·go_wp2_with (at_builtin;refine BK rfl (.tmp 14) (.tmp 19) rfl base _ (l++be8 u j) rfl _ b.o _ (DJ u j) (OJ u j) _ rfl rfl (by rw[lAp,Ey];omega) g ?_;intro f H t r);go_roundw
   case rel=>exact⟨j+1,ϟ,by go_num,by rw[Rm,<-append_assoc];exact t,AV c g b.o r⟩
   case measure=>simp[intOf];omega
  ·have p:j=8:=ϟ;subst p;go_wp2;go_ret;exact⟨_,rfl,by rw[m.o];exact b.o,c⟩
theorem T9(i:o.guard=none)(s x:Operand)
 (k:o.op= .call {callee:=.builtin .append,args:=#[s,x],argTypes:=#[204,204]}) (base:Nat) (v:Value) (l:List UInt8) (n:a.eval s=v) (b:ϛ)
 (m:ownB b base v l) (B:Nat) (g:b.heap.size=B) (p:a.eval x=vS (τ B) 2 2) (C:l.length<=2000000) (A:base<=b.heap.size)
 (h:∀c w',ownB w' base c (l++[0,1])->(b.alloc (.cells #[.int .u8 0,.int .u8 1] 5)).grownBy w' v.ownBlock->wpList Tryz.prog ops Q rest (a.put o.dst c) w'):
 wpList Tryz.prog ops Q (o::rest) a (ξ b #[.int .u8 0,.int .u8 1] 5):=by
 subst g;obtain⟨z,j,q,r,t⟩:=info_parts Tryz.info5;refine wpList_append_own _ i s x 204 k base 5 z (.int .u8 0) 1 1 underlying204 j q r t rfl Ϡ v l.length (l.map Gy) n
  (World.ownsRow.alloc m _) ⟨b,0,none⟩ 2 2 [.int .u8 0,.int .u8 1] p rfl (cell_two_new _ _ _ _) (by intro u d;simp at d;rcases d with rfl|rfl<;>rfl) ϩ ϟ Ϥ ?_
 intro c w' e f _;refine h c w' ?_ f;unfold ownB;rw[lAp,map_append];exact e
def Bv(l:List UInt8):List UInt8:=l.flatMap λb=>if b=0 then [0,255]else [b]
theorem MA(l:List UInt8):(Bv l).length<=2 * l.length:=by
 induction l with
 |nil=>simp[Bv]
 |cons b r ih=>
  have:Bv (b::r)=(if b=0 then [0,255]else [b])++Bv r:=rfl;rw[this,lAp,length_cons];split<;>simp<;>omega
theorem I8(l:List UInt8)(b:UInt8):Bv (l++[b])=Bv l++(if b=0 then [0,255]else [b]):=by
 unfold Bv;rw[flatMap_append];simp
theorem Eo(s:ByteArray)(k:Nat)(h:k<s.size):s.data.toList.take (k+1)=s.data.toList.take k++[s[k]]:=by
 rw[take_succ_eq_append_getElem (by simpa using h)];rfl
theorem byte_zero(b:UInt8):((b.toNat:Int)==0)=decide (b=0):=by
 rw[Bool.eq_iff_iff,beq_iff_eq,decide_eq_true_iff,<-UInt8.toNat_inj];simp
theorem byte_of{b c:UInt8}(h:b=c):(.int .u8 (b.toNat:Int):Value)=Gy c:=by rw[h];rfl
theorem MC(base:Nat)(v:Value)(l:List UInt8)(s:ByteArray)(w:ϛ)(C:base<=w.heap.size)(r:ownB w base v l)(K:l.length<=1000000)(L:s.size<=64):
 η 194 #[v,.string s] w λe w'=> ∃g,e= .returned g/\ownB w' base g (l++Bv s.data.toList++[0,1])/\Below base w w':=by
 go_enter func194,ntmps194;go_wp2
 go_loopw [0,8] (λv i wr=> ∃k:Nat,k<=s.size/\i=vI k/\ownB wr base v (l++Bv (s.data.toList.take k))/\Below base w wr) (λ_ i _=>s.size - (intOf i).toNat)
 case atStart=>exact⟨0,ϟ,rfl,by simpa[Bv]using r,bR⟩
 case round=>
  obtain⟨k,J,rfl,t,n⟩:=hrel;have q:(l++Bv (s.data.toList.take k)).length<=1000200:=by
   have H:=MA (s.data.toList.take k);have I:(s.data.toList.take k).length<=k:=length_take_le _ _;rw[lAp];omega
  have b:base<=wr.heap.size:=Nat.le_trans C n.size;have c:=hV0 t;have j:=hV0 q;clear r t q;by_cases E:k<s.size
  ·have p:ϝ (Bv (s.data.toList.take (k+1))=Bv (s.data.toList.take k)++(if s[k]=0 then [0,255]else [s[k]])):=by
    show Bv (s.data.toList.take (k+1))=_;rw[Eo s k E,I8]
   by_cases u:((s[k].toNat:Int)==0)=true
   ·have z:s[k]=0:=of_decide_eq_true ((byte_zero s[k]).symm.trans u);have m:=hV0 z;clear z;go_wp2_with (first
     |(at_builtin;refine BK rfl (.tmp 11) (.tmp 15) rfl base _ (l++Bv (s.data.toList.take k)) rfl _ c.o _ 0 (byte_of m.o) _ rfl rfl (by have:=j.o;omega) b ?_;intro g A f d)
     |(at_builtin;refine BK rfl (.tmp 21) (.tmp 22) rfl base _ (l++Bv (s.data.toList.take k)++[0]) rfl _ f _ 255 rfl _ rfl rfl (by have:=j.o;rw[lAp];simp only[length_cons,length_nil];omega) (Nat.le_trans b (AV bR b c.o d).size) ?_;intro M N F D))
    go_roundw
    case rel=>exact⟨k+1,ϟ,by go_num,by rw[p.o,if_pos m.o];simpa[append_assoc]using F,AV (AV n b c.o d) (Nat.le_trans b (AV bR b c.o d).size) f D⟩
    case measure=>simp[intOf];omega
   ·have G:((s[k].toNat:Int)==0)=false:=by simpa using u
    have m:ϝ (¬s[k]=0):=of_decide_eq_false ((byte_zero s[k]).symm.trans G);go_wp2_with (at_builtin;refine BK rfl (.tmp 11) (.tmp 15) rfl base _ (l++Bv (s.data.toList.take k)) rfl _ c.o _ s[k] rfl _ rfl rfl (by have:=j.o;omega) b ?_;intro g A f d);go_roundw
    case rel=>exact⟨k+1,ϟ,by go_num,by rw[p.o,if_neg m.o];simpa[append_assoc]using f,AV n b c.o d⟩
    case measure=>simp[intOf];omega
  ·have B:ϝ (s.data.toList.take k=s.data.toList):=take_of_length_le Ϥ;go_wp2_with (at_builtin;refine T9 rfl (.tmp 25) (.tmp 26) rfl base _ (l++Bv (s.data.toList.take k)) rfl _ c.o _ rfl rfl (by have:=j.o;omega) b ?_;intro g A f d);go_ret;exact⟨_,rfl,by have h:=f;rw[B.o]at h;exact h,AV n b c.o d⟩
def CS(c:Cel):List UInt8:=
 if c.k=0 then [0]else if c.k=1 then [1,UInt8.ofNat c.n.toNat]else if c.k=2 then 2::be8 (c.n+9223372036854775808).toNat 8 else 3::(Bv c.s.data.toList++[0,1])
def Cel.ok(c:Cel):Prop:=chk c.k c.n c.s=0
theorem Fy{k n:Int}{s:ByteArray}(h:chk k n s=0):
 s.size<=64/\((k=0/\n=0/\s.size=0)\/(k=1/\n=0/\s.size=0)\/(k=1/\n=1/\s.size=0)\/(k=2/\s.size=0)\/(k=3/\n=0)):=by
 unfold chk at h;split at h
 ·omega
 ·split at h
  ·omega
  ·split at h
   ·omega
   ·omega
theorem CC(h:ownB w base v l)(o:Obj):ownB (w.alloc o) base v l:=World.ownsRow.alloc h o
theorem CE{c:ϛ}(f:ownB w base v l){b g:Obj}(e:((w.alloc b).alloc g).grownBy c v.ownBlock)(j:Nat){x:Value}
 (d:Δ (w.alloc b) w j x):Δ c w j x:=by
 refine e.cell ?_ ?_
 ·rw[World.cell?_alloc_lt]
  ·exact d
  ·simp
 ·intro h;have:=(World.ownsRow.lt f w.heap.size h.symm).2;omega
theorem MD(base:Nat)(v:Value)(l:List UInt8)(k n:Int)(s:ByteArray)(w:ϛ)(h:base<=w.heap.size)(c:ownB w base v l)(I:l.length<=900000)
 (G: -9223372036854775808<=n) (H:n<=9223372036854775807) (C:chk k n s=0):
 η 158 #[v,.agg #[vI k,vI n,.string s]] w λe w'=> ∃D,e= .returned D/\ownB w' base D (l++CS ⟨k,n,s⟩)/\Below base w w':=by
 obtain⟨F,E⟩:=Fy C;clear C;rcases E with⟨rfl,rfl,z⟩|⟨rfl,rfl,z⟩|⟨rfl,rfl,z⟩|⟨rfl,z⟩|⟨rfl,rfl⟩
 ·go_enter func158,ntmps158;go_wp2_with (at_builtin;refine BK rfl (.tmp 5) (.tmp 9) rfl base v l rfl _ (CC c _) _ 0 rfl (w.heap.size+1) ϡ rfl ϟ Ϥ ?_;intro j f g b;have p:=CE (x:=vI 0) c b 0 ϣ;have q:=CE (x:=vI 0) c b 1 ϣ;have r:=CE (x:=.string s) c b 2 ϣ;have d:=AV ((Below.refl base w).alloc h _) Ϥ (CC c _) b;have i:base<=f.heap.size:=Nat.le_trans h d.size;clear b);go_ret;exact⟨_,rfl,g,d⟩
 ·go_enter func158,ntmps158;go_wp2_with (first
   |(at_builtin;refine BK rfl (.tmp 5) (.tmp 9) rfl base v l rfl _ (CC c _) _ 1 rfl (w.heap.size+1) ϡ rfl ϟ Ϥ ?_;intro j f g b;have p:=CE (x:=vI 1) c b 0 ϣ;have q:=CE (x:=vI 0) c b 1 ϣ;have r:=CE (x:=.string s) c b 2 ϣ;have d:=AV ((Below.refl base w).alloc h _) Ϥ (CC c _) b;have i:base<=f.heap.size:=Nat.le_trans h d.size;clear b)
   |(at_builtin;refine BK rfl (.tmp 15) (.tmp 19) rfl base j (l++[1]) rfl _ g _ 0 rfl f.heap.size rfl rfl Ϥ i ?_;intro A B m u))
  go_ret;exact⟨_,rfl,by simpa[CS,append_assoc]using m,AV d i g u⟩
 ·go_enter func158,ntmps158;go_wp2_with (first
   |(at_builtin;refine BK rfl (.tmp 5) (.tmp 9) rfl base v l rfl _ (CC c _) _ 1 rfl (w.heap.size+1) ϡ rfl ϟ Ϥ ?_;intro j f g b;have p:=CE (x:=vI 1) c b 0 ϣ;have q:=CE (x:=vI 1) c b 1 ϣ;have r:=CE (x:=.string s) c b 2 ϣ;have d:=AV ((Below.refl base w).alloc h _) Ϥ (CC c _) b;have i:base<=f.heap.size:=Nat.le_trans h d.size;clear b)
   |(at_builtin;refine BK rfl (.tmp 15) (.tmp 19) rfl base j (l++[1]) rfl _ g _ 1 rfl f.heap.size rfl rfl Ϥ i ?_;intro A B m u))
  go_ret;exact⟨_,rfl,by simpa[CS,append_assoc]using m,AV d i g u⟩
 ·go_enter func158,ntmps158;go_wp2_with (first
   |(at_builtin;refine BK rfl (.tmp 5) (.tmp 9) rfl base v l rfl _ (CC c _) _ 2 rfl (w.heap.size+1) ϡ rfl ϟ Ϥ ?_;intro j f g b;have p:=CE (x:=vI 2) c b 0 ϣ;have q:=CE (x:=vI n) c b 1 ϣ;have r:=CE (x:=.string s) c b 2 ϣ;have d:=AV ((Below.refl base w).alloc h _) Ϥ (CC c _) b;have i:base<=f.heap.size:=Nat.le_trans h d.size;clear b)
   |(go_at_call 193;refine(On base j (l++[2]) n f i g Ϥ G H).mono ?_;rintro e B ⟨A,rfl,m,t⟩))
  go_ret;exact⟨_,rfl,by simpa[CS,append_assoc]using m,d.trans t⟩
 ·go_enter func158,ntmps158;go_wp2_with (first
   |(at_builtin;refine BK rfl (.tmp 5) (.tmp 9) rfl base v l rfl _ (CC c _) _ 3 rfl (w.heap.size+1) ϡ rfl ϟ Ϥ ?_;intro j f g b;have p:=CE (x:=vI 3) c b 0 ϣ;have q:=CE (x:=vI 0) c b 1 ϣ;have r:=CE (x:=.string s) c b 2 ϣ;have d:=AV ((Below.refl base w).alloc h _) Ϥ (CC c _) b;have i:base<=f.heap.size:=Nat.le_trans h d.size;clear b)
   |(go_at_call 194;refine(MC base j (l++[3]) s f i g Ϥ F).mono ?_;rintro e B ⟨A,rfl,m,t⟩))
  go_ret;exact⟨_,rfl,by simpa[CS,append_assoc]using m,d.trans t⟩
def encR(r:List Cel):List UInt8:=r.flatMap CS
def EA:List Cel->Int
 |[]=>0
 |c::r=>if chk c.k c.n c.s=0 then EA r else chk c.k c.n c.s
def A3(r:List Cel):Int:=if 8<r.length then 2 else EA r
theorem OL(r:List Cel)(k:Nat)(h:∀i,i<k->((r.getD i ϰ).ok)):EA r=EA (r.drop k):=by
 induction k generalizing r with
 |zero=>rfl
 |succ k ih=>
  match r with
  |[]=>rfl
  |c::r=>
   have b:chk c.k c.n c.s=0:=h 0 ϟ;rw[EA,if_pos b,drop_succ_cons];exact ih r (λi d=>h (i+1) ϟ)
theorem Ro(c:Cel)(h:c.ok):(CS c).length<=131:=by
 have b:=(Fy h).1;unfold CS;split
 ·simp
 ·split
  ·simp
  ·split
   ·simp[Ey]
   ·have:=MA c.s.data.toList;simp only[length_cons,lAp,length_nil];have e:c.s.data.toList.length=c.s.size:=Array.length_toList;omega
theorem Hz(r:List Cel)(h:∀c∈r,c.ok):(encR r).length<=131 * r.length:=by
 induction r with
 |nil=>simp[encR]
 |cons c r ih=>
  have e:encR (c::r)=CS c++encR r:=rfl;have d:=Ro c (h c (mem_cons_self ..));have f:=ih (λx b=>h x (mem_cons_of_mem _ b));rw[e,lAp,length_cons];omega
theorem Li(r:List Cel)(c:Cel):encR (r++[c])=encR r++CS c:=by
 unfold encR;rw[flatMap_append];simp
theorem Lj(r:List Cel)(k:Nat)(h:k<r.length):r.take (k+1)=r.take k++[r.getD k ϰ]:=by
 rw[take_succ_eq_append_getElem h];simp[gDe,h]
theorem ME(h:ownB w base v l):(convert 204 9 v).run Tryz.prog w= .ok (.string ⟨l.toArray⟩) w:=by
 rcases h.2 with⟨rfl,d⟩|⟨g,c,f,rfl,i,e,k,j,m,b⟩
 ·have:l=[]:=eq_nil_of_length_eq_zero d;subst this;exact Lib.run_convert_nil_bytes w 204 9 5 0 underlying204 underlying5 underlying9
 ·refine run_convert_bytes_back w 204 9 5 ⟨g,0,none⟩ c l underlying204 underlying5 underlying9 ?_;refine Lib.bytes_of_row e ?_;rw[Nat.mul_one]at b;rw[b];simp[Lib.byteCells,Gy]
theorem TA(h:ownB w base v l)(k:Ϟ w w'):ownB w' base v l:=by
 refine⟨h.1,?_⟩;rcases h.2 with f|⟨g,d,e,n,i,b,j⟩
 ·exact .inl f
 ·have c:g<w.heap.size:=by
   rcases Nat.lt_or_ge g w.heap.size with c|m
   ·exact c
   ·rw[Array.getElem?_eq_none m]at b;cases b
  exact .inr ⟨g,d,e,n,i,by rw[k.block g c];exact b,j⟩
def Cj(r:List Cel):Prop:=∀c∈r,(-9223372036854775808<=c.n/\c.n<=9223372036854775807)/\c.s.size<=maxLen
theorem YX{r:List Cel}(h:Cj r)(k:Nat)(b:k<r.length):(-9223372036854775808<=(r.getD k ϰ).n/\(r.getD k ϰ).n<=9223372036854775807)/\(r.getD k ϰ).s.size<=maxLen:=
 h _ (by simp[gDe,b])
theorem PY(r:List Cel)(k:Nat)(b:k<r.length)(h:∀i,i<k->((r.getD i ϰ).ok))(c:¬(r.getD k ϰ).ok):EA r=chk (r.getD k ϰ).k (r.getD k ϰ).n (r.getD k ϰ).s:=by
 rw[OL r k h,Fx r k b,EA];exact if_neg c
theorem MF(r:List Cel)(k:Nat)(b:r.length<=k)(h:∀i,i<k->((r.getD i ϰ).ok)):EA r=0:=by
 rw[OL r k h,drop_of_length_le b];rfl
theorem Lk{r:List Cel}(h:EA r=0):∀c∈r,c.ok:=by
 induction r with
 |nil=>intro c b;cases b
 |cons a r ih=>
  rw[EA]at h;split at h
  ·rename_i d;intro c b;rcases mem_cons.1 b with rfl|b
   ·exact d
   ·exact ih h c b
  ·rename_i d;exact absurd h d
theorem AaW(r:List Cel)(k:Nat)(e:k<=r.length)(h:∀i,i<k->((r.getD i ϰ).ok)):∀c∈r.take k,c.ok:=by
 intro c b;obtain⟨i,d,rfl⟩:=getElem_of_mem b;rw[length_take]at d;have:=h i ϟ;rw[getElem_take];simpa[gDe,show i<r.length by omega]using this
def FV(r:List Cel):ByteArray:=⟨(if A3 r=0 then encR r else []).toArray⟩
theorem Ac9{x y:ByteArray}{a b:Int}(h1:x=y)(c:a=b):Ending.returned (.tuple #[.string x,vI a])= .returned (.tuple #[.string y,vI b]):=by rw[h1,c]
theorem Mj(a:Ϝ)(cap:Nat)(r:List Cel)(w:ϛ)(M:rowAt w a r)(ad:Cj r)(hl:r.length<=χ):
 η 109 #[vS a r.length cap] w (θ w (.tuple #[.string (FV r),vI (A3 r)])):=by
 obtain⟨n,F⟩:∃n,r.length=n:=⟨_,rfl⟩;have b:=hV0 F;rw[F]at hl⊢;clear F;by_cases K:8<n
 ·have q:ϝ (A3 r=2):=by
   show A3 r=2;unfold A3;rw[if_pos (by rw[b.o];exact K)]
  go_enter func109,ntmps109;go_wp2
  go_ret2
  exact⟨Ac9 (by unfold FV;rw[q.o];rfl) q.o.symm,bR⟩
 ·have q:ϝ (A3 r=EA r):=by
   show A3 r=EA r;unfold A3;rw[if_neg (by rw[b.o];exact K)]
  go_enter func109,ntmps109;go_wp2
  go_loopw [4,13] (λv i wr=> ∃k:Nat,k<=n/\i=vI k/\ownB wr w.heap.size v (encR (r.take k))/\Ϟ w wr/\(∀i,i<k->((r.getD i ϰ).ok))) (λ_ i _=>n - (intOf i).toNat)
  case atStart=>exact⟨0,ϟ,rfl,World.ownsRow_nil _ _ _ _,bR,λi E=>absurd E (Nat.not_lt_zero i)⟩
  case round=>
   obtain⟨k,hk,rfl,L,p,C⟩:=hrel;have B:=hV0 C;have J:=hV0 L;have Y:ϝ ((encR (r.take k)).length<=2000):=by
    have h1:=Hz (r.take k) (AaW r k (by rw[b.o];exact hk) C);have h2:(r.take k).length<=k:=length_take_le _ _;show _<=2000;omega
   clear C L;by_cases A:k<n
   ·obtain⟨b1,o1,e1,T,U,V⟩:=M k (by rw[b.o];exact A);subst e1;have G:=cLz p T;have P:=cLz p U;have R:=cLz p V;clear T U V M;have O:=YX ad k (by rw[b.o];exact A);have Z:ϝ (encR (r.take (k+1))=encR (r.take k)++CS (r.getD k ϰ)):=by
     show encR (r.take (k+1))=_;rw[Lj r k (by rw[b.o];exact A),Li]
    obtain⟨⟨d,f,g⟩,D⟩:∃c,r.getD k ϰ=c:=⟨_,rfl⟩;rw[D]at G P R O;have t:=hV0 D;clear D;obtain⟨⟨S,H⟩,I⟩:=O;dsimp only at G P R S H I;have i1:(0:Int)<=(k:Int):=ϟ;have i2:(k:Int)<(n:Int):=ϟ;have j1:=bLt _ _ G;have N:=p.size;by_cases u:(chk d f g==0)=true
    ·have j:ϝ (chk d f g=0):=by
      show chk d f g=0;simpa using u
     go_wp2_with (first
      |(go_at_call 156;refine(Ce _ _ _ _ I).mono ?_;rintro e wc ⟨rfl,m⟩;have af:=cLz m (a:=⟨wr.heap.size,0,none⟩) (v:=vI d) ϣ;have ag:=cLz m (a:=⟨wr.heap.size,1,none⟩) (v:=vI f) ϣ;have ah:=cLz m (a:=⟨wr.heap.size,2,none⟩) (v:=.string g) ϣ;have ab:=TA (CC J.o _) m;have z:=(p.alloc N _).trans (m.mono Ϥ))
      |(go_at_call 158;refine(MD w.heap.size u4 (encR (r.take k)) d f g wc z.size ab (by have:=Y.o;omega) S H j.o).mono ?_;rintro e H ⟨v2,rfl,ac,aa⟩))
     go_roundw
     case rel=>exact⟨k+1,ϟ,by go_num,by rw[Z.o,t.o];exact ac,z.trans aa,λi E=>by
      rcases Nat.lt_succ_iff_lt_or_eq.1 E with h|h
      ·exact B.o i h
      ·rw[h,t.o];exact j.o⟩
     case measure=>simp[intOf];omega
    ·have ae:(chk d f g==0)=false:=by simpa using u
     have j:ϝ (A3 r=chk d f g):=by
      show A3 r=chk d f g;rw[q.o,PY r k (by rw[b.o];exact A) B.o (by rw[t.o];intro h;exact u (beq_iff_eq.2 h)),t.o]
     have W:ϝ (¬chk d f g=0):=λh=>u (beq_iff_eq.2 h);go_wp2_with (go_at_call 156;refine(Ce _ _ _ _ I).mono ?_;rintro e wc ⟨rfl,m⟩;have z:=(p.alloc N _).trans (m.mono Ϥ))
     go_ret2
     exact⟨Ac9 (by unfold FV;rw[if_neg (by rw[j.o];exact W.o)]) j.o.symm,z⟩
   ·have j:ϝ (A3 r=0):=by
     show A3 r=0;rw[q.o,MF r k (by rw[b.o];omega) B.o]
    have X:ϝ (r.take k=r):=take_of_length_le (by rw[b.o];omega);have ai:=ME J.o;go_wp2
    go_ret2
    exact⟨Ac9 (by unfold FV;rw[if_pos j.o,X.o]) j.o.symm,p⟩
theorem Dt(a:Ϝ)(cap:Nat)(r:List Cel)(w:ϛ)(H:rowAt w a r)(T:Cj r)(S:r.length<=χ):
 η 83 #[vS a r.length cap] w (θ w (vI (A3 r))):=by
 obtain⟨n,D⟩:∃n,r.length=n:=⟨_,rfl⟩;have d:=hV0 D;rw[D]at S⊢;clear D;by_cases F:8<n
 ·have p:ϝ (A3 r=2):=by
   show A3 r=2;unfold A3;rw[if_pos (by rw[d.o];exact F)]
  go_enter func83,ntmps83;go_wp2;go_ret;exact⟨Af p.o.symm,bR⟩
 ·have p:ϝ (A3 r=EA r):=by
   show A3 r=EA r;unfold A3;rw[if_neg (by rw[d.o];exact F)]
  go_enter func83,ntmps83;go_wp2
  go_loopw [3] (λi wr=> ∃k:Nat,k<=n/\i=vI k/\Ϟ w wr/\(∀i,i<k->((r.getD i ϰ).ok))) (λi _=>n - (intOf i).toNat)
  case atStart=>exact⟨0,ϟ,rfl,bR,λi B=>absurd B (Nat.not_lt_zero i)⟩
  case round=>
   obtain⟨k,Y,rfl,b,G⟩:=hrel;have q:=hV0 G;clear G;by_cases C:k<n
   ·obtain⟨W,o1,R,N,O,P⟩:=H k (by rw[d.o];exact C);subst R;have K:=cLz b N;have L:=cLz b O;have M:=cLz b P;clear N O P H;have J:=YX T k (by rw[d.o];exact C);obtain⟨⟨f,g,j⟩,A⟩:∃c,r.getD k ϰ=c:=⟨_,rfl⟩;rw[A]at K L M J;have t:=hV0 A;clear A;obtain⟨⟨U,V⟩,E⟩:=J;dsimp only at K L M U V E;have Z:(0:Int)<=(k:Int):=ϟ;have i2:(k:Int)<(n:Int):=ϟ;have I:=b.size;by_cases z:(chk f g j==0)=true
    ·have m:ϝ (chk f g j=0):=by
      show chk f g j=0;simpa using z
     go_wp2_with (go_at_call 141;refine(F7 _ _ _ _ E).mono ?_;rintro e wc ⟨rfl,u⟩);go_roundw
     case rel=>exact⟨k+1,ϟ,by go_num,b.trans (u.mono I),λi B=>by
      rcases Nat.lt_succ_iff_lt_or_eq.1 B with h|h
      ·exact q.o i h
      ·rw[h,t.o];exact m.o⟩
     case measure=>simp[intOf];omega
    ·have X:(chk f g j==0)=false:=by simpa using z
     have m:ϝ (A3 r=chk f g j):=by
      show A3 r=chk f g j;rw[p.o,PY r k (by rw[d.o];exact C) q.o (by rw[t.o];intro h;exact z (beq_iff_eq.2 h)),t.o]
     go_wp2_with (go_at_call 141;refine(F7 _ _ _ _ E).mono ?_;rintro e wc ⟨rfl,u⟩);go_ret;exact⟨Af m.o.symm,b.trans (u.mono I)⟩
   ·have m:ϝ (A3 r=0):=by
     show A3 r=0;rw[p.o,MF r k (by rw[d.o];omega) q.o]
    go_wp2;go_ret;exact⟨Af m.o.symm,b⟩
end vl
namespace vl
variable {s : ByteArray} {x y : List UInt8}
theorem CV(b:UInt8)(x:List UInt8):Bv (b::x)=(if b=0 then [0,255]else [b])++Bv x:=rfl
theorem MG(x t tail rest:List UInt8)(h:Bv x++tail=Bv t++0::1::rest):∃f,t=x++f/\tail=Bv f++0::1::rest:=by
 induction x generalizing t with
 |nil=>exact⟨t,rfl,h⟩
 |cons b x ih=>
  rw[CV]at h
  cases t with
  |nil=>
   by_cases d:b=0
   ·rw[if_pos d]at h;simp[Bv]at h
   ·rw[if_neg d]at h;simp[Bv]at h;exact absurd h.1 d
  |cons c t=>
   rw[CV]at h;by_cases d:b=0
   ·rw[if_pos d]at h;by_cases e:c=0
    ·rw[if_pos e]at h;have j:Bv x++tail=Bv t++0::1::rest:=by simpa using h
     obtain⟨f,g,i⟩:=ih t j;exact⟨f,by rw[d,e,g];rfl,i⟩
    ·rw[if_neg e]at h;simp at h;exact absurd h.1.symm e
   ·rw[if_neg d]at h;by_cases e:c=0
    ·rw[if_pos e]at h;simp at h;exact absurd h.1 d
    ·rw[if_neg e]at h;simp only[cons_append,nil_append,List.cons.injEq]at h;obtain⟨f,g,i⟩:=ih t h.2;exact⟨f,by rw[h.1,g];rfl,i⟩
def Br(l:List UInt8):Nat:=l.foldl (λu b=>u * 256+b.toNat) 0
theorem LI(n:Nat):(UInt8.ofNat n).toNat=n % 256:=UInt8.toNat_ofNat'
theorem Acu(u:Nat):be8 u 8=[DJ u 0,DJ u 1,DJ u 2,DJ u 3,DJ u 4,DJ u 5,DJ u 6,DJ u 7]:=rfl
theorem I9(u:Nat)(h:u<18446744073709551616):Br (be8 u 8)=u:=by
 rw[Acu];simp only[Br,foldl_cons,foldl_nil,DJ,LI];simp only[Nat.reduceMul,Nat.reduceSub,Nat.reducePow,Nat.reduceAdd];omega
theorem JK{a b:UInt8}(h:a.toNat=b.toNat):a=b:=UInt8.toNat_inj.1 h
theorem WW(l:List UInt8)(h:l.length=8):be8 (Br l) 8=l:=by
 match l,h with
 |[b0,b1,b2,b3,b4,b5,b6,b7],_=>
  have b:=b0.toNat_lt;have c:=b1.toNat_lt;have d:=b2.toNat_lt;have e:=b3.toNat_lt;have f:=b4.toNat_lt;have g:=b5.toNat_lt;have i:=b6.toNat_lt;have j:=b7.toNat_lt;rw[Acu];simp only[List.cons.injEq,and_true];refine⟨?_,?_,?_,?_,?_,?_,?_,?_⟩<;>
   (apply JK;simp only[Br,foldl_cons,foldl_nil,DJ,LI];simp only[Nat.reduceMul,Nat.reduceSub,Nat.reducePow,Nat.reduceAdd];omega)
theorem JL(l:List UInt8)(h:l.length=8):Br l<18446744073709551616:=by
 match l,h with
 |[b0,b1,b2,b3,b4,b5,b6,b7],_=>
  have b:=b0.toNat_lt;have c:=b1.toNat_lt;have d:=b2.toNat_lt;have e:=b3.toNat_lt;have f:=b4.toNat_lt;have g:=b5.toNat_lt;have i:=b6.toNat_lt;have j:=b7.toNat_lt;simp only[Br,foldl_cons,foldl_nil];omega
def Cel.wf(c:Cel):Prop:=(-9223372036854775808<=c.n/\c.n<=9223372036854775807)/\c.s.size<=maxLen
theorem Rp(h:s.size=0):s=⟨#[]⟩:=ByteArray.ext (Array.eq_empty_of_size_eq_zero h)
theorem str_eq{t:ByteArray}(h:s.data.toList=t.data.toList):s=t:=ByteArray.ext (Array.ext' h)
theorem encC_cases{c:Cel}(h:c.ok):
 (c=⟨0,0,⟨#[]⟩⟩/\CS c=[0])\/(c=⟨1,0,⟨#[]⟩⟩/\CS c=[1,0])\/(c=⟨1,1,⟨#[]⟩⟩/\CS c=[1,1])\/
 (∃n,c=⟨2,n,⟨#[]⟩⟩/\CS c=2::be8 (n+9223372036854775808).toNat 8)\/(∃s,c=⟨3,0,s⟩/\s.size<=64/\CS c=3::(Bv s.data.toList++[0,1])):=by
 obtain⟨k,n,s⟩:=c;obtain⟨e,d⟩:=Fy h;dsimp only at e d;rcases d with⟨rfl,rfl,b⟩|⟨rfl,rfl,b⟩|⟨rfl,rfl,b⟩|⟨rfl,b⟩|⟨rfl,rfl⟩
 ·rw[Rp b];exact .inl ⟨rfl,rfl⟩
 ·rw[Rp b];exact .inr (.inl ⟨rfl,rfl⟩)
 ·rw[Rp b];exact .inr (.inr (.inl ⟨rfl,rfl⟩))
 ·rw[Rp b];exact .inr (.inr (.inr (.inl ⟨n,rfl,rfl⟩)))
 ·exact .inr (.inr (.inr (.inr ⟨s,rfl,e,rfl⟩)))
theorem GW{c:Cel}(h:c.ok):CS c≠[]:=by
 rcases encC_cases h with⟨_,e⟩|⟨_,e⟩|⟨_,e⟩|⟨n,_,e⟩|⟨s,_,_,e⟩<;>rw[e]<;>simp
theorem MH{a b:List UInt8}(ha:a.length=b.length)(h:a++x=b++y):a=b/\x=y:=append_inj h ha
theorem JM{c d:Cel}(z:c.ok)(A:d.ok)(wc:c.wf)(F:d.wf)(h:CS c++x=CS d++y):c=d/\x=y:=by
 rcases encC_cases z with⟨rfl,e⟩|⟨rfl,e⟩|⟨rfl,e⟩|⟨n,rfl,e⟩|⟨s,rfl,G,e⟩<;>rcases encC_cases A with⟨rfl,g⟩|⟨rfl,g⟩|⟨rfl,g⟩|⟨m,rfl,g⟩|⟨t,rfl,H,g⟩<;>simp only[e,g,cons_append,nil_append,List.cons.injEq]at h
 all_goals try (exact⟨rfl,h.2⟩)
 all_goals try (exact⟨rfl,h.2.2⟩)
 all_goals try (exact absurd h.1 Ϡ)
 all_goals try (exact absurd h.2.1 Ϡ)
 ·obtain⟨r,u⟩:=MH (by rw[Ey,Ey]) h.2;have:=congrArg Br r;obtain⟨⟨D,E⟩,_⟩:=wc;obtain⟨⟨B,C⟩,_⟩:=F;dsimp only at D E B C;rw[I9 _ ϟ,I9 _ ϟ]at this;have e:n=m:=ϟ;exact⟨by rw[e],u⟩
 ·have q:Bv s.data.toList++0::1::x=Bv t.data.toList++0::1::y:=by simpa using h.2
  obtain⟨j,k,f⟩:=MG _ _ _ _ q;have:j=[]:=by
   cases j with
   |nil=>rfl
   |cons b j=>
    rw[CV]at f;by_cases i:b=0
    ·rw[if_pos i]at f;simp at f
    ·rw[if_neg i]at f;simp at f;exact absurd f.1.symm i
  subst this;rw[append_nil]at k;have p:x=y:=by simpa[Bv]using f
  exact⟨by rw[str_eq k],p⟩
end vl
namespace vl
variable {l tail x : List UInt8}
theorem C0{w:ϛ}{base:Nat}{v:Value}(h:ownB w base v l):∃c b,v=vS c l.length b:=by
 rcases h.2 with⟨rfl,d⟩|⟨g,b,e,rfl,_⟩
 ·exact⟨none,0,by rw[d]⟩
 ·exact⟨_,_,rfl⟩
theorem B4(s:ByteArray)(k:Nat)(h:k<s.size):s.data.toList.drop k=s[k]::s.data.toList.drop (k+1):=by
 rw[drop_eq_getElem_cons (by simpa using h)];rfl
theorem AU(s:ByteArray):s.data.toList.length=s.size:=Array.length_toList
def F5(l:List UInt8):Prop:=∀t rest,t.length<=64->l≠Bv t++0::1::rest
theorem IA(h:l=Bv x++tail)(f:∀b rest,(x++b).length<=64->tail≠Bv b++0::1::rest):F5 l:=by
 intro t rest g c;rw[h]at c;obtain⟨b,d,e⟩:=MG _ _ _ _ c;exact f b rest (by rw[<-d];exact g) e
theorem AcA(h:l=Bv x++[]):F5 l:=IA h (λb rest _ e=>by simp at e)
theorem Vq(h:l=Bv x++tail)(c:64<x.length):F5 l:=IA h (λd rest b e=>by rw[lAp]at b;omega)
theorem AaX(h:l=Bv x++[0]):F5 l:=IA h (λd rest _ e=>by
 cases d with
 |nil=>simp[Bv]at e
 |cons b d=>
  rw[CV]at e;by_cases c:b=0
  ·rw[if_pos c]at e;simp at e
  ·rw[if_neg c]at e;simp at e)
theorem YY{c:UInt8}(h:l=Bv x++0::c::tail)(h1:c≠1)(g:c≠255):F5 l:=IA h (λf rest _ e=>by
 cases f with
 |nil=>simp[Bv]at e;exact h1 e.1
 |cons b f=>
  rw[CV]at e;by_cases d:b=0
  ·rw[if_pos d]at e;simp at e;exact g e.1
  ·rw[if_neg d]at e;simp at e;exact absurd e.1.symm d)
theorem DC(b c:UInt8):((b.toNat:Int)==(c.toNat:Int))=decide (b=c):=by
 rw[Bool.eq_iff_iff,beq_iff_eq,decide_eq_true_iff,<-UInt8.toNat_inj];omega
theorem PZ(s:ByteArray)(w:ϛ)(S:s.size<=maxLen):
 η 222 #[.string s] w λe w'=>(∃B J ok,e= .returned (.tuple #[.string B,.string J,.bool ok])/\B.size<=65/\
  ((ok=true/\s.data.toList=Bv B.data.toList++0::1::J.data.toList)\/(ok=false/\F5 s.data.toList)))/\Ϟ w w':=by
 unfold maxLen at S;go_enter func222,ntmps222;go_wp2
 go_loopw [5,6] (λv i wr=> ∃(k:Nat) (t:List UInt8),k<=s.size/\i=vI k/\ownB wr w.heap.size v t/\Ϟ w wr/\t.length<=65/\s.data.toList=Bv t++s.data.toList.drop k) (λ_ i _=>s.size - (intOf i).toNat)
 case atStart=>exact⟨0,[],ϟ,rfl,World.ownsRow_nil _ _ _ _,bR,ϡ,rfl⟩
 case round=>
  obtain⟨k,t,hk,rfl,z,b,ht,G⟩:=hrel;obtain⟨X,Y,T⟩:=C0 z;subst T;have c:=hV0 z;have d:=hV0 G;have g:=b.size;clear z G;by_cases O:k<s.size
  ·by_cases Z:t.length<=64
   ·have aa:((t.length:Nat):Int)<=64:=ϟ;have p:ϝ (s.data.toList.drop k=s[k]::s.data.toList.drop (k+1)):=B4 s k O;by_cases H:((s[k].toNat:Int)==0)=true
    ·have I:s[k]=0:=of_decide_eq_true ((byte_zero s[k]).symm.trans H);have f:=hV0 I;clear I;by_cases P:k+1<s.size
     ·have K:ϝ (s.data.toList.drop (k+1)=s[k+1]::s.data.toList.drop (k+1+1)):=B4 s (k+1) P;have R:((k:Int)+1==(s.size:Int))=false:=Ϥ;have r:ϝ (s.data.toList=Bv t++0::s[k+1]::s.data.toList.drop (k+1+1)):=by
       show s.data.toList=_;have h:=d.o;rw[p.o,K.o,f.o]at h;exact h
      by_cases C:((s[k+1].toNat:Int)==1)=true
      ·have D:s[k+1]=1:=of_decide_eq_true ((DC s[k+1] 1).symm.trans C);have j:=hV0 D;clear D;have ab:=λn=>ME (w:=wr.drewN n) (base:=w.heap.size) c.o;go_wp2
       go_quiet (fail)
       go_wp2
       go_ret3
       exact⟨⟨_,_,_,rfl,by show t.toArray.size<=65;simp;omega,.inl ⟨rfl,by
        have h:=r.o;rw[j.o]at h;rw[Lib.extract_to_end];exact h⟩⟩,below_drewN b _⟩
      ·have L:((s[k+1].toNat:Int)==1)=false:=by simpa using C
       have j:ϝ (¬s[k+1]=1):=of_decide_eq_false ((DC s[k+1] 1).symm.trans L);by_cases E:((s[k+1].toNat:Int)==255)=true
       ·have F:s[k+1]=255:=of_decide_eq_true ((DC s[k+1] 255).symm.trans E);have m:=hV0 F;clear F;go_wp2_with (at_builtin;refine BK rfl (.tmp 47) (.tmp 48) rfl w.heap.size _ t rfl _ c.o _ 0 rfl _ rfl rfl ϟ g ?_;intro V W A u);go_roundw
        case rel=>exact⟨k+1+1,t++[0],ϟ,by go_num,A,AV b g c.o u,Ϥ,by
         have h:=r.o;rw[m.o]at h;rw[I8,if_pos rfl,append_assoc];exact h⟩
        case measure=>simp[intOf];omega
       ·have M:((s[k+1].toNat:Int)==255)=false:=by simpa using E
        have m:ϝ (¬s[k+1]=255):=of_decide_eq_false ((DC s[k+1] 255).symm.trans M);go_wp2
        go_ret3
        exact⟨⟨_,_,_,rfl,Nat.zero_le _,.inr ⟨rfl,YY r.o j.o m.o⟩⟩,b⟩
     ·have R:((k:Int)+1==(s.size:Int))=true:=Ϥ;have q:ϝ (s.data.toList.drop (k+1)=[]):=drop_of_length_le (by rw[AU];omega);go_wp2
      go_ret3
      exact⟨⟨_,_,_,rfl,Nat.zero_le _,.inr ⟨rfl,AaX (x:=t) (by have h:=d.o;rw[p.o,q.o,f.o]at h;exact h)⟩⟩,b⟩
    ·have U:((s[k].toNat:Int)==0)=false:=by simpa using H
     have f:ϝ (¬s[k]=0):=of_decide_eq_false ((byte_zero s[k]).symm.trans U);go_wp2_with (at_builtin;refine BK rfl (.tmp 22) (.tmp 26) rfl w.heap.size _ t rfl _ c.o _ s[k] rfl _ rfl rfl ϟ g ?_;intro V W A u);go_roundw
     case rel=>exact⟨k+1,t++[s[k]],ϟ,by go_num,A,AV b g c.o u,Ϥ,by
      have h:=d.o;rw[p.o]at h;rw[I8,if_neg f.o,append_assoc];exact h⟩
     case measure=>simp[intOf];omega
   ·have N:decide (((t.length:Nat):Int)<=64)=false:=decide_eq_false ϟ;go_wp2
    go_ret3
    exact⟨⟨_,_,_,rfl,Nat.zero_le _,.inr ⟨rfl,Vq d.o ϟ⟩⟩,b⟩
  ·have q:ϝ (s.data.toList.drop k=[]):=drop_of_length_le (by rw[AU];omega);have N:decide ((k:Int)<(s.size:Int))=false:=decide_eq_false ϟ;go_wp2
   go_ret3
   exact⟨⟨_,_,_,rfl,Nat.zero_le _,.inr ⟨rfl,AcA (x:=t) (by have h:=d.o;rw[q.o]at h;exact h)⟩⟩,b⟩
theorem MI(l:List UInt8)(b:UInt8):Br (l++[b])=Br l * 256+b.toNat:=by
 unfold Br;rw[foldl_append];rfl
theorem TB(l:List UInt8)(a:Nat):l.foldl (λu b=>u * 256+b.toNat) a+1<=(a+1) * 256 ^ l.length:=by
 induction l generalizing a with
 |nil=>simp
 |cons b l ih=>
  have c:=b.toNat_lt;rw[foldl_cons,length_cons,Nat.pow_succ];refine Nat.le_trans (ih _) ?_;rw[show(a+1) * (256 ^ l.length * 256)=((a+1) * 256) * 256 ^ l.length by rw[Nat.mul_comm (256 ^ l.length),Nat.mul_assoc]];exact Nat.mul_le_mul_right _ ϟ
theorem Ga(l:List UInt8):Br l<256 ^ l.length:=by
 have:=TB l 0;rw[Nat.zero_add,Nat.one_mul]at this;exact this
theorem YZ(u b:Nat)(c:b<256):u * 256|||b=u * 256+b:=by
 have:=Nat.shiftLeft_add_eq_or_of_lt (a:=u) (b:=b) (i:=8) (by simpa using c);rw[Nat.shiftLeft_eq]at this;exact this.symm
theorem Gb(x:Nat)(b:x<18446744073709551616):(BitVec.ofInt 64 (x:Int)).toNat=x:=by
 rw[BitVec.toNat_ofInt];show((x:Int) % 18446744073709551616).toNat=x;rw[Int.emod_eq_of_lt ϟ ϟ];rfl
theorem AaY(u b:Nat)(f:u<72057594037927936)(e:b<256):
 bits BinOp.or IntKind.u64 (IntKind.u64.wrap ((u:Int) * 256)) (IntKind.u64.wrap (b:Int))=((u * 256+b:Nat):Int):=by
 unfold bits;simp only[Vp];rw[Int.emod_eq_of_lt (a:=(u:Int) * 256) ϟ ϟ,Int.emod_eq_of_lt (a:=(b:Int)) ϟ ϟ];have c:(BitVec.ofInt IntKind.u64.bits ((u:Int) * 256)).toNat=u * 256:=by
  have:=Gb (u * 256) ϟ;rw[show((u * 256:Nat):Int)=(u:Int) * 256 by omega]at this;exact this
 have d:(BitVec.ofInt IntKind.u64.bits (b:Int)).toNat=b:=Gb b ϟ;rw[BitVec.toNat_or,c,d,YZ u b e];exact Int.emod_eq_of_lt ϟ ϟ
theorem Za(u:Nat)(d:u<18446744073709551616):wrap64 (bits BinOp.xor IntKind.u64 (u:Int) 9223372036854775808)=(u:Int) - 9223372036854775808:=by
 unfold bits;simp only[Vp];have b:(BitVec.ofInt IntKind.u64.bits (u:Int)).toNat=u:=Gb u d;have c:(BitVec.ofInt IntKind.u64.bits 9223372036854775808).toNat=9223372036854775808:=by rw[BitVec.toNat_ofInt];rfl
 rw[BitVec.toNat_xor,b,c];by_cases h:u<9223372036854775808
 ·have:=Mi u ϟ;rw[show(2:Nat) ^ 63=9223372036854775808 by decide]at this;rw[this];unfold wrap64;omega
 ·have:=M9 u ϟ ϟ;rw[show(2:Nat) ^ 63=9223372036854775808 by decide]at this;rw[this];unfold wrap64;omega
theorem Rq(s:ByteArray)(w:ϛ)(m:s.size=8):
 η 221 #[.string s] w λe w'=>e= .returned (vI ((Br s.data.toList:Int) - 9223372036854775808))/\w'=w:=by
 have r:s.size<=8:=ϟ;go_enter func221,ntmps221;go_wp2
 go_loop [3,7] (λu i=> ∃k:Nat,k<=8/\i=vI k/\u= .int .u64 (Br (s.data.toList.take k):Int)) (λ_ i=>8 - (intOf i).toNat)
 case atStart=>exact⟨0,ϟ,rfl,rfl⟩
 case round=>
  obtain⟨k,p,rfl,rfl⟩:=hrel;obtain⟨u,d⟩:∃u,Br (s.data.toList.take k)=u:=⟨_,rfl⟩;have c:=hV0 d;rw[d];clear d;by_cases q:k<8
  ·have j:k<s.size:=ϟ;have b:ϝ (u<72057594037927936):=by
    show u<72057594037927936;have h:=Ga (s.data.toList.take k);rw[c.o,length_take,AU]at h;have n:256 ^ (min k s.size)<=256 ^ 7:=Nat.pow_le_pow_right ϟ ϟ;omega
   have g:ϝ (Br (s.data.toList.take (k+1))=u * 256+s[k].toNat):=by
    show Br (s.data.toList.take (k+1))=_;rw[Eo s k j,MI,c.o]
   go_wp2
   go_round
   case rel=>exact⟨k+1,ϟ,by go_num,by rw[g.o,AaY u s[k].toNat b.o s[k].toNat_lt]⟩
   case measure=>simp[intOf];omega
  ·go_wp2;have f:ϝ (Br s.data.toList=u):=by
    show Br s.data.toList=u;rw[<-c.o,take_of_length_le (by rw[AU];omega)]
   have b:ϝ (u<18446744073709551616):=by
    show u<18446744073709551616;rw[<-f.o];exact JL _ (by rw[AU];exact m)
   go_ret;exact⟨Af (by rw[f.o,Za u b.o]),rfl⟩
end vl
end Go.Proofs.YtdohnkkbkfhphaaGreat
