import Derived.Test.YtdohnkkbkfhphaaGreatPw3
set_option linter.all false
set_option maxHeartbeats 4000000
set_option maxRecDepth 100000
open Go.ChangeShapes Go.WideShapes Go.ChangeAt Go.RowKit List
namespace Go.Proofs.YtdohnkkbkfhphaaGreat
open Go.Proofs.Tryz
namespace vl
variable {s : ByteArray} {t : List UInt8} {k : Nat} {r : List Cel}
def reads(l:List UInt8)(c:Cel)(m:Nat):Prop:=∀(d:Cel) t,d.ok->d.wf->l=CS d++t->c=d/\m=(CS d).length
def E0(s:ByteArray)(e:Ending):Prop:=∃(c:Cel) (m:Nat),e= .returned (.tuple #[.agg #[vI c.k,vI c.n,.string c.s],vI (m:Int)])/\m<=s.size/\c.wf/\reads s.data.toList c m
theorem reads_nil(c:Cel)(m:Nat):reads [] c m:=λd t a _ h=>absurd (append_eq_nil_iff.1 h.symm).1 (GW a)
theorem Ic{l:List UInt8}(h:noCell l)(c:Cel)(m:Nat):reads l c m:=λd t a b e=>absurd e (h d t a b)
theorem TY(l:List UInt8):reads (0::l) ⟨0,0,⟨#[]⟩⟩ 1:=λd t a b h=>by
 obtain⟨rfl,_⟩:=JM (c:=⟨0,0,⟨#[]⟩⟩) (x:=l) (NV _ _ _ Ϡ) a (wf0 _ _ Ϡ Ϡ) b h;exact⟨rfl,rfl⟩
theorem TZ(b:UInt8)(l:List UInt8):reads (1::b::l) ⟨1,(b.toNat:Int),⟨#[]⟩⟩ 2:=by
 by_cases a:b=0\/b=1
 ·intro d t g i h;obtain⟨f,e⟩:=SS b a;have j:=b.toNat_lt;obtain⟨rfl,_⟩:=JM (c:=⟨1,(b.toNat:Int),⟨#[]⟩⟩) (x:=l) f g (wf0 _ _ ϟ ϟ) i (by rw[e];exact h);exact⟨rfl,by rw[e];rfl⟩
 ·exact Ic (Wo (λh=>a (.inl h)) (λh=>a (.inr h))) _ _
theorem Xm(l:List UInt8)(e:8<=l.length):reads (2::l) ⟨2,(Br (l.take 8):Int) - 9223372036854775808,⟨#[]⟩⟩ 9:=λd t b f h=>by
 have g:=JL (l.take 8) (by rw[length_take];omega);obtain⟨rfl,_⟩:=JM (c:=⟨2,(Br (l.take 8):Int) - 9223372036854775808,⟨#[]⟩⟩) (x:=l.drop 8) (Aa4 _) b (wf0 _ _ ϟ ϟ) f (by rw[<-SR l e];exact h);refine⟨rfl,?_⟩;have a:CS ⟨2,(Br (l.take 8):Int) - 9223372036854775808,⟨#[]⟩⟩=2::be8 (((Br (l.take 8):Int) - 9223372036854775808)+9223372036854775808).toNat 8:=rfl;rw[a,length_cons,Ey]
def F6(s:ByteArray)(t:List UInt8)(k:Nat):Prop:=∀t0 rest,s.data.toList.drop 1=Bv t0++0::1::rest->∃t2,t0=t++t2/\s.data.toList.drop k=Bv t2++0::1::rest
theorem good_start(s:ByteArray):F6 s [] 1:=λa rest h=>⟨a,rfl,h⟩
theorem Xn(h:F6 s t k)(i:k<s.size)(d:s[k]≠0):F6 s (t++[s[k]]) (k+1):=λj rest g=>by
 obtain⟨b,f,a⟩:=h j rest g;rw[B4 s k i]at a
 cases b with
 |nil=>simp[Bv]at a;exact absurd a.1 d
 |cons c b=>
  rw[CV]at a;by_cases e:c=0
  ·rw[if_pos e]at a;simp at a;exact absurd a.1 d
  ·rw[if_neg e]at a;simp only[cons_append,nil_append,List.cons.injEq]at a;exact⟨b,by rw[f,a.1];simp,a.2⟩
theorem Xo(h:F6 s t k)(j:k+1<s.size)(g:s[k]=0)(i:s[k+1]≠1):F6 s (t++[0]) (k+1+1):=λl rest f=>by
 obtain⟨d,e,a⟩:=h l rest f;rw[B4 s k ϟ,B4 s (k+1) j,g]at a
 cases d with
 |nil=>simp[Bv]at a;exact absurd a.1 i
 |cons c d=>
  rw[CV]at a;by_cases b:c=0
  ·rw[if_pos b]at a;simp only[cons_append,nil_append,List.cons.injEq]at a;exact⟨d,by rw[e,b];simp,a.2.2⟩
  ·rw[if_neg b]at a;simp at a;exact absurd a.1.symm b
theorem Zr(h:F6 s t k)(j:k+1<s.size)(g:s[k]=0)(i:s[k+1]=1)(b rest:List UInt8)
 (h0:s.data.toList.drop 1=Bv b++0::1::rest):b=t/\k=1+(Bv b).length:=by
 obtain⟨e,f,a⟩:=h b rest h0;have l:=congrArg List.length h0;have m:=congrArg List.length a;rw[B4 s k ϟ,B4 s (k+1) j,g,i]at a;have:e=[]:=by
  cases e with
  |nil=>rfl
  |cons c e=>
   rw[CV]at a;by_cases d:c=0
   ·rw[if_pos d]at a;simp at a
   ·rw[if_neg d]at a;simp at a;exact absurd a.1.symm d
 subst this;rw[append_nil]at f;refine⟨f,?_⟩;simp only[length_drop,lAp,length_cons,AU,Bv,flatMap_nil,length_nil]at l m;unfold Bv;omega
theorem Xp(h:F6 s t k)(e:s.size<=k+1):F5 (s.data.toList.drop 1):=λc rest _ b=>by
 obtain⟨f,d,a⟩:=h c rest b;have:=congrArg List.length a;simp only[length_drop,lAp,length_cons,AU]at this;omega
theorem Ua(s:ByteArray)(l:0<s.size)(h0:s[0]=3)(t:List UInt8)(k:Nat)(j:k+1<s.size)(h:F6 s t k)(f:s[k]=0)(g:s[k+1]=1):reads s.data.toList ⟨3,0,⟨t.toArray⟩⟩ (k+2):=λd r i p e=>by
 have b:s.data.toList=s[0]::s.data.toList.drop 1:=by have:=B4 s 0 l;simpa using this
 rw[b,h0]at e;rcases encC_cases i with⟨_,a⟩|⟨_,a⟩|⟨_,a⟩|⟨n,_,a⟩|⟨q,rfl,o,a⟩<;>rw[a]at e<;>simp only[cons_append,nil_append,List.cons.injEq]at e
 ·exact absurd e.1 Ϡ
 ·exact absurd e.1 Ϡ
 ·exact absurd e.1 Ϡ
 ·exact absurd e.1 Ϡ
 ·obtain⟨c,m⟩:=Zr h j f g q.data.toList r (by simpa using e.2);refine⟨by rw[<-c],?_⟩;rw[a];simp only[length_cons,lAp,length_nil];omega
theorem EG(s:ByteArray)(a:0<s.size):s.data.toList=s[0]::s.data.toList.drop 1:=by have:=B4 s 0 a;simpa using this
theorem wrap_i64(x:Int):IntKind.i64.wrap x=wrap64 x:=by
 simp only[IntKind.wrap,IntKind.signed,IntKind.bits,wrap64];simp;split<;>omega
theorem MV(x:Nat)(a:x<18446744073709551616):(BitVec.ofInt 64 (wrap64 (x:Int))).toNat=x:=by
 rw[BitVec.toNat_ofInt];show((wrap64 (x:Int)) % 18446744073709551616).toNat=x;unfold wrap64;omega
theorem Zs(u b:Nat)(e:u<72057594037927936)(d:b<256):bits BinOp.or IntKind.i64 (wrap64 ((u:Int) * 256)) (b:Int)=wrap64 ((u * 256+b:Nat):Int):=by
 unfold bits;simp only[wrap_i64];rw[BitVec.toNat_or];have a:(BitVec.ofInt IntKind.i64.bits (wrap64 ((u:Int) * 256))).toNat=u * 256:=by
  have:=MV (u * 256) ϟ;rw[show((u * 256:Nat):Int)=(u:Int) * 256 by omega]at this;exact this
 have c:(BitVec.ofInt IntKind.i64.bits (b:Int)).toNat=b:=Gb b ϟ;rw[a,c,YZ u b d]
theorem Xq(u:Nat)(c:u<18446744073709551616):bits BinOp.xor IntKind.i64 (wrap64 (u:Int)) (-9223372036854775808)=(u:Int) - 9223372036854775808:=by
 unfold bits;simp only[wrap_i64];rw[BitVec.toNat_xor];have a:(BitVec.ofInt IntKind.i64.bits (wrap64 (u:Int))).toNat=u:=MV u c;have b:(BitVec.ofInt IntKind.i64.bits (-9223372036854775808)).toNat=9223372036854775808:=by rw[BitVec.toNat_ofInt];rfl
 rw[a,b];by_cases h:u<9223372036854775808
 ·have:=Mi u ϟ;rw[show(2:Nat) ^ 63=9223372036854775808 by decide]at this;rw[this];unfold wrap64;omega
 ·have:=M9 u ϟ ϟ;rw[show(2:Nat) ^ 63=9223372036854775808 by decide]at this;rw[this];unfold wrap64;omega
theorem RI(s:ByteArray)(w:ϛ)(b:s.size=0):
 η 187 #[.string s] w λe c=>E0 s e/\Ϟ w c:=by
 have a:ϝ (s.data.toList=[]):=eq_nil_of_length_eq_zero (by rw[AU];exact b);go_enter func187,ntmps187;go_wp2;exact bodyPost_ret (v:=.tuple #[.agg #[ω,ω,ϊ],ω]) (by simp[results,results187,go_sem]) rfl
  ⟨⟨⟨0,0,⟨#[]⟩⟩,0,rfl,Nat.zero_le _,wf0 _ _ Ϡ Ϡ,by rw[a.o];exact reads_nil _ _⟩,
  by repeat (first|exact bR|(refine below_drewN ?_ _)|apply Below.drew|(refine Below.setCell ?_ ϡ _)|(refine Below.alloc ?_ Ϧ _))
  ⟩
theorem Ub(s:ByteArray)(w:ϛ)(a:0<s.size)(c:s.size<=maxLen)(h0:s[0]=0):
 η 187 #[.string s] w λe f=>E0 s e/\Ϟ w f:=by
 have b:ϝ (reads s.data.toList ⟨0,0,⟨#[]⟩⟩ 1):=by
  show reads s.data.toList ⟨0,0,⟨#[]⟩⟩ 1;rw[EG s a,h0];exact TY _
 have h:(s[0].toNat:Int)=0:=by rw[h0];rfl
 clear h0;have d:=c;unfold maxLen at d;have i:(0:Int)<(s.size:Int):=ϟ;have j:((s.size:Int)==0)=false:=by rw[beq_eq_false_iff_ne];omega
 have g:(s[0].toNat:Int)<=255:=by have:=s[0].toNat_lt;omega
 go_enter func187,ntmps187;go_wp2;exact bodyPost_ret (v:=.tuple #[.agg #[ω,ω,ϊ],vI 1]) (by simp[results,results187,go_sem]) rfl
  ⟨⟨⟨0,0,⟨#[]⟩⟩,1,rfl,a,wf0 _ _ Ϡ Ϡ,b.o⟩,
  by repeat (first|exact bR|(refine below_drewN ?_ _)|apply Below.drew|(refine Below.setCell ?_ ϡ _)|(refine Below.alloc ?_ Ϧ _))
  ⟩
theorem RL(s:ByteArray)(w:ϛ)(g:0<s.size)(d:s.size<=maxLen)(h0:s[0]≠0)(h1:s[0]≠1)(a:s[0]≠2)(b:s[0]≠3):
 η 187 #[.string s] w λe h=>E0 s e/\Ϟ w h:=by
 have c:ϝ (noCell s.data.toList):=by
  show noCell s.data.toList;rw[EG s g];exact Wn h0 h1 a b
 have m:((s[0].toNat:Int)==0)=false:=(DC s[0] 0).trans (decide_eq_false h0);have n:((s[0].toNat:Int)==1)=false:=(DC s[0] 1).trans (decide_eq_false h1);have o:((s[0].toNat:Int)==2)=false:=(DC s[0] 2).trans (decide_eq_false a);have p:((s[0].toNat:Int)==3)=false:=(DC s[0] 3).trans (decide_eq_false b);clear h0 h1 a b;have f:=d;unfold maxLen at f;have j:(0:Int)<(s.size:Int):=ϟ;have l:((s.size:Int)==0)=false:=by rw[beq_eq_false_iff_ne];omega
 have i:(s[0].toNat:Int)<=255:=by have:=s[0].toNat_lt;omega
 go_enter func187,ntmps187;go_wp2;exact bodyPost_ret (v:=.tuple #[.agg #[vI (s[0].toNat:Int),ω,ϊ],ω]) (by simp[results,results187,go_sem]) rfl
  ⟨⟨⟨_,0,⟨#[]⟩⟩,0,rfl,Nat.zero_le _,wf0 _ _ Ϡ Ϡ,Ic c.o _ _⟩,
  by repeat (first|exact bR|(refine below_drewN ?_ _)|apply Below.drew|(refine Below.setCell ?_ ϡ _)|(refine Below.alloc ?_ Ϧ _))
  ⟩
theorem RO(s:ByteArray)(w:ϛ)(d:0<s.size)(b:s.size<=maxLen)(h0:s[0]=1)(i:¬1<s.size):
 η 187 #[.string s] w λe f=>E0 s e/\Ϟ w f:=by
 have a:ϝ (noCell s.data.toList):=by
  show noCell s.data.toList;rw[EG s d,h0,drop_of_length_le (by rw[AU];omega)];exact SQ
 have h:(s[0].toNat:Int)=1:=by rw[h0];rfl
 clear h0;have c:=b;unfold maxLen at c;have j:(0:Int)<(s.size:Int):=ϟ;have l:((s.size:Int)==0)=false:=by rw[beq_eq_false_iff_ne];omega
 have g:(s[0].toNat:Int)<=255:=by have:=s[0].toNat_lt;omega
 go_enter func187,ntmps187;go_wp2;exact bodyPost_ret (v:=.tuple #[.agg #[vI 1,ω,ϊ],ω]) (by simp[results,results187,go_sem]) rfl
  ⟨⟨⟨1,0,⟨#[]⟩⟩,0,rfl,Nat.zero_le _,wf0 _ _ Ϡ Ϡ,Ic a.o _ _⟩,
  by repeat (first|exact bR|(refine below_drewN ?_ _)|apply Below.drew|(refine Below.setCell ?_ ϡ _)|(refine Below.alloc ?_ Ϧ _))
  ⟩
theorem Uc(s:ByteArray)(w:ϛ)(g:0<s.size)(d:s.size<=maxLen)(h0:s[0]=1)(a:1<s.size):
 η 187 #[.string s] w λe h=>E0 s e/\Ϟ w h:=by
 have b:ϝ (reads s.data.toList ⟨1,(s[1].toNat:Int),⟨#[]⟩⟩ 2):=by
  show reads s.data.toList ⟨1,(s[1].toNat:Int),⟨#[]⟩⟩ 2;rw[EG s g,h0,B4 s 1 a];exact TZ _ _
 have c:ϝ ((⟨1,(s[1].toNat:Int),⟨#[]⟩⟩:Cel).wf):=by
  have:=s[1].toNat_lt;exact wf0 _ _ ϟ ϟ
 have l:(s[0].toNat:Int)=1:=by rw[h0];rfl
 have j:(s[1].toNat:Int)<=255:=by have:=s[1].toNat_lt;omega
 clear h0;have f:=d;unfold maxLen at f;have m:(0:Int)<(s.size:Int):=ϟ;have n:((s.size:Int)==0)=false:=by rw[beq_eq_false_iff_ne];omega
 have i:(s[0].toNat:Int)<=255:=by have:=s[0].toNat_lt;omega
 go_enter func187,ntmps187;go_wp2;exact bodyPost_ret (v:=.tuple #[.agg #[vI 1,vI (s[1].toNat:Int),ϊ],vI 2]) (by simp[results,results187,go_sem]) rfl
  ⟨⟨⟨1,_,⟨#[]⟩⟩,2,rfl,a,c.o,b.o⟩,
  by repeat (first|exact bR|(refine below_drewN ?_ _)|apply Below.drew|(refine Below.setCell ?_ ϡ _)|(refine Below.alloc ?_ Ϧ _))
  ⟩
theorem Ud(s:ByteArray)(w:ϛ)(d:0<s.size)(b:s.size<=maxLen)(h0:s[0]=2)(i:¬8<s.size):
 η 187 #[.string s] w λe f=>E0 s e/\Ϟ w f:=by
 have a:ϝ (noCell s.data.toList):=by
  show noCell s.data.toList;rw[EG s d,h0];exact Aa2 (by rw[length_drop,AU];omega)
 have h:(s[0].toNat:Int)=2:=by rw[h0];rfl
 clear h0;have c:=b;unfold maxLen at c;have j:(0:Int)<(s.size:Int):=ϟ;have l:((s.size:Int)==0)=false:=by rw[beq_eq_false_iff_ne];omega
 have g:(s[0].toNat:Int)<=255:=by have:=s[0].toNat_lt;omega
 go_enter func187,ntmps187;go_wp2;exact bodyPost_ret (v:=.tuple #[.agg #[vI 2,ω,ϊ],ω]) (by simp[results,results187,go_sem]) rfl
  ⟨⟨⟨2,0,⟨#[]⟩⟩,0,rfl,Nat.zero_le _,wf0 _ _ Ϡ Ϡ,Ic a.o _ _⟩,
  by repeat (first|exact bR|(refine below_drewN ?_ _)|apply Below.drew|(refine Below.setCell ?_ ϡ _)|(refine Below.alloc ?_ Ϧ _))
  ⟩
theorem Ue(s:ByteArray)(j:Nat)(h:j+1<s.size):(s.data.toList.drop 1).take (j+1)=(s.data.toList.drop 1).take j++[s[j+1]]:=by
 rw[take_succ_eq_append_getElem (by rw[length_drop,AU];omega)]
 congr 2
 simp only[getElem_drop];have:1+j=j+1:=ϟ;simp only[this];rfl
theorem Xr:wrap64 (((Br ([]:List UInt8):Nat)):Int)=0:=by
 have:Br ([]:List UInt8)=0:=rfl;rw[this];unfold wrap64;omega
theorem Xs(s:ByteArray)(w:ϛ)(x:0<s.size)(p:s.size<=maxLen)(h0:s[0]=2)(z:8<s.size):
 η 187 #[.string s] w λe A=>E0 s e/\Ϟ w A:=by
 have d:ϝ (reads s.data.toList ⟨2,(Br ((s.data.toList.drop 1).take 8):Int) - 9223372036854775808,⟨#[]⟩⟩ 9):=by
  show reads s.data.toList _ 9;rw[EG s x,h0];exact Xm _ (by rw[length_drop,AU];omega)
 have H:(s[0].toNat:Int)=2:=by rw[h0];rfl
 clear h0;have q:=p;unfold maxLen at q;have L:(0:Int)<(s.size:Int):=ϟ;have M:((s.size:Int)==0)=false:=by rw[beq_eq_false_iff_ne];omega
 have B:(s[0].toNat:Int)<=255:=by have:=s[0].toNat_lt;omega
 go_enter func187,ntmps187;go_wp2
 go_loop [5,6] (λn i=> ∃j:Nat,j<=8/\i=vI ((j:Int)+1)/\n=vI (wrap64 (Br ((s.data.toList.drop 1).take j):Int))) (λ_ i=>(9 - intOf i).toNat)
 case atStart=>exact⟨0,ϟ,rfl,by rw[take_zero,Xr]⟩
 case round=>
  obtain⟨j,E,rfl,rfl⟩:=hrel;obtain⟨u,c⟩:∃u,Br ((s.data.toList.drop 1).take j)=u:=⟨_,rfl⟩;have a:=hV0 c;rw[c];clear c;by_cases I:j<8
  ·have o:j+1<s.size:=ϟ;have y:u<72057594037927936:=by
    have l:=Ga ((s.data.toList.drop 1).take j);rw[a.o,length_take,length_drop,AU]at l;have D:256 ^ (min j (s.size - 1))<=256 ^ 7:=Nat.pow_le_pow_right ϟ ϟ;omega
   have g:=hV0 y;have J:wrap64 (u:Int)=(u:Int):=by unfold wrap64;omega
   have f:ϝ (Br ((s.data.toList.drop 1).take (j+1))=u * 256+s[j+1].toNat):=by
    show Br ((s.data.toList.drop 1).take (j+1))=_;rw[Ue s j o,MI,a.o]
   have C:(s[j+1].toNat:Int)<=255:=by have:=s[j+1].toNat_lt;omega
   have F:(0:Int)<=(j:Int)+1:=ϟ;have G:(j:Int)+1<(s.size:Int):=ϟ;go_wp2
   go_round
   case rel=>exact⟨j+1,ϟ,by go_num,by rw[f.o,Zs u _ g.o s[j+1].toNat_lt]⟩
   case measure=>simp[intOf];omega
  ·have m:j=8:=ϟ;subst m;have b:ϝ (u<18446744073709551616):=by
    show u<18446744073709551616;rw[<-a.o];exact JL _ (by rw[length_take,length_drop,AU];omega)
   have K:=Xq u b.o;go_wp2;exact bodyPost_ret (v:=.tuple #[.agg #[vI 2,vI ((u:Int) - 9223372036854775808),ϊ],vI 9]) (by simp[results,results187,go_sem]) rfl
    ⟨⟨⟨2,_,⟨#[]⟩⟩,9,rfl,z,wf0 _ _ (by have:=b.o;omega) (by have:=b.o;omega),by have h:=d.o;rw[a.o]at h;exact h⟩,by repeat (first|exact bR|(refine below_drewN ?_ _)|apply Below.drew|(refine Below.setCell ?_ ϡ _)|(refine Below.alloc ?_ Ϧ _))⟩
theorem JZ{g:Array Oper}{rest:List Oper}{o:Oper}{a:Act}{Q:Exit->Act->World->Prop}(p:o.guard=none)(s x:Operand)
 (w:o.op= .call {callee:=.builtin .append,args:=#[s,x],argTypes:=#[204,204]}) (base:Nat) (v:Value) (l:List UInt8) (z:a.eval s=v) (c:ϛ)
 (y:ownB c base v l) (X:Value) (b:UInt8) (n:X=Gy b) (B:Nat) (m:c.heap.size=B) (A:a.eval x=vS (τ B) 1 1) (H:l.length+1<=140737488355328) (G:base<=c.heap.size)
 (h:∀e d,ownB d base e (l++[b])->(c.alloc (.cells #[X] 5)).grownBy d v.ownBlock->wpList Tryz.prog g Q rest (a.put o.dst e) d):
 wpList Tryz.prog g Q (o::rest) a (ξ c #[X] 5):=by
 subst n;subst m;obtain⟨F,q,C,D,E⟩:=info_parts Tryz.info5;refine wpList_append_own _ p s x 204 w base 5 F (.int .u8 0) 1 1 underlying204 q C D E rfl Ϡ v l.length (l.map Gy) z
  (World.ownsRow.alloc y _) ⟨c,0,none⟩ 1 1 [Gy b] A rfl (cell_one_new _ _ _) (by intro u f;simp at f;subst f;rfl) ϩ ϟ Ϥ ?_
 intro e d i j _;refine h e d ?_ j;unfold ownB;rw[lAp,map_append];exact i
theorem Uf(s:ByteArray)(w:ϛ)(l:0<s.size)(Z:s.size<=140737488355328)(h0:s[0]=3):
 η 187 #[.string s] w λe P=>E0 s e/\Ϟ w P:=by
 have m:=hV0 h0;have J:(s[0].toNat:Int)=3:=by rw[h0];rfl
 clear h0;have i0:(0:Int)<(s.size:Int):=ϟ;have iz:((s.size:Int)==0)=false:=by rw[beq_eq_false_iff_ne];omega
 have R:(s[0].toNat:Int)<=255:=by have:=s[0].toNat_lt;omega
 go_enter func187,ntmps187;go_wp2
 go_loopw [7,8] (λv i wr=> ∃(k:Nat) (t:List UInt8),1<=k/\k<=s.size/\t.length<k/\i=vI k/\ownB wr (w.heap.size+2) v t/\Below (w.heap.size+2) (ξ (ξ w #[ω,ω,ϊ] 103) #[vI 3,ω,ϊ] 103) wr/\F6 s t k) (λ_ i _=>s.size - (intOf i).toNat)
 case atStart=>exact⟨1,[],Nat.le_refl _,l,ϡ,rfl,World.ownsRow_nil _ _ _ _,bR,good_start s⟩
 case round=>
  obtain⟨k,t,Y,J,aa,rfl,D,a,B⟩:=hrel;have b:=hV0 D;have c:=hV0 B;have M:=a.size;simp only[World.size_alloc]at M;have f:w.heap.size+2<=wr.heap.size:=ϟ;have I:Ϟ w (ξ (ξ w #[ω,ω,ϊ] 103) #[vI 3,ω,ϊ] 103):=Ϫ.alloc ϡ _;have A:Ϟ w wr:=I.trans (a.mono ϟ);have q:Δ wr (w+1) 0 (vI 3):=(a.cell ϡ).trans ϣ;have u:Δ wr (w+1) 1 (vI 0):=(a.cell ϡ).trans ϣ;have x:Δ wr (w+1) 2 (.string ⟨#[]⟩):=(a.cell ϡ).trans ϣ;have n:Δ wr w 0 (vI 0):=(a.cell ϡ).trans ϣ;have o:Δ wr w 1 (vI 0):=(a.cell ϡ).trans ϣ;have p:Δ wr w 2 (.string ⟨#[]⟩):=(a.cell ϡ).trans ϣ;have V:Ξ wr (w+1) 0:=(a.frozen ϡ).trans ϣ;have W:Ξ wr (w+1) 2:=(a.frozen ϡ).trans ϣ;have S:Ξ wr w 0:=(a.frozen ϡ).trans ϣ;have T:Ξ wr w 1:=(a.frozen ϡ).trans ϣ;have U:Ξ wr w 2:=(a.frozen ϡ).trans ϣ;clear D B;by_cases C:k+1<s.size
  ·have K:(k:Int)+1<(s.size:Int):=ϟ;have L:k<s.size:=ϟ;by_cases E:((s[k].toNat:Int)==0)=true
   ·have F:s[k]=0:=of_decide_eq_true ((byte_zero s[k]).symm.trans E);have d:=hV0 F;clear F;by_cases y:((s[k+1].toNat:Int)==1)=true
    ·have z:s[k+1]=1:=of_decide_eq_true ((DC s[k+1] 1).symm.trans y);have g:=hV0 z;clear z;have X:=ME b.o;go_wp2;exact bodyPost_ret (v:=.tuple #[.agg #[vI 3,ω,.string ⟨t.toArray⟩],vI ((k:Int)+2)]) (by simp[results,results187,go_sem,q,u,x,n,o,p]) rfl
      ⟨⟨⟨3,0,⟨t.toArray⟩⟩,k+2,rfl,ϟ,⟨⟨by show(-9223372036854775808:Int)<=0;decide,by show(0:Int)<=9223372036854775807;decide⟩,by show t.toArray.size<=maxLen;unfold maxLen;simp;omega⟩,Ua s l m.o t k C c.o d.o g.o⟩,by repeat (first|exact A|(refine Below.setCell ?_ ϡ _))⟩
    ·have H:((s[k+1].toNat:Int)==1)=false:=by simpa using y
     have g:ϝ (¬s[k+1]=1):=of_decide_eq_false ((DC s[k+1] 1).symm.trans H);go_wp2_with (at_builtin;refine JZ rfl (.tmp 82) (.tmp 83) rfl (w.heap.size+2) _ t rfl _ b.o _ 0 rfl _ rfl rfl ϟ f ?_;intro O Q j h);go_roundw
     case rel=>exact⟨k+1+1,t++[0],ϟ,ϟ,Ϥ,by go_num,j,AV a f b.o h,Xo c.o C d.o g.o⟩
     case measure=>simp[intOf];omega
   ·have N:((s[k].toNat:Int)==0)=false:=by simpa using E
    have d:ϝ (¬s[k]=0):=of_decide_eq_false ((byte_zero s[k]).symm.trans N);go_wp2_with (at_builtin;refine JZ rfl (.tmp 65) (.tmp 69) rfl (w.heap.size+2) _ t rfl _ b.o _ s[k] rfl _ rfl rfl ϟ f ?_;intro O Q j h);go_roundw
    case rel=>exact⟨k+1,t++[s[k]],ϟ,ϟ,Ϥ,by go_num,j,AV a f b.o h,Xn c.o L d.o⟩
    case measure=>simp[intOf];omega
  ·have G:ϝ (noCell s.data.toList):=by
    show noCell s.data.toList;rw[EG s l,m.o];exact QN (Xp c.o ϟ)
   have K:decide ((k:Int)+1<(s.size:Int))=false:=decide_eq_false ϟ;go_wp2;exact bodyPost_ret (v:=.tuple #[.agg #[vI 3,ω,ϊ],ω]) (by simp[results,results187,go_sem,q,u,x,n,o,p]) rfl
    ⟨⟨⟨3,0,⟨#[]⟩⟩,0,rfl,Nat.zero_le _,wf0 _ _ Ϡ Ϡ,Ic G.o _ _⟩,by repeat (first|exact A|(refine Below.setCell ?_ ϡ _))⟩
theorem Pd(s:ByteArray)(w:ϛ)(i:s.size<=140737488355328):
 η 187 #[.string s] w λe l=>E0 s e/\Ϟ w l:=by
 have b:s.size<=maxLen:=ϩ;by_cases j:s.size=0
 ·exact RI s w j
 ·have a:0<s.size:=ϟ;by_cases g:s[0]=0
  ·exact Ub s w a b g
  ·by_cases d:s[0]=1
   ·by_cases c:1<s.size
    ·exact Uc s w a b d c
    ·exact RO s w a b d c
   ·by_cases f:s[0]=2
    ·by_cases c:8<s.size
     ·exact Xs s w a b f c
     ·exact Ud s w a b f c
    ·by_cases h:s[0]=3
     ·exact Uf s w a i h
     ·exact RL s w a b g d f h
theorem Qq(q:ByteArray)(m:Nat):(q.extract m q.size).data.toList=q.data.toList.drop m:=Lib.extract_to_end q m
theorem Fs(q:ByteArray)(m:Nat):(q.extract m q.size).size=q.size - m:=by rw[ByteArray.size_extract];omega
theorem Xt(s:ByteArray)(r:List Cel)(w:ϛ)(hm:s.size<=140737488355328)(g:rowOk r)(x:encR r=s.data.toList):
 η 140 #[.string s] w λe B=>(∃a b,e= .returned (.tuple #[vS a r.length b,.bool true])/\rowAt B a r)/\Ϟ w B:=by
 obtain⟨n,i⟩:∃n,r.length=n:=⟨_,rfl⟩;have d:=hV0 i;have h8:=g.1;have V:=hV0 g;have T:=hV0 x;have Y:ϝ (∀w a b,rowAt w a r->CT 83 #[vS a n b] w (θ w (vI 0))):=by
  subst i;intro w a b h;exact(Dt a b r w h (SX g) ϟ).mono λe B ⟨he,hb⟩=>⟨he.trans (Af (IW g)),hb⟩
 have Z:ϝ (∀w a b,rowAt w a r->CT 85 #[vS a n b] w (θ w (.string s))):=by
  subst i;intro w a b h;have e:(⟨(encR r).toArray⟩:ByteArray)=s:=str_eq x;rw[<-e];exact I0 a b r w h g
 rw[i]at h8⊢;clear i g x;go_enter func140,ntmps140;go_wp2
 go_loopw [4,5] (λv t wr=> ∃(j:Nat) (q:ByteArray),j<=n/\t= .string q/\q.size<=s.size/\A4 wr w v (r.take j)/\Ϟ w wr/\q.data.toList=encR (r.drop j)) (λ_ t _=>UW t)
 case atStart=>exact⟨0,s,Nat.zero_le _,rfl,Nat.le_refl _,World.ownsRow_nil _ _ _ _,bR,T.o.symm⟩
 case round=>
  obtain⟨j,q,hj,rfl,hq,A,z,M⟩:=hrel;have K:(r.take j).length=j:=by rw[length_take,d.o];omega
  obtain⟨a,b,Q⟩:=IV A;rw[K]at Q;subst Q;have u:=hV0 A;have C:=hV0 M;have P:=z.size;clear A M K;by_cases y:j<n
  ·have ah:((j:Nat):Int)<=8:=ϟ;have o:=V.o.2 (r.getD j default) (by simp[gDe,show j<r.length by rw[d.o];exact y]);have p:ϝ (q.data.toList=CS (r.getD j default)++encR (r.drop (j+1))):=by
    show q.data.toList=_;rw[C.o,Fx r j (by rw[d.o];exact y)];rfl
   have X:ϝ (r.take (j+1)=r.take j++[r.getD j default]):=Lj r j (by rw[d.o];exact y);have af:0<(CS (r.getD j default)).length:=length_pos_iff.2 (GW o.1);have hz:0<q.size:=by
    have l:=congrArg List.length p.o;rw[lAp,AU]at l;omega
   go_wp2_with fail;refine(Pd q _ ϟ).mono ?_;rintro e w1 ⟨⟨c,m,rfl,ak,ag,N⟩,H⟩;obtain⟨F,G⟩:=N _ _ o.1 o.2 p.o;have R:ϝ (c=r.getD j default):=F;have S:ϝ (m=(CS (r.getD j default)).length):=G;have ai:0<m:=ϟ;have al:((m:Int)==0)=false:=by rw[beq_eq_false_iff_ne];omega
   have aj:(m:Int)<=(q.size:Int):=ϟ;clear F G N ag o af;obtain⟨k,nn,t⟩:=c;have f:=z.trans (H.mono P);have L:=Hk u.o H;go_wp2_with (at_builtin;refine Es rfl (.tmp 24) (.tmp 26) rfl w.heap.size _ (r.take j) rfl _ (FP L _) ⟨k,nn,t⟩ (w1.heap.size+1) ϡ rfl (by rw[length_take];omega) (by have:=f.size;simp;omega) ?_;intro v' w2 ae aa);go_roundw
   case rel=>exact⟨j+1,_,ϟ,rfl,by rw[Fs];omega,by rw[X.o,<-R.o];exact ae,D8 (f.alloc f.size _) (by have:=f.size;simp;omega) (FP L _) aa,by rw[Qq,p.o,S.o,drop_left]⟩
   case measure=>show(q.extract m q.size).size<q.size;rw[Fs];omega
  ·have ab:j=n:=ϟ;subst ab;have O:r.take j=r:=take_of_length_le (by rw[d.o];omega);have U:ϝ (A4 wr w (vS a j b) r):=by have h:=u.o;rw[O]at h;exact h
   have an:¬0<q.size:=by
    have l:=congrArg List.length C.o;rw[AU,drop_of_length_le (by rw[d.o];omega)]at l;have h2:(encR ([]:List Cel)).length=0:=rfl;rw[h2]at l;omega
   have am:decide ((0:Int)<(q.size:Int))=false:=decide_eq_false ϟ;have D:ϝ (rowAt wr a r):=E6 (r:=r) (cap:=b) (by rw[d.o];exact U.o);clear O u;go_wp2_with fail;refine(Y.o _ a b D.o).mono ?_;rintro e wk ⟨rfl,I⟩;have E:ϝ (rowAt wk a r):=Ac D.o I;have f:=z.trans (I.mono P);go_wp2_with fail;refine(Z.o _ a b E.o).mono ?_;rintro e wl ⟨rfl,J⟩;have W:ϝ (rowAt wl a r):=Ac E.o J;have ac:=bT f J;go_wp2
   go_ret2
   exact⟨⟨a,b,rfl,W.o⟩,ac⟩
theorem Zt(h:encR r≠s.data.toList):((⟨(encR r).toArray⟩:ByteArray).toList==s.toList)=false:=by
 rw[Lib.toList_data,Lib.toList_data,beq_eq_false_iff_ne];exact h
theorem MW(h:A3 r=0)(b:Cj r):rowOk r:=by
 unfold A3 at h;split at h
 ·cases h
 ·rename_i d;exact⟨ϟ,λc a=>⟨Lk h c a,b c a⟩⟩
theorem Zu(s:ByteArray)(w:ϛ)(hm:s.size<=140737488355328)(L:NZ s.data.toList):
 η 140 #[.string s] w (θ w (.tuple #[ψ,ϋ])):=by
 have I:=hV0 L;clear L;go_enter func140,ntmps140;go_wp2
 go_loopw [4,5] (λv t wr=> ∃(r:List Cel) (q:ByteArray),t= .string q/\q.size<=s.size/\A4 wr w v r/\Ϟ w wr/\r.length<=9/\Cj r) (λ_ t _=>UW t)
 case atStart=>exact⟨[],s,rfl,Nat.le_refl _,World.ownsRow_nil _ _ _ _,bR,ϡ,λc F=>by cases F⟩
 case round=>
  obtain⟨r,q,rfl,hq,B,o,h9,N⟩:=hrel;obtain⟨a,g,V⟩:=IV B;subst V;have Q:=hV0 B;have i:ϝ (Cj r):=N;have n:ϝ (rowAt wr a r):=E6 B;have y:=o.size;clear B N;by_cases hz:0<q.size
  ·by_cases Z:r.length<=8
   ·have R:((r.length:Nat):Int)<=8:=ϟ;go_wp2_with fail;refine(Pd q _ ϟ).mono ?_;rintro e X ⟨⟨c,m,rfl,ab,K,_⟩,J⟩;have P:ϝ (c.wf):=K;have b:=o.trans (J.mono y);have M:=Hk Q.o J;have aa:(m:Int)<=(q.size:Int):=ϟ;clear K;obtain⟨k,O,t⟩:=c;by_cases T:m=0
    ·subst T;go_wp2
     go_ret2
     exact⟨rfl,b.alloc b.size _⟩
    ·have ac:((m:Int)==0)=false:=by rw[beq_eq_false_iff_ne];omega
     go_wp2_with (at_builtin;refine Es rfl (.tmp 24) (.tmp 26) rfl w.heap.size _ r rfl _ (FP M _) ⟨k,O,t⟩ (X.heap.size+1) ϡ rfl ϟ (by have:=b.size;simp;omega) ?_;intro v' w2 U S);go_roundw
     case rel=>exact⟨r++[⟨k,O,t⟩],_,rfl,by rw[Fs];omega,U,D8 (b.alloc b.size _) (by have:=b.size;simp;omega) (FP M _) S,by rw[lAp];simp;omega,λc F=>by
      rcases mem_append.1 F with h|h
      ·exact i.o c h
      ·rw[mem_singleton.1 h];exact P.o⟩
     case measure=>show(q.extract m q.size).size<q.size;rw[Fs];omega
   ·have R:decide (((r.length:Nat):Int)<=8)=false:=decide_eq_false ϟ;by_cases f:A3 r=0
    ·have l:=MW f i.o;have H:=Zt (I.o r l);have p:=hIz (λ(w:ϛ) (h:rowAt w a r)=>I0 a g r w h l);have j:ϝ (∀w,rowAt w a r->CT 83 #[vS a r.length g] w (θ w (vI 0))):=λw h=>
      (Dt a g r w h i.o ϟ).mono λe W ⟨u,D⟩=>⟨u.trans (Af f),D⟩
     obtain⟨x,z⟩:∃x,(⟨(encR r).toArray⟩:ByteArray)=x:=⟨_,rfl⟩;rw[z]at H p;clear l z f;go_wp2_with fail;refine(j.o _ n.o).mono ?_;rintro e A ⟨rfl,d⟩;have C:ϝ (rowAt A a r):=Ac n.o d;have b:=o.trans (d.mono y);go_wp2_with fail;refine(p.o _ C.o).mono ?_;rintro e Y ⟨rfl,E⟩;have G:=bT b E;go_wp2
     go_ret2
     exact⟨rfl,G⟩
    ·have u:(A3 r==0)=false:=by simpa using f
     have j:=hIz (λ(w:ϛ) (h:rowAt w a r)=>Dt a g r w h i.o ϟ);go_wp2_with fail;refine(j.o _ n.o).mono ?_;rintro e A ⟨rfl,d⟩;have b:=o.trans (d.mono y);go_wp2
     go_ret2
     exact⟨rfl,b⟩
  ·have ae:decide ((0:Int)<(q.size:Int))=false:=decide_eq_false ϟ;by_cases f:A3 r=0
   ·have l:=MW f i.o;have H:=Zt (I.o r l);have p:=hIz (λ(w:ϛ) (h:rowAt w a r)=>I0 a g r w h l);have j:ϝ (∀w,rowAt w a r->CT 83 #[vS a r.length g] w (θ w (vI 0))):=λw h=>
     (Dt a g r w h i.o ϟ).mono λe W ⟨u,D⟩=>⟨u.trans (Af f),D⟩
    obtain⟨x,z⟩:∃x,(⟨(encR r).toArray⟩:ByteArray)=x:=⟨_,rfl⟩;rw[z]at H p;clear l z f;go_wp2_with fail;refine(j.o _ n.o).mono ?_;rintro e A ⟨rfl,d⟩;have C:ϝ (rowAt A a r):=Ac n.o d;have b:=o.trans (d.mono y);go_wp2_with fail;refine(p.o _ C.o).mono ?_;rintro e Y ⟨rfl,E⟩;have G:=bT b E;go_wp2
    go_ret2
    exact⟨rfl,G⟩
   ·have u:(A3 r==0)=false:=by simpa using f
    have j:=hIz (λ(w:ϛ) (h:rowAt w a r)=>Dt a g r w h i.o ϟ);go_wp2_with fail;refine(j.o _ n.o).mono ?_;rintro e A ⟨rfl,d⟩;have b:=o.trans (d.mono y);go_wp2
    go_ret2
    exact⟨rfl,b⟩
end vl
end Go.Proofs.YtdohnkkbkfhphaaGreat
