import Derived.Test.YtfkihidbnfkbaaaGreatDoorPv4
set_option linter.all false
set_option maxHeartbeats 4000000
set_option maxRecDepth 100000
open Go.ChangeShapes Go.WideShapes Go.ChangeAt Go.RowKit List
namespace Go.Proofs.YtfkihidbnfkbaaaGreatDoor
open Go.Proofs.Tryz
namespace vl
variable {s : ByteArray} {t : List UInt8} {k : Nat} {r : List Cel}
def reads(l:List UInt8)(c:Cel)(m:Nat):Prop:=∀(d:Cel) t,d.ok->d.wf->l=C3 d++t->c=d/\m=(C3 d).length
def EZ(s:ByteArray)(e:Ending):Prop:=∃(c:Cel) (m:Nat),e= .returned (.tuple #[.agg #[vI c.k,vI c.n,.string c.s],vI (m:Int)])/\m<=s.size/\c.wf/\reads s.data.toList c m
theorem reads_nil(c:Cel)(m:Nat):reads [] c m:=λd t a _ h=>absurd (append_eq_nil_iff.1 h.symm).1 (GD a)
theorem IQ{l:List UInt8}(h:noCell l)(c:Cel)(m:Nat):reads l c m:=λd t a b e=>absurd e (h d t a b)
theorem Wg(l:List UInt8):reads (0::l) ⟨0,0,⟨#[]⟩⟩ 1:=λd t a b h=>by
 obtain⟨rfl,_⟩:=KU (c:=⟨0,0,⟨#[]⟩⟩) (x:=l) (NQ _ _ _ ϥ) a (wf0 _ _ ϥ ϥ) b h;exact⟨rfl,rfl⟩
theorem Wh(b:UInt8)(l:List UInt8):reads (1::b::l) ⟨1,(b.toNat:Int),⟨#[]⟩⟩ 2:=by
 by_cases a:b=0\/b=1
 ·intro d t g i h;obtain⟨f,e⟩:=Tv b a;have j:=b.toNat_lt;obtain⟨rfl,_⟩:=KU (c:=⟨1,(b.toNat:Int),⟨#[]⟩⟩) (x:=l) f g (wf0 _ _ Ϥ Ϥ) i (by rw[e];exact h);exact⟨rfl,by rw[e];rfl⟩
 ·exact IQ (Xc (λh=>a (.inl h)) (λh=>a (.inr h))) _ _
theorem Zm(l:List UInt8)(e:8<=l.length):reads (2::l) ⟨2,(Bd (l.take 8):Int) - 9223372036854775808,⟨#[]⟩⟩ 9:=λd t b f h=>by
 have g:=K9 (l.take 8) (by rw[length_take];omega);obtain⟨rfl,_⟩:=KU (c:=⟨2,(Bd (l.take 8):Int) - 9223372036854775808,⟨#[]⟩⟩) (x:=l.drop 8) (Abr _) b (wf0 _ _ Ϥ Ϥ) f (by rw[<-Tu l e];exact h);refine⟨rfl,?_⟩;have a:C3 ⟨2,(Bd (l.take 8):Int) - 9223372036854775808,⟨#[]⟩⟩=2::be8 (((Bd (l.take 8):Int) - 9223372036854775808)+9223372036854775808).toNat 8:=rfl;rw[a,length_cons,Eb]
def Gp(s:ByteArray)(t:List UInt8)(k:Nat):Prop:=∀t0 rest,s.data.toList.drop 1=Bs t0++0::1::rest->∃t2,t0=t++t2/\s.data.toList.drop k=Bs t2++0::1::rest
theorem good_start(s:ByteArray):Gp s [] 1:=λa rest h=>⟨a,rfl,h⟩
theorem Zn(h:Gp s t k)(i:k<s.size)(d:s[k]≠0):Gp s (t++[s[k]]) (k+1):=λj rest g=>by
 obtain⟨b,f,a⟩:=h j rest g;rw[BG s k i]at a
 cases b with
 |nil=>simp[Bs]at a;exact absurd a.1 d
 |cons c b=>
  rw[CK]at a;by_cases e:c=0
  ·rw[if_pos e]at a;simp at a;exact absurd a.1 d
  ·rw[if_neg e]at a;simp only[cons_append,nil_append,List.cons.injEq]at a;exact⟨b,by rw[f,a.1];simp,a.2⟩
theorem Zo(h:Gp s t k)(j:k+1<s.size)(g:s[k]=0)(i:s[k+1]≠1):Gp s (t++[0]) (k+1+1):=λl rest f=>by
 obtain⟨d,e,a⟩:=h l rest f;rw[BG s k Ϥ,BG s (k+1) j,g]at a
 cases d with
 |nil=>simp[Bs]at a;exact absurd a.1 i
 |cons c d=>
  rw[CK]at a;by_cases b:c=0
  ·rw[if_pos b]at a;simp only[cons_append,nil_append,List.cons.injEq]at a;exact⟨d,by rw[e,b];simp,a.2.2⟩
  ·rw[if_neg b]at a;simp at a;exact absurd a.1.symm b
theorem AbZ(h:Gp s t k)(j:k+1<s.size)(g:s[k]=0)(i:s[k+1]=1)(b rest:List UInt8)
 (h0:s.data.toList.drop 1=Bs b++0::1::rest):b=t/\k=1+(Bs b).length:=by
 obtain⟨e,f,a⟩:=h b rest h0;have l:=congrArg List.length h0;have m:=congrArg List.length a;rw[BG s k Ϥ,BG s (k+1) j,g,i]at a;have:e=[]:=by
  cases e with
  |nil=>rfl
  |cons c e=>
   rw[CK]at a;by_cases d:c=0
   ·rw[if_pos d]at a;simp at a
   ·rw[if_neg d]at a;simp at a;exact absurd a.1.symm d
 subst this;rw[append_nil]at f;refine⟨f,?_⟩;simp only[length_drop,lAp,length_cons,A2,Bs,flatMap_nil,length_nil]at l m;unfold Bs;omega
theorem Zp(h:Gp s t k)(e:s.size<=k+1):Gi (s.data.toList.drop 1):=λc rest _ b=>by
 obtain⟨f,d,a⟩:=h c rest b;have:=congrArg List.length a;simp only[length_drop,lAp,length_cons,A2]at this;omega
theorem Wi(s:ByteArray)(j:0<s.size)(h0:s[0]=3)(t:List UInt8)(k:Nat)(i:k+1<s.size)(h:Gp s t k)(c:s[k]=0)(f:s[k+1]=1):reads s.data.toList ⟨3,0,⟨t.toArray⟩⟩ (k+2):=λd r g o e=>by
 have e0:s.data.toList=s[0]::s.data.toList.drop 1:=by have:=BG s 0 j;simpa using this
 rw[e0,h0]at e;rcases encC_cases g with⟨_,a⟩|⟨_,a⟩|⟨_,a⟩|⟨n,_,a⟩|⟨q,rfl,m,a⟩<;>rw[a]at e<;>simp only[cons_append,nil_append,List.cons.injEq]at e
 ·exact absurd e.1 ϥ
 ·exact absurd e.1 ϥ
 ·exact absurd e.1 ϥ
 ·exact absurd e.1 ϥ
 ·obtain⟨b,l⟩:=AbZ h i c f q.data.toList r (by simpa using e.2);refine⟨by rw[<-b],?_⟩;rw[a];simp only[length_cons,lAp,length_nil];omega
theorem F2(s:ByteArray)(a:0<s.size):s.data.toList=s[0]::s.data.toList.drop 1:=by have:=BG s 0 a;simpa using this
theorem wrap_i64(x:Int):IntKind.i64.wrap x=wrap64 x:=by
 simp only[IntKind.wrap,IntKind.signed,IntKind.bits,wrap64];simp;split<;>omega
theorem O5(x:Nat)(a:x<18446744073709551616):(BitVec.ofInt 64 (wrap64 (x:Int))).toNat=x:=by
 rw[BitVec.toNat_ofInt];show((wrap64 (x:Int)) % 18446744073709551616).toNat=x;unfold wrap64;omega
theorem Aca(u b:Nat)(e:u<72057594037927936)(d:b<256):bits BinOp.or IntKind.i64 (wrap64 ((u:Int) * 256)) (b:Int)=wrap64 ((u * 256+b:Nat):Int):=by
 unfold bits;simp only[wrap_i64];rw[BitVec.toNat_or];have a:(BitVec.ofInt IntKind.i64.bits (wrap64 ((u:Int) * 256))).toNat=u * 256:=by
  have:=O5 (u * 256) Ϥ;rw[show((u * 256:Nat):Int)=(u:Int) * 256 by omega]at this;exact this
 have c:(BitVec.ofInt IntKind.i64.bits (b:Int)).toNat=b:=GF b Ϥ;rw[a,c,Abn u b d]
theorem Zq(u:Nat)(c:u<18446744073709551616):bits BinOp.xor IntKind.i64 (wrap64 (u:Int)) (-9223372036854775808)=(u:Int) - 9223372036854775808:=by
 unfold bits;simp only[wrap_i64];rw[BitVec.toNat_xor];have a:(BitVec.ofInt IntKind.i64.bits (wrap64 (u:Int))).toNat=u:=O5 u c;have b:(BitVec.ofInt IntKind.i64.bits (-9223372036854775808)).toNat=9223372036854775808:=by rw[BitVec.toNat_ofInt];rfl
 rw[a,b];by_cases h:u<9223372036854775808
 ·have:=ML u Ϥ;rw[show(2:Nat) ^ 63=9223372036854775808 by decide]at this;rw[this];unfold wrap64;omega
 ·have:=NI u Ϥ Ϥ;rw[show(2:Nat) ^ 63=9223372036854775808 by decide]at this;rw[this];unfold wrap64;omega
theorem Uf(s:ByteArray)(w:Ϡ)(b:s.size=0):
 χ 150 #[.string s] w λe c=>EZ s e/\ϣ w c:=by
 have a:Ϣ (s.data.toList=[]):=eq_nil_of_length_eq_zero (by rw[A2];exact b);go_enter func150,ntmps150;go_wp2;exact bodyPost_ret (v:=.tuple #[.agg #[Ϗ,Ϗ,ϐ],Ϗ]) (by simp[results,results150,go_sem]) rfl
  ⟨⟨⟨0,0,⟨#[]⟩⟩,0,rfl,Nat.zero_le _,wf0 _ _ ϥ ϥ,by rw[a.o];exact reads_nil _ _⟩,
  by repeat (first|exact bR|(refine below_drewN ?_ _)|apply Below.drew|(refine Below.setCell ?_ Ϧ _)|(refine Below.alloc ?_ ϫ _))
  ⟩
theorem Wj(s:ByteArray)(w:Ϡ)(a:0<s.size)(c:s.size<=maxLen)(h0:s[0]=0):
 χ 150 #[.string s] w λe f=>EZ s e/\ϣ w f:=by
 have b:Ϣ (reads s.data.toList ⟨0,0,⟨#[]⟩⟩ 1):=by
  show reads s.data.toList ⟨0,0,⟨#[]⟩⟩ 1;rw[F2 s a,h0];exact Wg _
 have h:(s[0].toNat:Int)=0:=by rw[h0];rfl
 clear h0;have d:=c;unfold maxLen at d;have i:(0:Int)<(s.size:Int):=Ϥ;have j:((s.size:Int)==0)=false:=by rw[beq_eq_false_iff_ne];omega
 have g:(s[0].toNat:Int)<=255:=by have:=s[0].toNat_lt;omega
 go_enter func150,ntmps150;go_wp2;exact bodyPost_ret (v:=.tuple #[.agg #[Ϗ,Ϗ,ϐ],vI 1]) (by simp[results,results150,go_sem]) rfl
  ⟨⟨⟨0,0,⟨#[]⟩⟩,1,rfl,a,wf0 _ _ ϥ ϥ,b.o⟩,
  by repeat (first|exact bR|(refine below_drewN ?_ _)|apply Below.drew|(refine Below.setCell ?_ Ϧ _)|(refine Below.alloc ?_ ϫ _))
  ⟩
theorem Ug(s:ByteArray)(w:Ϡ)(g:0<s.size)(d:s.size<=maxLen)(h0:s[0]≠0)(h1:s[0]≠1)(a:s[0]≠2)(b:s[0]≠3):
 χ 150 #[.string s] w λe h=>EZ s e/\ϣ w h:=by
 have c:Ϣ (noCell s.data.toList):=by
  show noCell s.data.toList;rw[F2 s g];exact Xb h0 h1 a b
 have m:((s[0].toNat:Int)==0)=false:=(DR s[0] 0).trans (decide_eq_false h0);have n:((s[0].toNat:Int)==1)=false:=(DR s[0] 1).trans (decide_eq_false h1);have o:((s[0].toNat:Int)==2)=false:=(DR s[0] 2).trans (decide_eq_false a);have p:((s[0].toNat:Int)==3)=false:=(DR s[0] 3).trans (decide_eq_false b);clear h0 h1 a b;have f:=d;unfold maxLen at f;have j:(0:Int)<(s.size:Int):=Ϥ;have l:((s.size:Int)==0)=false:=by rw[beq_eq_false_iff_ne];omega
 have i:(s[0].toNat:Int)<=255:=by have:=s[0].toNat_lt;omega
 go_enter func150,ntmps150;go_wp2;exact bodyPost_ret (v:=.tuple #[.agg #[vI (s[0].toNat:Int),Ϗ,ϐ],Ϗ]) (by simp[results,results150,go_sem]) rfl
  ⟨⟨⟨_,0,⟨#[]⟩⟩,0,rfl,Nat.zero_le _,wf0 _ _ ϥ ϥ,IQ c.o _ _⟩,
  by repeat (first|exact bR|(refine below_drewN ?_ _)|apply Below.drew|(refine Below.setCell ?_ Ϧ _)|(refine Below.alloc ?_ ϫ _))
  ⟩
theorem Uh(s:ByteArray)(w:Ϡ)(d:0<s.size)(b:s.size<=maxLen)(h0:s[0]=1)(i:¬1<s.size):
 χ 150 #[.string s] w λe f=>EZ s e/\ϣ w f:=by
 have a:Ϣ (noCell s.data.toList):=by
  show noCell s.data.toList;rw[F2 s d,h0,drop_of_length_le (by rw[A2];omega)];exact Tt
 have h:(s[0].toNat:Int)=1:=by rw[h0];rfl
 clear h0;have c:=b;unfold maxLen at c;have j:(0:Int)<(s.size:Int):=Ϥ;have l:((s.size:Int)==0)=false:=by rw[beq_eq_false_iff_ne];omega
 have g:(s[0].toNat:Int)<=255:=by have:=s[0].toNat_lt;omega
 go_enter func150,ntmps150;go_wp2;exact bodyPost_ret (v:=.tuple #[.agg #[vI 1,Ϗ,ϐ],Ϗ]) (by simp[results,results150,go_sem]) rfl
  ⟨⟨⟨1,0,⟨#[]⟩⟩,0,rfl,Nat.zero_le _,wf0 _ _ ϥ ϥ,IQ a.o _ _⟩,
  by repeat (first|exact bR|(refine below_drewN ?_ _)|apply Below.drew|(refine Below.setCell ?_ Ϧ _)|(refine Below.alloc ?_ ϫ _))
  ⟩
theorem Wk(s:ByteArray)(w:Ϡ)(g:0<s.size)(d:s.size<=maxLen)(h0:s[0]=1)(a:1<s.size):
 χ 150 #[.string s] w λe h=>EZ s e/\ϣ w h:=by
 have b:Ϣ (reads s.data.toList ⟨1,(s[1].toNat:Int),⟨#[]⟩⟩ 2):=by
  show reads s.data.toList ⟨1,(s[1].toNat:Int),⟨#[]⟩⟩ 2;rw[F2 s g,h0,BG s 1 a];exact Wh _ _
 have c:Ϣ ((⟨1,(s[1].toNat:Int),⟨#[]⟩⟩:Cel).wf):=by
  have:=s[1].toNat_lt;exact wf0 _ _ Ϥ Ϥ
 have l:(s[0].toNat:Int)=1:=by rw[h0];rfl
 have j:(s[1].toNat:Int)<=255:=by have:=s[1].toNat_lt;omega
 clear h0;have f:=d;unfold maxLen at f;have m:(0:Int)<(s.size:Int):=Ϥ;have n:((s.size:Int)==0)=false:=by rw[beq_eq_false_iff_ne];omega
 have i:(s[0].toNat:Int)<=255:=by have:=s[0].toNat_lt;omega
 go_enter func150,ntmps150;go_wp2;exact bodyPost_ret (v:=.tuple #[.agg #[vI 1,vI (s[1].toNat:Int),ϐ],vI 2]) (by simp[results,results150,go_sem]) rfl
  ⟨⟨⟨1,_,⟨#[]⟩⟩,2,rfl,a,c.o,b.o⟩,
  by repeat (first|exact bR|(refine below_drewN ?_ _)|apply Below.drew|(refine Below.setCell ?_ Ϧ _)|(refine Below.alloc ?_ ϫ _))
  ⟩
theorem Wl(s:ByteArray)(w:Ϡ)(d:0<s.size)(b:s.size<=maxLen)(h0:s[0]=2)(i:¬8<s.size):
 χ 150 #[.string s] w λe f=>EZ s e/\ϣ w f:=by
 have a:Ϣ (noCell s.data.toList):=by
  show noCell s.data.toList;rw[F2 s d,h0];exact Abp (by rw[length_drop,A2];omega)
 have h:(s[0].toNat:Int)=2:=by rw[h0];rfl
 clear h0;have c:=b;unfold maxLen at c;have j:(0:Int)<(s.size:Int):=Ϥ;have l:((s.size:Int)==0)=false:=by rw[beq_eq_false_iff_ne];omega
 have g:(s[0].toNat:Int)<=255:=by have:=s[0].toNat_lt;omega
 go_enter func150,ntmps150;go_wp2;exact bodyPost_ret (v:=.tuple #[.agg #[vI 2,Ϗ,ϐ],Ϗ]) (by simp[results,results150,go_sem]) rfl
  ⟨⟨⟨2,0,⟨#[]⟩⟩,0,rfl,Nat.zero_le _,wf0 _ _ ϥ ϥ,IQ a.o _ _⟩,
  by repeat (first|exact bR|(refine below_drewN ?_ _)|apply Below.drew|(refine Below.setCell ?_ Ϧ _)|(refine Below.alloc ?_ ϫ _))
  ⟩
theorem Wm(s:ByteArray)(j:Nat)(h:j+1<s.size):(s.data.toList.drop 1).take (j+1)=(s.data.toList.drop 1).take j++[s[j+1]]:=by
 rw[take_succ_eq_append_getElem (by rw[length_drop,A2];omega)]
 congr 2
 simp only[getElem_drop];have:1+j=j+1:=Ϥ;simp only[this];rfl
theorem Zr:wrap64 (((Bd ([]:List UInt8):Nat)):Int)=0:=by
 have:Bd ([]:List UInt8)=0:=rfl;rw[this];unfold wrap64;omega
theorem Zs(s:ByteArray)(w:Ϡ)(x:0<s.size)(p:s.size<=maxLen)(h0:s[0]=2)(z:8<s.size):
 χ 150 #[.string s] w λe A=>EZ s e/\ϣ w A:=by
 have d:Ϣ (reads s.data.toList ⟨2,(Bd ((s.data.toList.drop 1).take 8):Int) - 9223372036854775808,⟨#[]⟩⟩ 9):=by
  show reads s.data.toList _ 9;rw[F2 s x,h0];exact Zm _ (by rw[length_drop,A2];omega)
 have H:(s[0].toNat:Int)=2:=by rw[h0];rfl
 clear h0;have q:=p;unfold maxLen at q;have L:(0:Int)<(s.size:Int):=Ϥ;have M:((s.size:Int)==0)=false:=by rw[beq_eq_false_iff_ne];omega
 have B:(s[0].toNat:Int)<=255:=by have:=s[0].toNat_lt;omega
 go_enter func150,ntmps150;go_wp2
 go_loop [5,6] (λn i=> ∃j:Nat,j<=8/\i=vI ((j:Int)+1)/\n=vI (wrap64 (Bd ((s.data.toList.drop 1).take j):Int))) (λ_ i=>(9 - intOf i).toNat)
 case atStart=>exact⟨0,Ϥ,rfl,by rw[take_zero,Zr]⟩
 case round=>
  obtain⟨j,E,rfl,rfl⟩:=hrel;obtain⟨u,c⟩:∃u,Bd ((s.data.toList.drop 1).take j)=u:=⟨_,rfl⟩;have a:=hV0 c;rw[c];clear c;by_cases I:j<8
  ·have o:j+1<s.size:=Ϥ;have y:u<72057594037927936:=by
    have l:=FD ((s.data.toList.drop 1).take j);rw[a.o,length_take,length_drop,A2]at l;have D:256 ^ (min j (s.size - 1))<=256 ^ 7:=Nat.pow_le_pow_right Ϥ Ϥ;omega
   have g:=hV0 y;have J:wrap64 (u:Int)=(u:Int):=by unfold wrap64;omega
   have f:Ϣ (Bd ((s.data.toList.drop 1).take (j+1))=u * 256+s[j+1].toNat):=by
    show Bd ((s.data.toList.drop 1).take (j+1))=_;rw[Wm s j o,JK,a.o]
   have C:(s[j+1].toNat:Int)<=255:=by have:=s[j+1].toNat_lt;omega
   have F:(0:Int)<=(j:Int)+1:=Ϥ;have G:(j:Int)+1<(s.size:Int):=Ϥ;go_wp2
   go_round
   case rel=>exact⟨j+1,Ϥ,by go_num,by rw[f.o,Aca u _ g.o s[j+1].toNat_lt]⟩
   case measure=>simp[intOf];omega
  ·have m:j=8:=Ϥ;subst m;have b:Ϣ (u<18446744073709551616):=by
    show u<18446744073709551616;rw[<-a.o];exact K9 _ (by rw[length_take,length_drop,A2];omega)
   have K:=Zq u b.o;go_wp2;exact bodyPost_ret (v:=.tuple #[.agg #[vI 2,vI ((u:Int) - 9223372036854775808),ϐ],vI 9]) (by simp[results,results150,go_sem]) rfl
    ⟨⟨⟨2,_,⟨#[]⟩⟩,9,rfl,z,wf0 _ _ (by have:=b.o;omega) (by have:=b.o;omega),by have h:=d.o;rw[a.o]at h;exact h⟩,by repeat (first|exact bR|(refine below_drewN ?_ _)|apply Below.drew|(refine Below.setCell ?_ Ϧ _)|(refine Below.alloc ?_ ϫ _))⟩
theorem Lv{g:Array Oper}{rest:List Oper}{o:Oper}{a:Act}{Q:Exit->Act->World->Prop}(p:o.guard=none)(s x:Operand)
 (w:o.op= .call {callee:=.builtin .append,args:=#[s,x],argTypes:=#[51,51]}) (base:Nat) (v:Value) (l:List UInt8) (z:a.eval s=v) (c:Ϡ)
 (y:ownB c base v l) (X:Value) (b:UInt8) (n:X=Ef b) (B:Nat) (m:c.heap.size=B) (A:a.eval x=vS (ϋ B) 1 1) (H:l.length+1<=140737488355328) (G:base<=c.heap.size)
 (h:∀e d,ownB d base e (l++[b])->(c.alloc (.cells #[X] 5)).grownBy d v.ownBlock->wpList Tryz.prog g Q rest (a.put o.dst e) d):
 wpList Tryz.prog g Q (o::rest) a (ϊ c #[X] 5):=by
 subst n;subst m;obtain⟨F,q,C,D,E⟩:=info_parts Tryz.info5;refine wpList_append_own _ p s x 51 w base 5 F (.int .u8 0) 1 1 underlying51 q C D E rfl ϥ v l.length (l.map Ef) z
  (World.ownsRow.alloc y _) ⟨c,0,none⟩ 1 1 [Ef b] A rfl (cell_one_new _ _ _) (by intro u f;simp at f;subst f;rfl) Ϯ Ϥ ϩ ?_
 intro e d i j _;refine h e d ?_ j;unfold ownB;rw[lAp,map_append];exact i
theorem Wn(s:ByteArray)(w:Ϡ)(l:0<s.size)(Z:s.size<=140737488355328)(h0:s[0]=3):
 χ 150 #[.string s] w λe P=>EZ s e/\ϣ w P:=by
 have m:=hV0 h0;have J:(s[0].toNat:Int)=3:=by rw[h0];rfl
 clear h0;have i0:(0:Int)<(s.size:Int):=Ϥ;have iz:((s.size:Int)==0)=false:=by rw[beq_eq_false_iff_ne];omega
 have R:(s[0].toNat:Int)<=255:=by have:=s[0].toNat_lt;omega
 go_enter func150,ntmps150;go_wp2
 go_loopw [7,8] (λv i wr=> ∃(k:Nat) (t:List UInt8),1<=k/\k<=s.size/\t.length<k/\i=vI k/\ownB wr (w.heap.size+2) v t/\Below (w.heap.size+2) (ϊ (ϊ w #[Ϗ,Ϗ,ϐ] 119) #[vI 3,Ϗ,ϐ] 119) wr/\Gp s t k) (λ_ i _=>s.size - (intOf i).toNat)
 case atStart=>exact⟨1,[],Nat.le_refl _,l,Ϧ,rfl,World.ownsRow_nil _ _ _ _,bR,good_start s⟩
 case round=>
  obtain⟨k,t,Y,J,aa,rfl,D,a,B⟩:=hrel;have b:=hV0 D;have c:=hV0 B;have M:=a.size;simp only[World.size_alloc]at M;have f:w.heap.size+2<=wr.heap.size:=Ϥ;have I:ϣ w (ϊ (ϊ w #[Ϗ,Ϗ,ϐ] 119) #[vI 3,Ϗ,ϐ] 119):=ϯ.alloc Ϧ _;have A:ϣ w wr:=I.trans (a.mono Ϥ);have q:Δ wr (w+1) 0 (vI 3):=(a.cell Ϧ).trans Ϩ;have u:Δ wr (w+1) 1 (vI 0):=(a.cell Ϧ).trans Ϩ;have x:Δ wr (w+1) 2 (.string ⟨#[]⟩):=(a.cell Ϧ).trans Ϩ;have n:Δ wr w 0 (vI 0):=(a.cell Ϧ).trans Ϩ;have o:Δ wr w 1 (vI 0):=(a.cell Ϧ).trans Ϩ;have p:Δ wr w 2 (.string ⟨#[]⟩):=(a.cell Ϧ).trans Ϩ;have V:Ξ wr (w+1) 0:=(a.frozen Ϧ).trans Ϩ;have W:Ξ wr (w+1) 2:=(a.frozen Ϧ).trans Ϩ;have S:Ξ wr w 0:=(a.frozen Ϧ).trans Ϩ;have T:Ξ wr w 1:=(a.frozen Ϧ).trans Ϩ;have U:Ξ wr w 2:=(a.frozen Ϧ).trans Ϩ;clear D B;by_cases C:k+1<s.size
  ·have K:(k:Int)+1<(s.size:Int):=Ϥ;have L:k<s.size:=Ϥ;by_cases E:((s[k].toNat:Int)==0)=true
   ·have F:s[k]=0:=of_decide_eq_true ((byte_zero s[k]).symm.trans E);have d:=hV0 F;clear F;by_cases y:((s[k+1].toNat:Int)==1)=true
    ·have z:s[k+1]=1:=of_decide_eq_true ((DR s[k+1] 1).symm.trans y);have g:=hV0 z;clear z;have X:=He b.o;go_wp2;exact bodyPost_ret (v:=.tuple #[.agg #[vI 3,Ϗ,.string ⟨t.toArray⟩],vI ((k:Int)+2)]) (by simp[results,results150,go_sem,q,u,x,n,o,p]) rfl
      ⟨⟨⟨3,0,⟨t.toArray⟩⟩,k+2,rfl,Ϥ,⟨⟨by show(-9223372036854775808:Int)<=0;decide,by show(0:Int)<=9223372036854775807;decide⟩,by show t.toArray.size<=maxLen;unfold maxLen;simp;omega⟩,Wi s l m.o t k C c.o d.o g.o⟩,by repeat (first|exact A|(refine Below.setCell ?_ Ϧ _))⟩
    ·have H:((s[k+1].toNat:Int)==1)=false:=by simpa using y
     have g:Ϣ (¬s[k+1]=1):=of_decide_eq_false ((DR s[k+1] 1).symm.trans H);go_wp2_with (at_builtin;refine Lv rfl (.tmp 82) (.tmp 83) rfl (w.heap.size+2) _ t rfl _ b.o _ 0 rfl _ rfl rfl Ϥ f ?_;intro O Q j h);go_roundw;exact⟨k+1+1,t++[0],Ϥ,Ϥ,ϩ,by go_num,j,AX a f b.o h,Zo c.o C d.o g.o⟩;simp[intOf];omega
   ·have N:((s[k].toNat:Int)==0)=false:=by simpa using E
    have d:Ϣ (¬s[k]=0):=of_decide_eq_false ((byte_zero s[k]).symm.trans N);go_wp2_with (at_builtin;refine Lv rfl (.tmp 65) (.tmp 69) rfl (w.heap.size+2) _ t rfl _ b.o _ s[k] rfl _ rfl rfl Ϥ f ?_;intro O Q j h);go_roundw;exact⟨k+1,t++[s[k]],Ϥ,Ϥ,ϩ,by go_num,j,AX a f b.o h,Zn c.o L d.o⟩;simp[intOf];omega
  ·have G:Ϣ (noCell s.data.toList):=by
    show noCell s.data.toList;rw[F2 s l,m.o];exact QT (Zp c.o Ϥ)
   have K:decide ((k:Int)+1<(s.size:Int))=false:=decide_eq_false Ϥ;go_wp2;exact bodyPost_ret (v:=.tuple #[.agg #[vI 3,Ϗ,ϐ],Ϗ]) (by simp[results,results150,go_sem,q,u,x,n,o,p]) rfl
    ⟨⟨⟨3,0,⟨#[]⟩⟩,0,rfl,Nat.zero_le _,wf0 _ _ ϥ ϥ,IQ G.o _ _⟩,by repeat (first|exact A|(refine Below.setCell ?_ Ϧ _))⟩
theorem Qs(s:ByteArray)(w:Ϡ)(i:s.size<=140737488355328):
 χ 150 #[.string s] w λe l=>EZ s e/\ϣ w l:=by
 have b:s.size<=maxLen:=Ϯ;by_cases j:s.size=0
 ·exact Uf s w j
 ·have a:0<s.size:=Ϥ;by_cases g:s[0]=0
  ·exact Wj s w a b g
  ·by_cases d:s[0]=1
   ·by_cases c:1<s.size
    ·exact Wk s w a b d c
    ·exact Uh s w a b d c
   ·by_cases f:s[0]=2
    ·by_cases c:8<s.size
     ·exact Zs s w a b f c
     ·exact Wl s w a b f c
    ·by_cases h:s[0]=3
     ·exact Wn s w a i h
     ·exact Ug s w a b g d f h
theorem RA(q:ByteArray)(m:Nat):(q.extract m q.size).data.toList=q.data.toList.drop m:=Lib.extract_to_end q m
theorem FU(q:ByteArray)(m:Nat):(q.extract m q.size).size=q.size - m:=by rw[ByteArray.size_extract];omega
theorem Zt(s:ByteArray)(r:List Cel)(w:Ϡ)(hm:s.size<=140737488355328)(g:rowOk r)(x:encR r=s.data.toList):
 χ 91 #[.string s] w λe B=>(∃a b,e= .returned (.tuple #[vS a r.length b,.bool true])/\rowAt B a r)/\ϣ w B:=by
 obtain⟨n,i⟩:∃n,r.length=n:=⟨_,rfl⟩;have d:=hV0 i;have h8:=g.1;have V:=hV0 g;have T:=hV0 x;have Y:Ϣ (∀w a b,rowAt w a r->CT 119 #[vS a n b] w (ψ w (vI 0))):=by
  subst i;intro w a b h;exact(Cr a b r w h (Sc g) Ϥ).mono λe B ⟨he,hb⟩=>⟨he.trans (Ad (IZ g)),hb⟩
 have Z:Ϣ (∀w a b,rowAt w a r->CT 125 #[vS a n b] w (ψ w (.string s))):=by
  subst i;intro w a b h;have e:(⟨(encR r).toArray⟩:ByteArray)=s:=str_eq x;rw[<-e];exact Hb a b r w h g
 rw[i]at h8⊢;clear i g x;go_enter func91,ntmps91;go_wp2
 go_loopw [4,5] (λv t wr=> ∃(j:Nat) (q:ByteArray),j<=n/\t= .string q/\q.size<=s.size/\AM wr w v (r.take j)/\ϣ w wr/\q.data.toList=encR (r.drop j)) (λ_ t _=>U0 t)
 case atStart=>exact⟨0,s,Nat.zero_le _,rfl,Nat.le_refl _,World.ownsRow_nil _ _ _ _,bR,T.o.symm⟩
 case round=>
  obtain⟨j,q,hj,rfl,hq,A,z,M⟩:=hrel;have K:(r.take j).length=j:=by rw[length_take,d.o];omega
  obtain⟨a,b,Q⟩:=Jl A;rw[K]at Q;subst Q;have u:=hV0 A;have C:=hV0 M;have P:=z.size;clear A M K;by_cases y:j<n
  ·have ah:((j:Nat):Int)<=8:=Ϥ;have o:=V.o.2 (r.getD j default) (by simp[gDe,show j<r.length by rw[d.o];exact y]);have p:Ϣ (q.data.toList=C3 (r.getD j default)++encR (r.drop (j+1))):=by
    show q.data.toList=_;rw[C.o,FX r j (by rw[d.o];exact y)];rfl
   have X:Ϣ (r.take (j+1)=r.take j++[r.getD j default]):=LQ r j (by rw[d.o];exact y);have af:0<(C3 (r.getD j default)).length:=length_pos_iff.2 (GD o.1);have hz:0<q.size:=by
    have l:=congrArg List.length p.o;rw[lAp,A2]at l;omega
   go_wp2_with fail;refine(Qs q _ Ϥ).mono ?_;rintro e w1 ⟨⟨c,m,rfl,ak,ag,N⟩,H⟩;obtain⟨F,G⟩:=N _ _ o.1 o.2 p.o;have R:Ϣ (c=r.getD j default):=F;have S:Ϣ (m=(C3 (r.getD j default)).length):=G;have ai:0<m:=Ϥ;have al:((m:Int)==0)=false:=by rw[beq_eq_false_iff_ne];omega
   have aj:(m:Int)<=(q.size:Int):=Ϥ;clear F G N ag o af;obtain⟨k,nn,t⟩:=c;have f:=z.trans (H.mono P);have L:=H4 u.o H;go_wp2_with (at_builtin;refine ED rfl (.tmp 24) (.tmp 26) rfl w.heap.size _ (r.take j) rfl _ (Gj L _) ⟨k,nn,t⟩ (w1.heap.size+1) Ϧ rfl (by rw[length_take];omega) (by have:=f.size;simp;omega) ?_;intro v' w2 ae aa);go_roundw
   case rel=>exact⟨j+1,_,Ϥ,rfl,by rw[FU];omega,by rw[X.o,<-R.o];exact ae,DC (f.alloc f.size _) (by have:=f.size;simp;omega) (Gj L _) aa,by rw[RA,p.o,S.o,drop_left]⟩
   case measure=>show(q.extract m q.size).size<q.size;rw[FU];omega
  ·have ab:j=n:=Ϥ;subst ab;have O:r.take j=r:=take_of_length_le (by rw[d.o];omega);have U:Ϣ (AM wr w (vS a j b) r):=by have h:=u.o;rw[O]at h;exact h
   have an:¬0<q.size:=by
    have l:=congrArg List.length C.o;rw[A2,drop_of_length_le (by rw[d.o];omega)]at l;have h2:(encR ([]:List Cel)).length=0:=rfl;rw[h2]at l;omega
   have am:decide ((0:Int)<(q.size:Int))=false:=decide_eq_false Ϥ;have D:Ϣ (rowAt wr a r):=FF (r:=r) (cap:=b) (by rw[d.o];exact U.o);clear O u;go_wp2_with fail;refine(Y.o _ a b D.o).mono ?_;rintro e wk ⟨rfl,I⟩;have E:Ϣ (rowAt wk a r):=Ac D.o I;have f:=z.trans (I.mono P);go_wp2_with fail;refine(Z.o _ a b E.o).mono ?_;rintro e wl ⟨rfl,J⟩;have W:Ϣ (rowAt wl a r):=Ac E.o J;have ac:=bT f J;go_wp2
   go_ret2
   exact⟨⟨a,b,rfl,W.o⟩,ac⟩
theorem Acb(h:encR r≠s.data.toList):((⟨(encR r).toArray⟩:ByteArray).toList==s.toList)=false:=by
 rw[Lib.toList_data,Lib.toList_data,beq_eq_false_iff_ne];exact h
theorem O6(h:Au r=0)(b:Bq r):rowOk r:=by
 unfold Au at h;split at h
 ·cases h
 ·rename_i d;exact⟨Ϥ,λc a=>⟨I9 h c a,b c a⟩⟩
theorem Acd(s:ByteArray)(w:Ϡ)(hm:s.size<=140737488355328)(L:NV s.data.toList):
 χ 91 #[.string s] w (ψ w (.tuple #[ώ,ϑ])):=by
 have I:=hV0 L;clear L;go_enter func91,ntmps91;go_wp2
 go_loopw [4,5] (λv t wr=> ∃(r:List Cel) (q:ByteArray),t= .string q/\q.size<=s.size/\AM wr w v r/\ϣ w wr/\r.length<=9/\Bq r) (λ_ t _=>U0 t)
 case atStart=>exact⟨[],s,rfl,Nat.le_refl _,World.ownsRow_nil _ _ _ _,bR,Ϧ,λc F=>by cases F⟩
 case round=>
  obtain⟨r,q,rfl,hq,B,o,h9,N⟩:=hrel;obtain⟨a,g,V⟩:=Jl B;subst V;have Q:=hV0 B;have i:Ϣ (Bq r):=N;have n:Ϣ (rowAt wr a r):=FF B;have y:=o.size;clear B N;by_cases hz:0<q.size
  ·by_cases Z:r.length<=8
   ·have R:((r.length:Nat):Int)<=8:=Ϥ;go_wp2_with fail;refine(Qs q _ Ϥ).mono ?_;rintro e X ⟨⟨c,m,rfl,ab,K,_⟩,J⟩;have P:Ϣ (c.wf):=K;have b:=o.trans (J.mono y);have M:=H4 Q.o J;have aa:(m:Int)<=(q.size:Int):=Ϥ;clear K;obtain⟨k,O,t⟩:=c;by_cases T:m=0
    ·subst T;go_wp2
     go_ret2
     exact⟨rfl,b.alloc b.size _⟩
    ·have ac:((m:Int)==0)=false:=by rw[beq_eq_false_iff_ne];omega
     go_wp2_with (at_builtin;refine ED rfl (.tmp 24) (.tmp 26) rfl w.heap.size _ r rfl _ (Gj M _) ⟨k,O,t⟩ (X.heap.size+1) Ϧ rfl Ϥ (by have:=b.size;simp;omega) ?_;intro v' w2 U S);go_roundw
     case rel=>exact⟨r++[⟨k,O,t⟩],_,rfl,by rw[FU];omega,U,DC (b.alloc b.size _) (by have:=b.size;simp;omega) (Gj M _) S,by rw[lAp];simp;omega,λc F=>by
      rcases mem_append.1 F with h|h
      ·exact i.o c h
      ·rw[mem_singleton.1 h];exact P.o⟩
     case measure=>show(q.extract m q.size).size<q.size;rw[FU];omega
   ·have R:decide (((r.length:Nat):Int)<=8)=false:=decide_eq_false Ϥ;by_cases f:Au r=0
    ·have l:=O6 f i.o;have H:=Acb (I.o r l);have p:=hIz (λ(w:Ϡ) (h:rowAt w a r)=>Hb a g r w h l);have j:Ϣ (∀w,rowAt w a r->CT 119 #[vS a r.length g] w (ψ w (vI 0))):=λw h=>
      (Cr a g r w h i.o Ϥ).mono λe W ⟨u,D⟩=>⟨u.trans (Ad f),D⟩
     obtain⟨x,z⟩:∃x,(⟨(encR r).toArray⟩:ByteArray)=x:=⟨_,rfl⟩;rw[z]at H p;clear l z f;go_wp2_with fail;refine(j.o _ n.o).mono ?_;rintro e A ⟨rfl,d⟩;have C:Ϣ (rowAt A a r):=Ac n.o d;have b:=o.trans (d.mono y);go_wp2_with fail;refine(p.o _ C.o).mono ?_;rintro e Y ⟨rfl,E⟩;have G:=bT b E;go_wp2
     go_ret2
     exact⟨rfl,G⟩
    ·have u:(Au r==0)=false:=by simpa using f
     have j:=hIz (λ(w:Ϡ) (h:rowAt w a r)=>Cr a g r w h i.o Ϥ);go_wp2_with fail;refine(j.o _ n.o).mono ?_;rintro e A ⟨rfl,d⟩;have b:=o.trans (d.mono y);go_wp2
     go_ret2
     exact⟨rfl,b⟩
  ·have ae:decide ((0:Int)<(q.size:Int))=false:=decide_eq_false Ϥ;by_cases f:Au r=0
   ·have l:=O6 f i.o;have H:=Acb (I.o r l);have p:=hIz (λ(w:Ϡ) (h:rowAt w a r)=>Hb a g r w h l);have j:Ϣ (∀w,rowAt w a r->CT 119 #[vS a r.length g] w (ψ w (vI 0))):=λw h=>
     (Cr a g r w h i.o Ϥ).mono λe W ⟨u,D⟩=>⟨u.trans (Ad f),D⟩
    obtain⟨x,z⟩:∃x,(⟨(encR r).toArray⟩:ByteArray)=x:=⟨_,rfl⟩;rw[z]at H p;clear l z f;go_wp2_with fail;refine(j.o _ n.o).mono ?_;rintro e A ⟨rfl,d⟩;have C:Ϣ (rowAt A a r):=Ac n.o d;have b:=o.trans (d.mono y);go_wp2_with fail;refine(p.o _ C.o).mono ?_;rintro e Y ⟨rfl,E⟩;have G:=bT b E;go_wp2
    go_ret2
    exact⟨rfl,G⟩
   ·have u:(Au r==0)=false:=by simpa using f
    have j:=hIz (λ(w:Ϡ) (h:rowAt w a r)=>Cr a g r w h i.o Ϥ);go_wp2_with fail;refine(j.o _ n.o).mono ?_;rintro e A ⟨rfl,d⟩;have b:=o.trans (d.mono y);go_wp2
    go_ret2
    exact⟨rfl,b⟩
end vl
end Go.Proofs.YtfkihidbnfkbaaaGreatDoor
