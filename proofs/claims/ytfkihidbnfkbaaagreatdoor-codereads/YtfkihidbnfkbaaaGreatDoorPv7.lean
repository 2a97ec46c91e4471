import Derived.Test.YtfkihidbnfkbaaaGreatDoorPv5
set_option linter.all false
set_option maxHeartbeats 4000000
set_option maxRecDepth 100000
open List renaming length->ϲ
namespace Go.Proofs.YtfkihidbnfkbaaaGreatDoor
open ChangeShapes WideShapes ChangeAt RowKit List Proofs.Tryz
namespace vl
variable {s : ByteArray} {t : List UInt8} {k : Nat} {r : List Cel}
def reads(l:List UInt8)(c:Cel)(m:Nat):Prop:=∀(d:Cel) t,d.ok->d.wf->l=C1 d++t->c=d/\m=ϲ (C1 d)
def Fq(s:ByteArray)(e:Ending):Prop:=∃(c:Cel) (m:Nat),e= .returned (.tuple #[.agg #[vI c.k,vI c.n,.string c.s],vI (m:Int)])/\m<=s.size/\c.wf/\reads s.data.toList c m
def reads_nil(c:Cel)(m:Nat):reads [] c m:=λd t a _ h=>absurd (gG.1 h.symm).1 (GO a)
def Jr{l:List UInt8}(h:noCell l)(c:Cel)(m:Nat):reads l c m:=λd t a b e=>absurd e (h d t a b)
def Xg(l:List UInt8):reads (0::l) ⟨0,0,⟨#[]⟩⟩ 1:=λd t a b h=>by
 obtain⟨rfl,_⟩:=Lb (c:=⟨0,0,⟨#[]⟩⟩) (x:=l) (Oc _ _ _ Ϥ) a (wf0 _ _ Ϥ Ϥ) b h;exact⟨rfl,rfl⟩
def Xh(b:UInt8)(l:List UInt8):reads (1::b::l) ⟨1,(b.toNat:Int),⟨#[]⟩⟩ 2:=by
 by_cases a:b=0\/b=1
 ·intro d t g i h;obtain⟨f,e⟩:=Tj b a;have j:=b.toNat_lt;obtain⟨rfl,_⟩:=Lb (c:=⟨1,(b.toNat:Int),⟨#[]⟩⟩) (x:=l) f g (wf0 _ _ ϣ ϣ) i (by rw[e];exact h);exact⟨rfl,by rw[e];rfl⟩
 ·exact Jr (XG (λh=>a (.inl h)) (λh=>a (.inr h))) _ _
def Aax(l:List UInt8)(e:8<=ϲ l):reads (2::l) ⟨2,(AK (l.take 8):Int) - 9223372036854775808,⟨#[]⟩⟩ 9:=λd t b f h=>by
 have g:=Hs (l.take 8) (by rw[DA];omega);obtain⟨rfl,_⟩:=Lb (c:=⟨2,(AK (l.take 8):Int) - 9223372036854775808,⟨#[]⟩⟩) (x:=l.drop 8) (Abp _) b (wf0 _ _ ϣ ϣ) f (by rw[<-Ti l e];exact h);refine⟨rfl,?_⟩;have a:C1 ⟨2,(AK (l.take 8):Int) - 9223372036854775808,⟨#[]⟩⟩=2::be8 (((AK (l.take 8):Int) - 9223372036854775808)+9223372036854775808).toNat 8:=rfl;rw[a,DP,DZ]
def GA(s:ByteArray)(t:List UInt8)(k:Nat):Prop:=∀t0 rest,s.data.toList.drop 1=Bq t0++0::1::rest->∃t2,t0=t++t2/\s.data.toList.drop k=Bq t2++0::1::rest
def good_start(s:ByteArray):GA s [] 1:=λa rest h=>⟨a,rfl,h⟩
theorem Aay(h:GA s t k)(i:k<s.size)(d:s[k]≠0):GA s (t++[s[k]]) (k+1):=λj rest g=>by
 obtain⟨b,f,a⟩:=h j rest g;rw[BE s k i]at a
 cases b with
 |nil=>simp[Bq]at a;exact absurd a.1 d
 |cons c b=>
  rw[CH]at a;by_cases e:c=0
  ·rw[AE e]at a;simp at a;exact absurd a.1 d
  ·rw[AC e]at a;simp only[KY,JV,bW]at a;exact⟨b,by rw[f,a.1];simp,a.2⟩
theorem Aaz(h:GA s t k)(j:k+1<s.size)(g:s[k]=0)(i:s[k+1]≠1):GA s (t++[0]) (k+1+1):=λl rest f=>by
 obtain⟨d,e,a⟩:=h l rest f;rw[BE s k ϣ,BE s (k+1) j,g]at a
 cases d with
 |nil=>simp[Bq]at a;exact absurd a.1 i
 |cons c d=>
  rw[CH]at a;by_cases b:c=0
  ·rw[AE b]at a;simp only[KY,JV,bW]at a;exact⟨d,by rw[e,b];simp,a.2.2⟩
  ·rw[AC b]at a;simp at a;exact absurd a.1.symm b
theorem Adh(h:GA s t k)(j:k+1<s.size)(g:s[k]=0)(i:s[k+1]=1)(b rest:List UInt8)
 (h0:s.data.toList.drop 1=Bq b++0::1::rest):b=t/\k=1+ϲ (Bq b):=by
 obtain⟨e,f,a⟩:=h b rest h0;have l:=Bk List.length h0;have m:=Bk List.length a;rw[BE s k ϣ,BE s (k+1) j,g,i]at a;have:e=[]:=by
  cases e with
  |nil=>rfl
  |cons c e=>
   rw[CH]at a;by_cases d:c=0
   ·rw[AE d]at a;simp at a
   ·rw[AC d]at a;simp at a;exact absurd a.1.symm d
 subst this;rw[Nd]at f;refine⟨f,?_⟩;simp only[RC,lAp,DP,A2,Bq,flatMap_nil,NS]at l m;unfold Bq;omega
def Aa0(h:GA s t k)(e:s.size<=k+1):Gm (s.data.toList.drop 1):=λc rest _ b=>by
 obtain⟨f,d,a⟩:=h c rest b;have:=Bk List.length a;simp only[RC,lAp,DP,A2]at this;omega
theorem Xi(s:ByteArray)(j:0<s.size)(h0:s[0]=3)(t:List UInt8)(k:Nat)(i:k+1<s.size)(h:GA s t k)(c:s[k]=0)(f:s[k+1]=1):reads s.data.toList ⟨3,0,⟨t.toArray⟩⟩ (k+2):=λd r g o e=>by
 have e0:s.data.toList=s[0]::s.data.toList.drop 1:=by have:=BE s 0 j;simpa using this
 rw[e0,h0]at e;rcases encC_cases g with⟨_,a⟩|⟨_,a⟩|⟨_,a⟩|⟨n,_,a⟩|⟨q,rfl,m,a⟩<;>rw[a]at e<;>simp only[KY,JV,bW]at e
 ·exact absurd e.1 Ϥ
 ·exact absurd e.1 Ϥ
 ·exact absurd e.1 Ϥ
 ·exact absurd e.1 Ϥ
 ·obtain⟨b,l⟩:=Adh h i c f q.data.toList r (by simpa using e.2);refine⟨by rw[<-b],?_⟩;rw[a];simp only[DP,lAp,NS];omega
def FD(s:ByteArray)(a:0<s.size):s.data.toList=s[0]::s.data.toList.drop 1:=by have:=BE s 0 a;simpa using this
def wrap_i64(x:Int):IntKind.i64.wrap x=wrap64 x:=by
 simp only[IntKind.wrap,IntKind.signed,IntKind.bits,wrap64];simp;split<;>omega
def Pu(x:Nat)(a:x<18446744073709551616):(BitVec.ofInt 64 (wrap64 (x:Int))).toNat=x:=by
 rw[bM];show((wrap64 (x:Int)) % 18446744073709551616).toNat=x;unfold wrap64;omega
def U8(u b:Nat)(e:u<72057594037927936)(d:b<256):bits BinOp.or IntKind.i64 (wrap64 ((u:Int) * 256)) (b:Int)=wrap64 ((u * 256+b:Nat):Int):=by
 unfold bits;simp only[wrap_i64];rw[BitVec.toNat_or];have a:(BitVec.ofInt IntKind.i64.bits (wrap64 ((u:Int) * 256))).toNat=u * 256:=by
  have:=Pu (u * 256) ϣ;rw[show((u * 256:Nat):Int)=(u:Int) * 256 by omega]at this;exact this
 have c:(BitVec.ofInt IntKind.i64.bits (b:Int)).toNat=b:=GQ b ϣ;rw[a,c,Abl u b d]
theorem Aa1(u:Nat)(c:u<18446744073709551616):bits BinOp.xor IntKind.i64 (wrap64 (u:Int)) (-9223372036854775808)=(u:Int) - 9223372036854775808:=by
 unfold bits;simp only[wrap_i64];rw[dT];have a:(BitVec.ofInt IntKind.i64.bits (wrap64 (u:Int))).toNat=u:=Pu u c;have b:(BitVec.ofInt IntKind.i64.bits (-9223372036854775808)).toNat=9223372036854775808:=by rw[bM];rfl
 rw[a,b];by_cases h:u<9223372036854775808
 ·have:=Ns u ϣ;rw[show(2:Nat) ^ 63=9223372036854775808 by decide]at this;rw[this];unfold wrap64;omega
 ·have:=NU u ϣ ϣ;rw[show(2:Nat) ^ 63=9223372036854775808 by decide]at this;rw[this];unfold wrap64;omega
def U9(s:ByteArray)(w:ϟ)(b:s.size=0):
 χ 150 #[.string s] w λe c=>Fq s e/\Ϣ w c:=by
 have a:ϡ (s.data.toList=[]):=fE (by rw[A2];exact b);go_enter func150,ntmps150;go_wp2;exact CD (v:=.tuple #[.agg #[Ϗ,Ϗ,ϐ],Ϗ]) (by simp[results,results150,go_sem]) rfl
  ⟨⟨⟨0,0,⟨#[]⟩⟩,0,rfl,At _,wf0 _ _ Ϥ Ϥ,by rw[a.o];exact reads_nil _ _⟩,
  by repeat (first|exact bR|(refine NK ?_ _)|apply KD|(refine KZ ?_ ϥ _)|(refine DH ?_ Ϫ _))
  ⟩
theorem Xj(s:ByteArray)(w:ϟ)(a:0<s.size)(c:s.size<=maxLen)(h0:s[0]=0):
 χ 150 #[.string s] w λe f=>Fq s e/\Ϣ w f:=by
 have b:ϡ (reads s.data.toList ⟨0,0,⟨#[]⟩⟩ 1):=by
  show reads s.data.toList ⟨0,0,⟨#[]⟩⟩ 1;rw[FD s a,h0];exact Xg _
 have h:(s[0].toNat:Int)=0:=by rw[h0];rfl
 clear h0;have d:=c;unfold maxLen at d;have i:(0:Int)<(s.size:Int):=ϣ;have j:((s.size:Int)==0)=false:=by rw[K5];omega
 have g:(s[0].toNat:Int)<=255:=by have:=s[0].toNat_lt;omega
 go_enter func150,ntmps150;go_wp2;exact CD (v:=.tuple #[.agg #[Ϗ,Ϗ,ϐ],vI 1]) (by simp[results,results150,go_sem]) rfl
  ⟨⟨⟨0,0,⟨#[]⟩⟩,1,rfl,a,wf0 _ _ Ϥ Ϥ,b.o⟩,
  by repeat (first|exact bR|(refine NK ?_ _)|apply KD|(refine KZ ?_ ϥ _)|(refine DH ?_ Ϫ _))
  ⟩
theorem UA(s:ByteArray)(w:ϟ)(g:0<s.size)(d:s.size<=maxLen)(h0:s[0]≠0)(h1:s[0]≠1)(a:s[0]≠2)(b:s[0]≠3):
 χ 150 #[.string s] w λe h=>Fq s e/\Ϣ w h:=by
 have c:ϡ (noCell s.data.toList):=by
  show noCell s.data.toList;rw[FD s g];exact XF h0 h1 a b
 have m:((s[0].toNat:Int)==0)=false:=(DO s[0] 0).trans (BP h0);have n:((s[0].toNat:Int)==1)=false:=(DO s[0] 1).trans (BP h1);have o:((s[0].toNat:Int)==2)=false:=(DO s[0] 2).trans (BP a);have p:((s[0].toNat:Int)==3)=false:=(DO s[0] 3).trans (BP b);clear h0 h1 a b;have f:=d;unfold maxLen at f;have j:(0:Int)<(s.size:Int):=ϣ;have l:((s.size:Int)==0)=false:=by rw[K5];omega
 have i:(s[0].toNat:Int)<=255:=by have:=s[0].toNat_lt;omega
 go_enter func150,ntmps150;go_wp2;exact CD (v:=.tuple #[.agg #[vI (s[0].toNat:Int),Ϗ,ϐ],Ϗ]) (by simp[results,results150,go_sem]) rfl
  ⟨⟨⟨_,0,⟨#[]⟩⟩,0,rfl,At _,wf0 _ _ Ϥ Ϥ,Jr c.o _ _⟩,
  by repeat (first|exact bR|(refine NK ?_ _)|apply KD|(refine KZ ?_ ϥ _)|(refine DH ?_ Ϫ _))
  ⟩
theorem UC(s:ByteArray)(w:ϟ)(d:0<s.size)(b:s.size<=maxLen)(h0:s[0]=1)(i:¬1<s.size):
 χ 150 #[.string s] w λe f=>Fq s e/\Ϣ w f:=by
 have a:ϡ (noCell s.data.toList):=by
  show noCell s.data.toList;rw[FD s d,h0,aN (by rw[A2];omega)];exact Tg
 have h:(s[0].toNat:Int)=1:=by rw[h0];rfl
 clear h0;have c:=b;unfold maxLen at c;have j:(0:Int)<(s.size:Int):=ϣ;have l:((s.size:Int)==0)=false:=by rw[K5];omega
 have g:(s[0].toNat:Int)<=255:=by have:=s[0].toNat_lt;omega
 go_enter func150,ntmps150;go_wp2;exact CD (v:=.tuple #[.agg #[vI 1,Ϗ,ϐ],Ϗ]) (by simp[results,results150,go_sem]) rfl
  ⟨⟨⟨1,0,⟨#[]⟩⟩,0,rfl,At _,wf0 _ _ Ϥ Ϥ,Jr a.o _ _⟩,
  by repeat (first|exact bR|(refine NK ?_ _)|apply KD|(refine KZ ?_ ϥ _)|(refine DH ?_ Ϫ _))
  ⟩
theorem Xk(s:ByteArray)(w:ϟ)(g:0<s.size)(d:s.size<=maxLen)(h0:s[0]=1)(a:1<s.size):
 χ 150 #[.string s] w λe h=>Fq s e/\Ϣ w h:=by
 have b:ϡ (reads s.data.toList ⟨1,(s[1].toNat:Int),⟨#[]⟩⟩ 2):=by
  show reads s.data.toList ⟨1,(s[1].toNat:Int),⟨#[]⟩⟩ 2;rw[FD s g,h0,BE s 1 a];exact Xh _ _
 have c:ϡ ((⟨1,(s[1].toNat:Int),⟨#[]⟩⟩:Cel).wf):=by
  have:=s[1].toNat_lt;exact wf0 _ _ ϣ ϣ
 have l:(s[0].toNat:Int)=1:=by rw[h0];rfl
 have j:(s[1].toNat:Int)<=255:=by have:=s[1].toNat_lt;omega
 clear h0;have f:=d;unfold maxLen at f;have m:(0:Int)<(s.size:Int):=ϣ;have n:((s.size:Int)==0)=false:=by rw[K5];omega
 have i:(s[0].toNat:Int)<=255:=by have:=s[0].toNat_lt;omega
 go_enter func150,ntmps150;go_wp2;exact CD (v:=.tuple #[.agg #[vI 1,vI (s[1].toNat:Int),ϐ],vI 2]) (by simp[results,results150,go_sem]) rfl
  ⟨⟨⟨1,_,⟨#[]⟩⟩,2,rfl,a,c.o,b.o⟩,
  by repeat (first|exact bR|(refine NK ?_ _)|apply KD|(refine KZ ?_ ϥ _)|(refine DH ?_ Ϫ _))
  ⟩
theorem Xl(s:ByteArray)(w:ϟ)(d:0<s.size)(b:s.size<=maxLen)(h0:s[0]=2)(i:¬8<s.size):
 χ 150 #[.string s] w λe f=>Fq s e/\Ϣ w f:=by
 have a:ϡ (noCell s.data.toList):=by
  show noCell s.data.toList;rw[FD s d,h0];exact Abn (by rw[RC,A2];omega)
 have h:(s[0].toNat:Int)=2:=by rw[h0];rfl
 clear h0;have c:=b;unfold maxLen at c;have j:(0:Int)<(s.size:Int):=ϣ;have l:((s.size:Int)==0)=false:=by rw[K5];omega
 have g:(s[0].toNat:Int)<=255:=by have:=s[0].toNat_lt;omega
 go_enter func150,ntmps150;go_wp2;exact CD (v:=.tuple #[.agg #[vI 2,Ϗ,ϐ],Ϗ]) (by simp[results,results150,go_sem]) rfl
  ⟨⟨⟨2,0,⟨#[]⟩⟩,0,rfl,At _,wf0 _ _ Ϥ Ϥ,Jr a.o _ _⟩,
  by repeat (first|exact bR|(refine NK ?_ _)|apply KD|(refine KZ ?_ ϥ _)|(refine DH ?_ Ϫ _))
  ⟩
def Xm(s:ByteArray)(j:Nat)(h:j+1<s.size):(s.data.toList.drop 1).take (j+1)=(s.data.toList.drop 1).take j++[s[j+1]]:=by
 rw[M1 (by rw[RC,A2];omega)]
 congr 2
 simp only[fz];have:1+j=j+1:=ϣ;simp only[this];rfl
def Aa2:wrap64 (((AK ([]:List UInt8):Nat)):Int)=0:=by
 have:AK ([]:List UInt8)=0:=rfl;rw[this];unfold wrap64;omega
theorem Aa3(s:ByteArray)(w:ϟ)(x:0<s.size)(p:s.size<=maxLen)(h0:s[0]=2)(z:8<s.size):
 χ 150 #[.string s] w λe A=>Fq s e/\Ϣ w A:=by
 have d:ϡ (reads s.data.toList ⟨2,(AK ((s.data.toList.drop 1).take 8):Int) - 9223372036854775808,⟨#[]⟩⟩ 9):=by
  show reads s.data.toList _ 9;rw[FD s x,h0];exact Aax _ (by rw[RC,A2];omega)
 have H:(s[0].toNat:Int)=2:=by rw[h0];rfl
 clear h0;have q:=p;unfold maxLen at q;have L:(0:Int)<(s.size:Int):=ϣ;have M:((s.size:Int)==0)=false:=by rw[K5];omega
 have B:(s[0].toNat:Int)<=255:=by have:=s[0].toNat_lt;omega
 go_enter func150,ntmps150;go_wp2
 go_loop [5,6] (λn i=> ∃j:Nat,j<=8/\i=vI ((j:Int)+1)/\n=vI (wrap64 (AK ((s.data.toList.drop 1).take j):Int))) (λ_ i=>(9 - intOf i).toNat)
 case atStart=>exact⟨0,ϣ,rfl,by rw[take_zero,Aa2]⟩
 case round=>
  obtain⟨j,E,rfl,rfl⟩:=hrel;obtain⟨u,c⟩:∃u,AK ((s.data.toList.drop 1).take j)=u:=⟨_,rfl⟩;have a:=hV0 c;rw[c];clear c;by_cases I:j<8
  ·have o:j+1<s.size:=ϣ;have y:u<72057594037927936:=by
    have l:=EN ((s.data.toList.drop 1).take j);rw[a.o,DA,RC,A2]at l;have D:256 ^ (min j (s.size - 1))<=256 ^ 7:=dV ϣ ϣ;omega
   have g:=hV0 y;have J:wrap64 (u:Int)=(u:Int):=by unfold wrap64;omega
   have f:ϡ (AK ((s.data.toList.drop 1).take (j+1))=u * 256+s[j+1].toNat):=by
    show AK ((s.data.toList.drop 1).take (j+1))=_;rw[Xm s j o,Ij,a.o]
   have C:(s[j+1].toNat:Int)<=255:=by have:=s[j+1].toNat_lt;omega
   have F:(0:Int)<=(j:Int)+1:=ϣ;have G:(j:Int)+1<(s.size:Int):=ϣ;go_wp2
   go_round
   case rel=>exact⟨j+1,ϣ,by go_num,by rw[f.o,U8 u _ g.o s[j+1].toNat_lt]⟩
   case measure=>simp[intOf];omega
  ·have m:j=8:=ϣ;subst m;have b:ϡ (u<18446744073709551616):=by
    show u<18446744073709551616;rw[<-a.o];exact Hs _ (by rw[DA,RC,A2];omega)
   have K:=Aa1 u b.o;go_wp2;exact CD (v:=.tuple #[.agg #[vI 2,vI ((u:Int) - 9223372036854775808),ϐ],vI 9]) (by simp[results,results150,go_sem]) rfl
    ⟨⟨⟨2,_,⟨#[]⟩⟩,9,rfl,z,wf0 _ _ (by have:=b.o;omega) (by have:=b.o;omega),by have h:=d.o;rw[a.o]at h;exact h⟩,by repeat (first|exact bR|(refine NK ?_ _)|apply KD|(refine KZ ?_ ϥ _)|(refine DH ?_ Ϫ _))⟩
theorem LO{g:Array Oper}{rest:List Oper}{o:Oper}{a:Act}{Q:Exit->Act->World->Prop}(p:o.guard=none)(s x:Operand)
 (w:o.op= .call {callee:=.builtin .append,args:=#[s,x],argTypes:=#[51,51]}) (base:Nat) (v:Value) (l:List UInt8) (z:a.eval s=v) (c:ϟ)
 (y:ownB c base v l) (X:Value) (b:UInt8) (n:X=EL b) (B:Nat) (m:c.heap.size=B) (A:a.eval x=vS (ϋ B) 1 1) (H:ϲ l+1<=140737488355328) (G:base<=c.heap.size)
 (h:∀e d,ownB d base e (l++[b])->(c.alloc (.cells #[X] 5)).grownBy d v.ownBlock->wpList prog g Q rest (a.put o.dst e) d):
 wpList prog g Q (o::rest) a (ϊ c #[X] 5):=by
 subst n;subst m;obtain⟨F,q,C,D,E⟩:=IR Tryz.info5;refine Vc _ p s x 51 w base 5 F (.int .u8 0) 1 1 underlying51 q C D E rfl Ϥ v (ϲ l) (l.map EL) z
  (WD y _) ⟨c,0,none⟩ 1 1 [EL b] A rfl (cell_one_new _ _ _) (by intro u f;simp at f;subst f;rfl) ϭ ϣ Ϩ ?_
 intro e d i j _;refine h e d ?_ j;unfold ownB;rw[lAp,DQ];exact i
theorem Xn(s:ByteArray)(w:ϟ)(l:0<s.size)(Z:s.size<=140737488355328)(h0:s[0]=3):
 χ 150 #[.string s] w λe P=>Fq s e/\Ϣ w P:=by
 have m:=hV0 h0;have J:(s[0].toNat:Int)=3:=by rw[h0];rfl
 clear h0;have i0:(0:Int)<(s.size:Int):=ϣ;have iz:((s.size:Int)==0)=false:=by rw[K5];omega
 have R:(s[0].toNat:Int)<=255:=by have:=s[0].toNat_lt;omega
 go_enter func150,ntmps150;go_wp2
 go_loopw [7,8] (λv i wr=> ∃(k:Nat) (t:List UInt8),1<=k/\k<=s.size/\(ϲ t)<k/\i=vI k/\ownB wr (w.heap.size+2) v t/\Below (w.heap.size+2) (ϊ (ϊ w #[Ϗ,Ϗ,ϐ] 119) #[vI 3,Ϗ,ϐ] 119) wr/\GA s t k) (λ_ i _=>s.size - (intOf i).toNat)
 case atStart=>exact⟨1,[],HU _,l,ϥ,rfl,KX _ _ _ _,bR,good_start s⟩
 case round=>
  obtain⟨k,t,Y,J,aa,rfl,D,a,B⟩:=hrel;have b:=hV0 D;have c:=hV0 B;have M:=a.size;simp only[D0]at M;have f:w.heap.size+2<=wr.heap.size:=ϣ;have I:Ϣ w (ϊ (ϊ w #[Ϗ,Ϗ,ϐ] 119) #[vI 3,Ϗ,ϐ] 119):=Ϯ.alloc ϥ _;have A:Ϣ w wr:=I.trans (a.mono ϣ);have q:Δ wr (w+1) 0 (vI 3):=(a.cell ϥ).trans ϧ;have u:Δ wr (w+1) 1 (vI 0):=(a.cell ϥ).trans ϧ;have x:Δ wr (w+1) 2 (.string ⟨#[]⟩):=(a.cell ϥ).trans ϧ;have n:Δ wr w 0 (vI 0):=(a.cell ϥ).trans ϧ;have o:Δ wr w 1 (vI 0):=(a.cell ϥ).trans ϧ;have p:Δ wr w 2 (.string ⟨#[]⟩):=(a.cell ϥ).trans ϧ;have V:Ξ wr (w+1) 0:=(a.frozen ϥ).trans ϧ;have W:Ξ wr (w+1) 2:=(a.frozen ϥ).trans ϧ;have S:Ξ wr w 0:=(a.frozen ϥ).trans ϧ;have T:Ξ wr w 1:=(a.frozen ϥ).trans ϧ;have U:Ξ wr w 2:=(a.frozen ϥ).trans ϧ;clear D B;by_cases C:k+1<s.size
  ·have K:(k:Int)+1<(s.size:Int):=ϣ;have L:k<s.size:=ϣ;by_cases E:((s[k].toNat:Int)==0)=true
   ·have F:s[k]=0:=Fd ((byte_zero s[k]).symm.trans E);have d:=hV0 F;clear F;by_cases y:((s[k+1].toNat:Int)==1)=true
    ·have z:s[k+1]=1:=Fd ((DO s[k+1] 1).symm.trans y);have g:=hV0 z;clear z;have X:=IQ b.o;go_wp2;exact CD (v:=.tuple #[.agg #[vI 3,Ϗ,.string ⟨t.toArray⟩],vI ((k:Int)+2)]) (by simp[results,results150,go_sem,q,u,x,n,o,p]) rfl
      ⟨⟨⟨3,0,⟨t.toArray⟩⟩,k+2,rfl,ϣ,⟨⟨by show(-9223372036854775808:Int)<=0;decide,by show(0:Int)<=9223372036854775807;decide⟩,by show t.toArray.size<=maxLen;unfold maxLen;simp;omega⟩,Xi s l m.o t k C c.o d.o g.o⟩,by repeat (first|exact A|(refine KZ ?_ ϥ _))⟩
    ·have H:((s[k+1].toNat:Int)==1)=false:=by simpa using y
     have g:ϡ (¬s[k+1]=1):=aO ((DO s[k+1] 1).symm.trans H);go_wp2_with (at_builtin;refine LO rfl (.tmp 82) (.tmp 83) rfl (w.heap.size+2) _ t rfl _ b.o _ 0 rfl _ rfl rfl ϣ f ?_;intro O Q j h);go_roundw;exact⟨k+1+1,t++[0],ϣ,ϣ,Ϩ,by go_num,j,AQ a f b.o h,Aaz c.o C d.o g.o⟩;simp[intOf];omega
   ·have N:((s[k].toNat:Int)==0)=false:=by simpa using E
    have d:ϡ (¬s[k]=0):=aO ((byte_zero s[k]).symm.trans N);go_wp2_with (at_builtin;refine LO rfl (.tmp 65) (.tmp 69) rfl (w.heap.size+2) _ t rfl _ b.o _ s[k] rfl _ rfl rfl ϣ f ?_;intro O Q j h);go_roundw;exact⟨k+1,t++[s[k]],ϣ,ϣ,Ϩ,by go_num,j,AQ a f b.o h,Aay c.o L d.o⟩;simp[intOf];omega
  ·have G:ϡ (noCell s.data.toList):=by
    show noCell s.data.toList;rw[FD s l,m.o];exact Rt (Aa0 c.o ϣ)
   have K:decide ((k:Int)+1<(s.size:Int))=false:=BP ϣ;go_wp2;exact CD (v:=.tuple #[.agg #[vI 3,Ϗ,ϐ],Ϗ]) (by simp[results,results150,go_sem,q,u,x,n,o,p]) rfl
    ⟨⟨⟨3,0,⟨#[]⟩⟩,0,rfl,At _,wf0 _ _ Ϥ Ϥ,Jr G.o _ _⟩,by repeat (first|exact A|(refine KZ ?_ ϥ _))⟩
def QO(s:ByteArray)(w:ϟ)(i:s.size<=140737488355328):
 χ 150 #[.string s] w λe l=>Fq s e/\Ϣ w l:=by
 have b:s.size<=maxLen:=ϭ;by_cases j:s.size=0
 ·exact U9 s w j
 ·have a:0<s.size:=ϣ;by_cases g:s[0]=0
  ·exact Xj s w a b g
  ·by_cases d:s[0]=1
   ·by_cases c:1<s.size
    ·exact Xk s w a b d c
    ·exact UC s w a b d c
   ·by_cases f:s[0]=2
    ·by_cases c:8<s.size
     ·exact Aa3 s w a b f c
     ·exact Xl s w a b f c
    ·by_cases h:s[0]=3
     ·exact Xn s w a i h
     ·exact UA s w a b g d f h
def S7(q:ByteArray)(m:Nat):(q.extract m q.size).data.toList=q.data.toList.drop m:=Lib.extract_to_end q m
def Gc(q:ByteArray)(m:Nat):(q.extract m q.size).size=q.size - m:=by rw[dY];omega
theorem QP(s:ByteArray)(r:List Cel)(w:ϟ)(hm:s.size<=140737488355328)(g:rowOk r)(z:encR r=s.data.toList):
 χ 91 #[.string s] w λe D=>(∃a b,e= .returned (.tuple #[vS a (ϲ r) b,.bool true])/\AF D w (vS a (ϲ r) b) r)/\Ϣ w D:=by
 obtain⟨n,i⟩:∃n,ϲ r=n:=⟨_,rfl⟩;have d:=hV0 i;have h8:=g.1;have V:=hV0 g;have U:=hV0 z;have X:ϡ (∀w a b,rowAt w a r->CT 119 #[vS a n b] w (ψ w (vI 0))):=by
  subst i;intro w a b h;exact(Cq a b r w h (UF g) ϣ).mono λe D ⟨he,hb⟩=>⟨he.trans (Ad (JI g)),hb⟩
 have Y:ϡ (∀w a b,rowAt w a r->CT 125 #[vS a n b] w (ψ w (.string s))):=by
  subst i;intro w a b h;have e:(⟨(encR r).toArray⟩:ByteArray)=s:=str_eq z;rw[<-e];exact Js a b r w h g
 rw[i]at h8⊢;clear i g z;go_enter func91,ntmps91;go_wp2
 go_loopw [4,5] (λv t wr=> ∃(j:Nat) (q:ByteArray),j<=n/\t= .string q/\q.size<=s.size/\AF wr w v (r.take j)/\Ϣ w wr/\q.data.toList=encR (r.drop j)) (λ_ t _=>Xo t)
 case atStart=>exact⟨0,s,At _,rfl,HU _,KX _ _ _ _,bR,U.o.symm⟩
 case round=>
  obtain⟨j,q,hj,rfl,hq,C,B,N⟩:=hrel;have L:ϲ (r.take j)=j:=by rw[DA,d.o];omega
  obtain⟨a,b,R⟩:=J4 C;rw[L]at R;subst R;have u:=hV0 C;have F:=hV0 N;have Q:=B.size;clear C N L;by_cases A:j<n
  ·have ai:((j:Nat):Int)<=8:=ϣ;have o:=V.o.2 (r.getD j default) (by simp[gDe,show j<ϲ r by rw[d.o];exact A]);have p:ϡ (q.data.toList=C1 (r.getD j default)++encR (r.drop (j+1))):=by
    show q.data.toList=_;rw[F.o,Gf r j (by rw[d.o];exact A)];rfl
   have W:ϡ (r.take (j+1)=r.take j++[r.getD j default]):=Mj r j (by rw[d.o];exact A);have af:0<ϲ (C1 (r.getD j default)):=fD.2 (GO o.1);have hz:0<q.size:=by
    have l:=Bk List.length p.o;rw[lAp,A2]at l;omega
   go_wp2_with fail;refine(QO q _ ϣ).mono ?_;rintro e w1 ⟨⟨c,m,rfl,al,ag,O⟩,K⟩;obtain⟨I,J⟩:=O _ _ o.1 o.2 p.o;have S:ϡ (c=r.getD j default):=I;have T:ϡ (m=ϲ (C1 (r.getD j default))):=J;have aj:0<m:=ϣ;have am:((m:Int)==0)=false:=by rw[K5];omega
   have ak:(m:Int)<=(q.size:Int):=ϣ;clear I J O ag o af;obtain⟨k,nn,t⟩:=c;have f:=B.trans (K.mono Q);have M:=F2 u.o K;go_wp2_with (at_builtin;refine EO rfl (.tmp 24) (.tmp 26) rfl w.heap.size _ (r.take j) rfl _ (Gn M _) ⟨k,nn,t⟩ (w1.heap.size+1) ϥ rfl (by rw[DA];omega) (by have:=f.size;simp;omega) ?_;intro v' w2 ae aa);go_roundw
   case rel=>exact⟨j+1,_,ϣ,rfl,by rw[Gc];omega,by rw[W.o,<-S.o];exact ae,D8 (f.alloc f.size _) (by have:=f.size;simp;omega) (Gn M _) aa,by rw[S7,p.o,T.o,drop_left]⟩
   case measure=>show(q.extract m q.size).size<q.size;rw[Gc];omega
  ·have ab:j=n:=ϣ;subst ab;have P:r.take j=r:=KI (by rw[d.o];omega);have E:ϡ (AF wr w (vS a j b) r):=by have h:=u.o;rw[P]at h;exact h
   have ao:¬0<q.size:=by
    have l:=Bk List.length F.o;rw[A2,aN (by rw[d.o];omega)]at l;have Z:ϲ (encR ([]:List Cel))=0:=rfl;rw[Z]at l;omega
   have an:decide ((0:Int)<(q.size:Int))=false:=BP ϣ;have G:ϡ (rowAt wr a r):=D5 (r:=r) (cap:=b) (by rw[d.o];exact E.o);clear P u;go_wp2_with fail;refine(X.o _ a b G.o).mono ?_;rintro e wk ⟨rfl,x⟩;have H:ϡ (rowAt wk a r):=Ac G.o x;have f:=B.trans (x.mono Q);go_wp2_with fail;refine(Y.o _ a b H.o).mono ?_;rintro e wl ⟨rfl,y⟩;have ah:ϡ (rowAt wl a r):=Ac H.o y;have ac:=bT f y;go_wp2
   go_ret2
   exact⟨⟨a,b,rfl,F2 (F2 E.o x) y⟩,ac⟩
def Adi(h:encR r≠s.data.toList):((⟨(encR r).toArray⟩:ByteArray).toList==s.toList)=false:=by
 rw[aF,aF,K5];exact h
def Pv(h:Aq r=0)(b:B8 r):rowOk r:=by
 unfold Aq at h;split at h
 ·cases h
 ·rename_i d;exact⟨ϣ,λc a=>⟨IU h c a,b c a⟩⟩
theorem UD(s:ByteArray)(w:ϟ)(hm:s.size<=140737488355328)(L:IW s.data.toList):
 χ 91 #[.string s] w (ψ w (.tuple #[ώ,ϑ])):=by
 have I:=hV0 L;clear L;go_enter func91,ntmps91;go_wp2
 go_loopw [4,5] (λv t wr=> ∃(r:List Cel) (q:ByteArray),t= .string q/\q.size<=s.size/\AF wr w v r/\Ϣ w wr/\(ϲ r)<=9/\B8 r) (λ_ t _=>Xo t)
 case atStart=>exact⟨[],s,rfl,HU _,KX _ _ _ _,bR,ϥ,λc F=>by cases F⟩
 case round=>
  obtain⟨r,q,rfl,hq,B,o,h9,N⟩:=hrel;obtain⟨a,g,V⟩:=J4 B;subst V;have Q:=hV0 B;have i:ϡ (B8 r):=N;have n:ϡ (rowAt wr a r):=D5 B;have y:=o.size;clear B N;by_cases hz:0<q.size
  ·by_cases Z:ϲ r<=8
   ·have R:((ϲ r:Nat):Int)<=8:=ϣ;go_wp2_with fail;refine(QO q _ ϣ).mono ?_;rintro e X ⟨⟨c,m,rfl,ab,K,_⟩,J⟩;have P:ϡ (c.wf):=K;have b:=o.trans (J.mono y);have M:=F2 Q.o J;have aa:(m:Int)<=(q.size:Int):=ϣ;clear K;obtain⟨k,O,t⟩:=c;by_cases T:m=0
    ·subst T;go_wp2
     go_ret2
     exact⟨rfl,b.alloc b.size _⟩
    ·have ac:((m:Int)==0)=false:=by rw[K5];omega
     go_wp2_with (at_builtin;refine EO rfl (.tmp 24) (.tmp 26) rfl w.heap.size _ r rfl _ (Gn M _) ⟨k,O,t⟩ (X.heap.size+1) ϥ rfl ϣ (by have:=b.size;simp;omega) ?_;intro v' w2 U S);go_roundw
     case rel=>exact⟨r++[⟨k,O,t⟩],_,rfl,by rw[Gc];omega,U,D8 (b.alloc b.size _) (by have:=b.size;simp;omega) (Gn M _) S,by rw[lAp];simp;omega,λc F=>by
      rcases Fk.1 F with h|h
      ·exact i.o c h
      ·rw[M2.1 h];exact P.o⟩
     case measure=>show(q.extract m q.size).size<q.size;rw[Gc];omega
   ·have R:decide (((ϲ r:Nat):Int)<=8)=false:=BP ϣ;by_cases f:Aq r=0
    ·have l:=Pv f i.o;have H:=Adi (I.o r l);have p:=hIz (λ(w:ϟ) (h:rowAt w a r)=>Js a g r w h l);have j:ϡ (∀w,rowAt w a r->CT 119 #[vS a (ϲ r) g] w (ψ w (vI 0))):=λw h=>
      (Cq a g r w h i.o ϣ).mono λe W ⟨u,D⟩=>⟨u.trans (Ad f),D⟩
     obtain⟨x,z⟩:∃x,(⟨(encR r).toArray⟩:ByteArray)=x:=⟨_,rfl⟩;rw[z]at H p;clear l z f;go_wp2_with fail;refine(j.o _ n.o).mono ?_;rintro e A ⟨rfl,d⟩;have C:ϡ (rowAt A a r):=Ac n.o d;have b:=o.trans (d.mono y);go_wp2_with fail;refine(p.o _ C.o).mono ?_;rintro e Y ⟨rfl,E⟩;have G:=bT b E;go_wp2
     go_ret2
     exact⟨rfl,G⟩
    ·have u:(Aq r==0)=false:=by simpa using f
     have j:=hIz (λ(w:ϟ) (h:rowAt w a r)=>Cq a g r w h i.o ϣ);go_wp2_with fail;refine(j.o _ n.o).mono ?_;rintro e A ⟨rfl,d⟩;have b:=o.trans (d.mono y);go_wp2
     go_ret2
     exact⟨rfl,b⟩
  ·have ae:decide ((0:Int)<(q.size:Int))=false:=BP ϣ;by_cases f:Aq r=0
   ·have l:=Pv f i.o;have H:=Adi (I.o r l);have p:=hIz (λ(w:ϟ) (h:rowAt w a r)=>Js a g r w h l);have j:ϡ (∀w,rowAt w a r->CT 119 #[vS a (ϲ r) g] w (ψ w (vI 0))):=λw h=>
     (Cq a g r w h i.o ϣ).mono λe W ⟨u,D⟩=>⟨u.trans (Ad f),D⟩
    obtain⟨x,z⟩:∃x,(⟨(encR r).toArray⟩:ByteArray)=x:=⟨_,rfl⟩;rw[z]at H p;clear l z f;go_wp2_with fail;refine(j.o _ n.o).mono ?_;rintro e A ⟨rfl,d⟩;have C:ϡ (rowAt A a r):=Ac n.o d;have b:=o.trans (d.mono y);go_wp2_with fail;refine(p.o _ C.o).mono ?_;rintro e Y ⟨rfl,E⟩;have G:=bT b E;go_wp2
    go_ret2
    exact⟨rfl,G⟩
   ·have u:(Aq r==0)=false:=by simpa using f
    have j:=hIz (λ(w:ϟ) (h:rowAt w a r)=>Cq a g r w h i.o ϣ);go_wp2_with fail;refine(j.o _ n.o).mono ?_;rintro e A ⟨rfl,d⟩;have b:=o.trans (d.mono y);go_wp2
    go_ret2
    exact⟨rfl,b⟩
end vl
