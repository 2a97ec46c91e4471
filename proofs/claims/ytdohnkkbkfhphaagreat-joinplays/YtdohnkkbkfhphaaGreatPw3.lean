import Derived.Test.YtdohnkkbkfhphaaGreatPw2
import Derived.Lib.SmallJoins
set_option linter.all false
set_option maxHeartbeats 4000000
set_option maxRecDepth 100000
open Go.ChangeShapes Go.WideShapes Go.ChangeAt Go.RowKit Go.Joins Go.Deep List
namespace Go.Proofs.YtdohnkkbkfhphaaGreat
open Go.Proofs.Tryz
namespace vl
variable {b : UInt8} {l tail : List UInt8} {w w' : ϛ} {base : Nat} {v : Value} {r x : List Cel}
def noCell(l:List UInt8):Prop:=∀(d:Cel) t,d.ok->d.wf->l≠CS d++t
def NU(l:List UInt8)(c:Cel)(rs:ByteArray)(ok:Bool):Prop:=(ok=true/\c.ok/\l=CS c++rs.data.toList)\/((ok=false\/¬c.ok)/\noCell l)
def Gm(l:List UInt8)(e:Ending):Prop:=∃(c:Cel) (rs:ByteArray) (ok:Bool),e= .returned (.tuple #[.agg #[vI c.k,vI c.n,.string c.s],.string rs,.bool ok])/\
 c.wf/\NU l c rs ok
theorem wf0(k n:Int)(h1: -9223372036854775808<=n)(c:n<=9223372036854775807):(⟨k,n,⟨#[]⟩⟩:Cel).wf:=⟨⟨h1,c⟩,Nat.zero_le _⟩
theorem wf3{c:ByteArray}(h:c.size<=65):(⟨3,0,c⟩:Cel).wf:=⟨⟨by show(-9223372036854775808:Int)<=0;decide,by show(0:Int)<=9223372036854775807;decide⟩,by show c.size<=maxLen;unfold maxLen;omega⟩
theorem NV(k n:Int)(s:ByteArray)(h:chk k n s=0):(⟨k,n,s⟩:Cel).ok:=h
theorem Wn(h0:b≠0)(h1:b≠1)(c:b≠2)(f:b≠3):noCell (b::l):=by
 intro d t g i h;rcases encC_cases g with⟨_,e⟩|⟨_,e⟩|⟨_,e⟩|⟨n,_,e⟩|⟨s,_,_,e⟩<;>rw[e]at h<;>simp at h
 ·exact h0 h.1
 ·exact h1 h.1
 ·exact h1 h.1
 ·exact c h.1
 ·exact f h.1
theorem SQ:noCell [1]:=by
 intro d t c f h;rcases encC_cases c with⟨_,e⟩|⟨_,e⟩|⟨_,e⟩|⟨n,_,e⟩|⟨s,_,_,e⟩<;>rw[e]at h<;>simp at h
theorem Wo(h0:b≠0)(h1:b≠1):noCell (1::b::l):=by
 intro d t c f h;rcases encC_cases c with⟨_,e⟩|⟨_,e⟩|⟨_,e⟩|⟨n,_,e⟩|⟨s,_,_,e⟩<;>rw[e]at h<;>simp at h
 ·exact h0 h.1
 ·exact h1 h.1
theorem Aa2(f:l.length<8):noCell (2::l):=by
 intro d t c g h;rcases encC_cases c with⟨_,e⟩|⟨_,e⟩|⟨_,e⟩|⟨n,_,e⟩|⟨s,_,_,e⟩<;>rw[e]at h<;>simp at h;have:=congrArg List.length h;rw[lAp,Ey]at this;omega
theorem QN(f:F5 l):noCell (3::l):=by
 intro d t c i h;rcases encC_cases c with⟨_,e⟩|⟨_,e⟩|⟨_,e⟩|⟨n,_,e⟩|⟨s,_,g,e⟩<;>rw[e]at h<;>simp at h;exact f s.data.toList t (by rw[AU];exact g) (by simpa using h)
theorem SR(l:List UInt8)(d:8<=l.length):2::l=CS ⟨2,(Br (l.take 8):Int) - 9223372036854775808,⟨#[]⟩⟩++l.drop 8:=by
 have e:(((Br (l.take 8):Int) - 9223372036854775808)+9223372036854775808).toNat=Br (l.take 8):=ϟ;have c:CS ⟨2,(Br (l.take 8):Int) - 9223372036854775808,⟨#[]⟩⟩=2::be8 (((Br (l.take 8):Int) - 9223372036854775808)+9223372036854775808).toNat 8:=rfl;rw[c,e,WW _ (by rw[length_take];omega),cons_append,take_append_drop]
theorem DV(s:ByteArray)(h:0<s.size):s.data.toList=s[0]::(s.extract 1 s.size).data.toList:=by
 rw[Lib.extract_to_end];have:=B4 s 0 h;simpa using this
attribute [local go_sem ↓] Go.wp_at_zero Go.wp_at_succ
theorem O0(s r:ByteArray)(w:ϛ)(j:0<s.size)(f:s.size<=maxLen)(i:s.extract 1 s.size=r)(h0:s[0]=0):
 η 212 #[.string s] w λe w'=>Gm s.data.toList e/\Ϟ w w':=by
 have d:ϝ (s.data.toList=s[0]::(s.extract 1 s.size).data.toList):=DV s j;have m:(s[0].toNat:Int)=0:=by rw[h0];rfl
 have c:=hV0 h0;clear h0;unfold maxLen at f;have g:s.extract 1 s.size=r:=i;have n:(0:Int)<(s.size:Int):=ϟ;have k:(s[0].toNat:Int)<=255:=by have:=s[0].toNat_lt;omega
 go_enter func212,ntmps212;go_wp2
 go_quiet (fail)
 go_wp2;exact bodyPost_ret (v:=.tuple #[.agg #[ω,ω,ϊ],.string r,.bool true]) (by simp[results,results212,go_sem]) rfl
  ⟨⟨⟨0,0,⟨#[]⟩⟩,r,true,rfl,wf0 _ _ Ϡ Ϡ,.inl ⟨rfl,NV _ _ _ Ϡ,by have h:=d.o;rw[c.o,g]at h;exact h⟩⟩,by repeat (first|exact bR|(refine below_drewN ?_ _)|apply Below.drew|(refine Below.setCell ?_ ϡ _)|(refine Below.alloc ?_ Ϧ _))⟩
theorem NW(s r:ByteArray)(w:ϛ)(f:0<s.size)(h:s.size<=maxLen)(i:s.extract 1 s.size=r)(h0:s[0]≠0)(h1:s[0]≠1)(c:s[0]≠2)(d:s[0]≠3):
 η 212 #[.string s] w λe w'=>Gm s.data.toList e/\Ϟ w w':=by
 have j:ϝ (s.data.toList=s[0]::(s.extract 1 s.size).data.toList):=DV s f;have g:ϝ (noCell s.data.toList):=by
  show noCell s.data.toList;rw[DV s f];exact Wn h0 h1 c d
 have o:((s[0].toNat:Int)==0)=false:=(DC s[0] 0).trans (decide_eq_false h0);have p:((s[0].toNat:Int)==1)=false:=(DC s[0] 1).trans (decide_eq_false h1);have q:((s[0].toNat:Int)==2)=false:=(DC s[0] 2).trans (decide_eq_false c);have t:((s[0].toNat:Int)==3)=false:=(DC s[0] 3).trans (decide_eq_false d);clear h0 h1 c d;unfold maxLen at h;have m:s.extract 1 s.size=r:=i;have n:(0:Int)<(s.size:Int):=ϟ;have k:(s[0].toNat:Int)<=255:=by have:=s[0].toNat_lt;omega
 go_enter func212,ntmps212;go_wp2
 go_quiet (fail)
 go_wp2;exact bodyPost_ret (v:=.tuple #[.agg #[ω,ω,ϊ],ϊ,ϋ]) (by simp[results,results212,go_sem]) rfl
  ⟨⟨⟨0,0,⟨#[]⟩⟩,⟨#[]⟩,false,rfl,wf0 _ _ Ϡ Ϡ,.inr ⟨.inl rfl,g.o⟩⟩,by repeat (first|exact bR|(refine below_drewN ?_ _)|apply Below.drew|(refine Below.setCell ?_ ϡ _)|(refine Below.alloc ?_ Ϧ _))⟩
theorem NX(s r:ByteArray)(w:ϛ)(h:0<s.size)(f:s.size<=maxLen)(c:s.extract 1 s.size=r)(h0:s[0]=1)(g:r.size=0):
 η 212 #[.string s] w λe w'=>Gm s.data.toList e/\Ϟ w w':=by
 have d:ϝ (noCell s.data.toList):=by
  show noCell s.data.toList;rw[DV s h,h0,c,Rp g];exact SQ
 have j:(s[0].toNat:Int)=1:=by rw[h0];rfl
 clear h0;unfold maxLen at f;have k:s.extract 1 s.size=r:=c;have m:(0:Int)<(s.size:Int):=ϟ;have i:(s[0].toNat:Int)<=255:=by have:=s[0].toNat_lt;omega
 go_enter func212,ntmps212;go_wp2
 go_quiet (fail)
 go_wp2;exact bodyPost_ret (v:=.tuple #[.agg #[ω,ω,ϊ],ϊ,ϋ]) (by simp[results,results212,go_sem]) rfl
  ⟨⟨⟨0,0,⟨#[]⟩⟩,⟨#[]⟩,false,rfl,wf0 _ _ Ϡ Ϡ,.inr ⟨.inl rfl,d.o⟩⟩,by repeat (first|exact bR|(refine below_drewN ?_ _)|apply Below.drew|(refine Below.setCell ?_ ϡ _)|(refine Below.alloc ?_ Ϧ _))⟩
theorem SS(b:UInt8)(h:b=0\/b=1):(⟨1,(b.toNat:Int),⟨#[]⟩⟩:Cel).ok/\CS ⟨1,(b.toNat:Int),⟨#[]⟩⟩=[1,b]:=by
 rcases h with rfl|rfl<;>exact⟨NV _ _ _ Ϡ,rfl⟩
theorem UT(b:UInt8)(h0:b≠0)(h1:b≠1):¬(⟨1,(b.toNat:Int),⟨#[]⟩⟩:Cel).ok:=by
 intro h;obtain⟨_,c⟩:=Fy h;dsimp only at c;have d:b.toNat≠0:=λe=>h0 (JK e);have f:b.toNat≠1:=λe=>h1 (JK e);omega
theorem Aa3(s r:ByteArray)(m:0<s.size)(k:s.extract 1 s.size=r)(h0:s[0]=1)(j:0<r.size):
 NU s.data.toList ⟨1,(r[0].toNat:Int),⟨#[]⟩⟩ (r.extract 1 r.size) true:=by
 have e:s.data.toList=(1:UInt8)::r[0]::(r.extract 1 r.size).data.toList:=by rw[DV s m,h0,k,<-DV r j]
 by_cases c:r[0]=0\/r[0]=1
 ·obtain⟨g,i⟩:=SS r[0] c;exact .inl ⟨rfl,g,by rw[i,e];rfl⟩
 ·have d:r[0]≠0:=λh=>c (.inl h);have f:r[0]≠1:=λh=>c (.inr h);exact .inr ⟨.inr (UT _ d f),by rw[e];exact Wo d f⟩
theorem O1(s r:ByteArray)(w:ϛ)(k:0<s.size)(h:s.size<=maxLen)(c:s.extract 1 s.size=r)(h0:s[0]=1)(i:0<r.size):
 η 212 #[.string s] w λe w'=>Gm s.data.toList e/\Ϟ w w':=by
 have d:=Aa3 s r k c h0 i;have f:ϝ (NU s.data.toList ⟨1,(r[0].toNat:Int),⟨#[]⟩⟩ (r.extract 1 r.size) true):=d;have g:ϝ ((⟨1,(r[0].toNat:Int),⟨#[]⟩⟩:Cel).wf):=by
  have:=r[0].toNat_lt;exact wf0 _ _ ϟ ϟ
 clear d;have j:r.size<=maxLen:=by
  rw[<-c,ByteArray.size_extract];omega
 have o:(s[0].toNat:Int)=1:=by rw[h0];rfl
 have q:((r.size:Int)==0)=false:=by rw[beq_eq_false_iff_ne];omega
 have u:(0:Int)<(r.size:Int):=ϟ;have n:(r[0].toNat:Int)<=255:=by have:=r[0].toNat_lt;omega
 clear h0;unfold maxLen at h j;have p:s.extract 1 s.size=r:=c;have t:(0:Int)<(s.size:Int):=ϟ;have m:(s[0].toNat:Int)<=255:=by have:=s[0].toNat_lt;omega
 go_enter func212,ntmps212;go_wp2
 go_quiet (fail)
 go_wp2
 go_region
 all_goals go_wp2
 all_goals
  exact bodyPost_ret (v:=.tuple #[.agg #[vI 1,vI (r[0].toNat:Int),ϊ],.string (r.extract 1 r.size),.bool true]) (by simp[results,results212,go_sem]) rfl
   ⟨⟨⟨1,_,⟨#[]⟩⟩,_,true,rfl,g.o,f.o⟩,by repeat (first|exact bR|(refine below_drewN ?_ _)|apply Below.drew|(refine Below.setCell ?_ ϡ _)|(refine Below.alloc ?_ Ϧ _))⟩
theorem O3(s r:ByteArray)(w:ϛ)(h:0<s.size)(f:s.size<=maxLen)(c:s.extract 1 s.size=r)(h0:s[0]=2)(g:r.size<8):
 η 212 #[.string s] w λe w'=>Gm s.data.toList e/\Ϟ w w':=by
 have d:ϝ (noCell s.data.toList):=by
  show noCell s.data.toList;rw[DV s h,h0,c];exact Aa2 (by rw[AU];exact g)
 have j:(s[0].toNat:Int)=2:=by rw[h0];rfl
 clear h0;unfold maxLen at f;have k:s.extract 1 s.size=r:=c;have m:(0:Int)<(s.size:Int):=ϟ;have i:(s[0].toNat:Int)<=255:=by have:=s[0].toNat_lt;omega
 go_enter func212,ntmps212;go_wp2
 go_quiet (fail)
 go_wp2;exact bodyPost_ret (v:=.tuple #[.agg #[ω,ω,ϊ],ϊ,ϋ]) (by simp[results,results212,go_sem]) rfl
  ⟨⟨⟨0,0,⟨#[]⟩⟩,⟨#[]⟩,false,rfl,wf0 _ _ Ϡ Ϡ,.inr ⟨.inl rfl,d.o⟩⟩,by repeat (first|exact bR|(refine below_drewN ?_ _)|apply Below.drew|(refine Below.setCell ?_ ϡ _)|(refine Below.alloc ?_ Ϧ _))⟩
theorem QO(s:ByteArray)(k:Nat):(s.extract 0 k).data.toList=s.data.toList.take k:=by
 simp[ByteArray.data_extract,Array.toList_extract]
theorem Aa4(n:Int):(⟨2,n,⟨#[]⟩⟩:Cel).ok:=by
 refine NV _ _ _ ?_;unfold chk;have e:(⟨#[]⟩:ByteArray).size=0:=rfl;rw[e,if_neg ϟ,if_neg ϟ,if_neg ϟ]
theorem QP(s r:ByteArray)(w:ϛ)(m:0<s.size)(i:s.size<=maxLen)(c:s.extract 1 s.size=r)(h0:s[0]=2)(j:8<=r.size):
 η 212 #[.string s] w λe w'=>Gm s.data.toList e/\Ϟ w w':=by
 have g:ϝ (s.data.toList=CS ⟨2,(Br (r.extract 0 8).data.toList:Int) - 9223372036854775808,⟨#[]⟩⟩++(r.extract 8 r.size).data.toList):=by
  show s.data.toList=_;rw[DV s m,h0,c,QO,Lib.extract_to_end];exact SR _ (by rw[AU];exact j)
 have d:(r.extract 0 8).size=8:=by rw[ByteArray.size_extract];omega
 have f:ϝ (Br (r.extract 0 8).data.toList<18446744073709551616):=JL _ (by rw[AU];exact d);have k:r.size<=maxLen:=by
  rw[<-c,ByteArray.size_extract];omega
 have o:(s[0].toNat:Int)=2:=by rw[h0];rfl
 have t:(8:Int)<=(r.size:Int):=ϟ;have h:=hV0 d;clear h0 d;unfold maxLen at i k;have p:s.extract 1 s.size=r:=c;have q:(0:Int)<(s.size:Int):=ϟ;have n:(s[0].toNat:Int)<=255:=by have:=s[0].toNat_lt;omega
 go_enter func212,ntmps212;go_wp2
 go_quiet (fail)
 go_wp2
 go_region_held3 (λ_=>True) (trivial) (first|(go_at_call 221;refine(Rq _ _ h.o).mono ?_;rintro e w' ⟨rfl,rfl⟩))
 all_goals go_wp2
 all_goals
  exact bodyPost_ret (v:=.tuple #[.agg #[vI 2,vI ((Br (r.extract 0 8).data.toList:Int) - 9223372036854775808),ϊ],.string (r.extract 8 r.size),.bool true]) (by simp[results,results212,go_sem]) rfl
   ⟨⟨⟨2,_,⟨#[]⟩⟩,_,true,rfl,wf0 _ _ (by have:=f.o;omega) (by have:=f.o;omega),.inl ⟨rfl,Aa4 _,g.o⟩⟩,by repeat (first|exact bR|(refine below_drewN ?_ _)|apply Below.drew|(refine Below.setCell ?_ ϡ _)|(refine Below.alloc ?_ Ϧ _))⟩
theorem Aa5(s r c rs:ByteArray)(ok:Bool)(i:0<s.size)(g:s.extract 1 s.size=r)(h0:s[0]=3)
 (h:(ok=true/\r.data.toList=Bv c.data.toList++0::1::rs.data.toList)\/(ok=false/\F5 r.data.toList)):
 NU s.data.toList ⟨3,0,c⟩ rs ok:=by
 have e:s.data.toList=(3:UInt8)::r.data.toList:=by rw[DV s i,h0,g]
 rcases h with⟨rfl,h⟩|⟨rfl,h⟩
 ·by_cases f:c.size<=64
  ·refine .inl ⟨rfl,NV _ _ _ ?_,?_⟩
   ·unfold chk;rw[if_neg ϟ,if_neg ϟ,if_neg ϟ]
   ·rw[e,h];show _=(3::(Bv c.data.toList++[0,1]))++_;simp
  ·refine .inr ⟨.inr ?_,?_⟩
   ·intro d;have:=(Fy d).1;exact f this
   ·rw[e];exact QN (Vq h (by rw[AU];omega))
 ·exact .inr ⟨.inl rfl,by rw[e];exact QN h⟩
theorem O4(s r:ByteArray)(w:ϛ)(y:0<s.size)(q:s.size<=maxLen)(i:s.extract 1 s.size=r)(h0:s[0]=3):
 η 212 #[.string s] w λe w'=>Gm s.data.toList e/\Ϟ w w':=by
 have j:∀d c ok,((ok=true/\r.data.toList=Bv d.data.toList++0::1::c.data.toList)\/(ok=false/\F5 r.data.toList))->NU s.data.toList ⟨3,0,d⟩ c ok:=
  λd c ok h=>Aa5 s r d c ok y i h0 h
 have k:ϝ (∀d c ok,((ok=true/\r.data.toList=Bv d.data.toList++0::1::c.data.toList)\/(ok=false/\F5 r.data.toList))->NU s.data.toList ⟨3,0,d⟩ c ok):=j;clear j;have u:r.size<=maxLen:=by
  rw[<-i,ByteArray.size_extract];omega
 have F:(s[0].toNat:Int)=3:=by rw[h0];rfl
 clear h0;unfold maxLen at q;have G:s.extract 1 s.size=r:=i;have I:(0:Int)<(s.size:Int):=ϟ;have B:(s[0].toNat:Int)<=255:=by have:=s[0].toNat_lt;omega
 go_enter func212,ntmps212;go_wp2
 go_quiet (fail)
 go_wp2_with (go_at_call 222;refine(PZ r _ u).mono ?_;rintro e g ⟨⟨d,c,ok,rfl,z,t⟩,f⟩;have n:=cLz f (a:=⟨w,0,none⟩) (v:=vI 0) ϣ;have o:=cLz f (a:=⟨w,1,none⟩) (v:=vI 0) ϣ;have p:=cLz f (a:=⟨w,2,none⟩) (v:=.string ⟨#[]⟩) ϣ;have C:Ξ g w 0:=(f.frozen ϡ).trans ϣ;have D:Ξ g w 1:=(f.frozen ϡ).trans ϣ;have E:Ξ g w 2:=(f.frozen ϡ).trans ϣ);have m:Ϟ w g:=(below_drewN Ϫ _).trans (f.mono ϡ);have A:w.heap.size<g.heap.size:=by have:=f.size;simp at this;omega
 exact bodyPost_ret (v:=.tuple #[.agg #[vI 3,ω,.string d],.string c,.bool ok]) (by simp[results,results212,go_sem,n,o,p,A]) rfl
  ⟨⟨⟨3,0,d⟩,c,ok,rfl,wf3 z,k.o d c ok t⟩,by repeat (first|exact m|(refine Below.setCell ?_ ϡ _))⟩
theorem QQ(s:ByteArray)(w:ϛ)(f:0<s.size)(c:s.size<=maxLen):
 η 212 #[.string s] w λe w'=>Gm s.data.toList e/\Ϟ w w':=by
 obtain⟨r,d⟩:∃r,s.extract 1 s.size=r:=⟨_,rfl⟩;by_cases j:s[0]=0
 ·exact O0 s r w f c d j
 ·by_cases g:s[0]=1
  ·by_cases i:r.size=0
   ·exact NX s r w f c d g i
   ·exact O1 s r w f c d g ϟ
  ·by_cases h:s[0]=2
   ·by_cases i:r.size<8
    ·exact O3 s r w f c d h i
    ·exact QP s r w f c d h ϟ
   ·by_cases k:s[0]=3
    ·exact O4 s r w f c d k
    ·exact NW s r w f c d j g h k
theorem Tryz.infoV:(Tryz.prog.info? 103).map (λi=>(i.zero,i.size,i.bytes))=some (some (.agg #[ω,ω,ϊ]),3,32):=Ϣ
def celCells(r:List Cel):List Value:=r.flatMap λc=>[vI c.k,vI c.n,.string c.s]
theorem Db(r:List Cel):(celCells r).length=r.length * 3:=by
 induction r with
 |nil=>rfl
 |cons c r ih=>show([_,_,_]++celCells r).length=_;rw[lAp,ih,length_cons];simp;omega
theorem O5(r:List Cel)(c:Cel):celCells (r++[c])=celCells r++[vI c.k,vI c.n,.string c.s]:=by
 unfold celCells;rw[flatMap_append];simp
theorem Iz(r:List Cel)(i:Nat)(h:i<r.length):(celCells r)[i * 3]? =some (vI (r.getD i default).k)/\(celCells r)[i * 3+1]? =some (vI (r.getD i default).n)/\(celCells r)[i * 3+2]? =some (.string (r.getD i default).s):=by
 induction r generalizing i with
 |nil=>exact absurd h (Nat.not_lt_zero i)
 |cons c r ih=>
  have e:celCells (c::r)=vI c.k::vI c.n:: .string c.s::celCells r:=rfl;rw[e]
  cases i with
  |zero=>exact⟨rfl,rfl,rfl⟩
  |succ i=>
   have:=ih i (by simpa using h);rw[show(i+1) * 3=i * 3+1+1+1 by omega];simpa using this
def A4(w:World)(base:Nat)(v:Value)(r:List Cel):Prop:=w.ownsRow base 103 3 v r.length (celCells r)
theorem FP(h:A4 w base v r)(o:Obj):A4 (w.alloc o) base v r:=World.ownsRow.alloc h o
theorem Hk(h:A4 w base v r)(m:Ϟ w w'):A4 w' base v r:=by
 refine⟨h.1,?_⟩;rcases h.2 with i|⟨g,e,f,o,j,c,k⟩
 ·exact .inl i
 ·have d:g<w.heap.size:=by
   rcases Nat.lt_or_ge g w.heap.size with d|n
   ·exact d
   ·rw[Array.getElem?_eq_none n]at c;cases c
  exact .inr ⟨g,e,f,o,j,by rw[m.block g d];exact c,k⟩
theorem IV(h:A4 w base v r):∃d c,v=vS d r.length c:=by
 rcases h.2 with⟨rfl,e⟩|⟨g,c,f,rfl,_⟩
 ·exact⟨none,0,by rw[e]⟩
 ·exact⟨_,_,rfl⟩
theorem E6{ad:Ϝ}{cap:Nat}(h:A4 w base (vS ad r.length cap) r):rowAt w ad r:=by
 intro i f;rcases h.2 with⟨e,q⟩|⟨g,o,p,e,s,u,t⟩
 ·omega
 ·cases e
  have d:=World.ownsRow.cells h (g:=g) rfl;obtain⟨k,m,n⟩:=Iz r i f;have c:∀j,((⟨g,0,none⟩:Addr).add j)=⟨g,0+j,none⟩:=λj=>by unfold Addr.add;split<;>simp_all
  refine⟨g,0,rfl,?_,?_,?_⟩
  ·have:=d _ _ k;rw[c]at this;exact this
  ·have:=d _ _ m;rw[c]at this;exact this
  ·have:=d _ _ n;rw[c]at this;exact this
theorem NY(w:ϛ)(a b c:Value)(t:TypeId):∀j u,[a,b,c][j]? =some u->(w.alloc (.cells #[a,b,c] t)).cell? ((⟨w,0,none⟩:Addr).add j)=some u:=by
 intro j u d
 match j,d with
 |0,d=>simp at d;subst d;simp[Addr.add]
 |1,d=>simp at d;subst d;simp[Addr.add]
 |2,d=>simp at d;subst d;simp[Addr.add]
theorem Es{g:Array Oper}{rest:List Oper}{o:Oper}{a:Act}{Q:Exit->Act->World->Prop}(m:o.guard=none)(s x:Operand)
 (p:o.op= .call {callee:=.builtin .append,args:=#[s,x],argTypes:=#[41,41]}) (base:Nat) (v:Value) (r:List Cel) (t:a.eval s=v) (d:ϛ)
 (q:A4 d base v r) (c:Cel) (B:Nat) (k:d.heap.size=B) (y:a.eval x=vS (τ B) 1 1) (F:r.length<=1000000) (E:base<=d.heap.size)
 (h:∀e w',A4 w' base e (r++[c])->(d.alloc (.cells #[vI c.k,vI c.n,.string c.s] 103)).grownBy w' v.ownBlock->wpList Tryz.prog g Q rest (a.put o.dst e) w'):
 wpList Tryz.prog g Q (o::rest) a (ξ d #[vI c.k,vI c.n,.string c.s] 103):=by
 subst k;obtain⟨D,n,z,A,C⟩:=info_parts Tryz.infoV;refine wpList_append_own _ m s x 41 p base 103 D (.agg #[ω,ω,ϊ]) 3 32 underlying41 n z A C rfl Ϡ v r.length (celCells r) t
  (World.ownsRow.alloc q _) ⟨d,0,none⟩ 1 1 [vI c.k,vI c.n,.string c.s] y rfl (NY _ _ _ _ _) (by intro u f;simp at f;rcases f with rfl|rfl|rfl<;>rfl) ϩ ϟ Ϥ ?_
 intro e w' i j _;refine h e w' ?_ j;unfold A4;rw[lAp,O5];exact i
theorem D8{c:ϛ}{o:Obj}(d:Below base w c)(h0:base<=c.heap.size)(g:A4 c base v r)(e:(c.alloc o).grownBy w' v.ownBlock):Below base w w':=
 (d.alloc h0 o).grown e Ϥ (λk f=>(World.ownsRow.lt g k f).1)
theorem J8(x r:List Cel)(tail:List UInt8)(m:∀c∈x,c.ok/\c.wf)(k:∀c∈r,c.ok/\c.wf)(h:encR x++tail=encR r):∃f,r=x++f/\tail=encR f:=by
 induction x generalizing r with
 |nil=>exact⟨r,rfl,h⟩
 |cons c x ih=>
  have e:encR (c::x)=CS c++encR x:=rfl;rw[e,append_assoc]at h;have g:=m c (mem_cons_self ..)
  cases r with
  |nil=>
   have:=GW g.1;simp[encR]at h;exact absurd h.1 this
  |cons d r=>
   have n:encR (d::r)=CS d++encR r:=rfl;rw[n]at h;have j:=k d (mem_cons_self ..);obtain⟨rfl,q⟩:=JM g.1 j.1 g.2 j.2 h;obtain⟨f,o,p⟩:=ih r (λy i=>m y (mem_cons_of_mem _ i)) (λy i=>k y (mem_cons_of_mem _ i)) q;exact⟨f,by rw[o];rfl,p⟩
def rowOk(r:List Cel):Prop:=r.length<=8/\∀c∈r,c.ok/\c.wf
def NZ(l:List UInt8):Prop:=∀r,rowOk r->encR r≠l
theorem Oa(o:∀c∈x,c.ok/\c.wf)(k:l=encR x++tail)(n:tail≠[])(m:noCell tail):NZ l:=by
 intro r i h;rw[k]at h;obtain⟨e,j,f⟩:=J8 x r tail o i.2 h.symm
 cases e with
 |nil=>exact n f
 |cons d e=>
  have g:=i.2 d (by rw[j];simp);exact m d (encR e) g.1 g.2 f
theorem UU(m:∀c∈x,c.ok/\c.wf)(j:l=encR x++tail)(k:tail≠[])(n:x.length=8):NZ l:=by
 intro r e h;rw[j]at h;obtain⟨f,g,i⟩:=J8 x r tail m e.2 h.symm
 cases f with
 |nil=>exact k i
 |cons d f=>
  have:=e.1;rw[g,lAp,length_cons]at this;omega
def UW:Value->Nat
 | .string q=>q.size
 |_=>0
def AbY(s:ByteArray)(base:Nat)(e:Ending)(w':World):Prop:=
 (∃r ad cap,e= .returned (.tuple #[vS ad r.length cap,ω])/\rowOk r/\encR r=s.data.toList/\A4 w' base (vS ad r.length cap) r)\/
 (e= .returned (.tuple #[ψ,vI 1])/\NZ s.data.toList)
theorem AbZ{q:ByteArray}(h:0<q.size):q.data.toList≠[]:=λe=>by
 have:=AU q;rw[e]at this;simp at this;omega
theorem SU(s:ByteArray)(w:ϛ)(J:s.size<=maxLen):
 η 179 #[.string s] w λe w'=>AbY s w.heap.size e w'/\Ϟ w w':=by
 have Q:=hV0 J;unfold maxLen at J;go_enter func179,ntmps179;go_wp2
 go_loopw [0,4] (λt v wr=> ∃(q:ByteArray) (r:List Cel),t= .string q/\q.size<=s.size/\A4 wr w v r/\Ϟ w wr/\r.length<=8/\(∀c∈r,c.ok/\c.wf)/\s.data.toList=encR r++q.data.toList) (λt _ _=>UW t)
 case atStart=>exact⟨s,[],rfl,Nat.le_refl _,World.ownsRow_nil _ _ _ _,bR,ϡ,ϡ,rfl⟩
 case round=>
  obtain⟨q,r,rfl,hq,z,y,W,G,N⟩:=hrel;obtain⟨T,U,hv⟩:=IV z;subst hv;have F:=hV0 z;have i:=hV0 G;have m:=hV0 N;have ae:=y.size;have L:q.size<=maxLen:=Nat.le_trans hq Q.o;have R:=hV0 L;unfold maxLen at L;clear z G N;by_cases O:0<q.size
  ·have p:ϝ (q.data.toList≠[]):=AbZ O;go_wp2_with fail;refine(QQ q _ O R.o).mono ?_;rintro e D ⟨⟨c,C,ok,rfl,B,M⟩,I⟩;obtain⟨k,n,t⟩:=c;have S:=hV0 B;have u:=hV0 M;have A:t.size<=maxLen:=B.2;have d:=y.trans (I.mono ae);have aa:=Hk F.o I;clear M B
   cases ok with
   |false=>
    go_wp2
    go_ret2
    exact⟨.inr ⟨rfl,Oa i.o m.o p.o (by
     rcases u.o with⟨h,_⟩|⟨_,h⟩
     ·cases h
     ·exact h)⟩,by repeat (first|exact d|(refine Below.setCell ?_ (by have:=d.size;simp;omega) _)|(refine Below.alloc ?_ (by have:=d.size;simp;omega) _))⟩
   |true=>
    by_cases o:(chk k n t==0)=true
    ·have j:ϝ (chk k n t=0):=by
      show chk k n t=0;simpa using o
     have E:ϝ (q.data.toList=CS ⟨k,n,t⟩++C.data.toList):=by
      show q.data.toList=_;rcases u.o with⟨_,_,h⟩|⟨h|h,_⟩
      ·exact h
      ·cases h
      ·exact absurd j.o h
     have ac:C.size<q.size:=by
      have V:=congrArg List.length E.o;rw[lAp,AU,AU]at V;have h2:0<(CS ⟨k,n,t⟩).length:=length_pos_iff.2 (GW j.o);omega
     by_cases X:r.length=8
     ·have Y:((r.length:Int)==8)=true:=by rw[beq_iff_eq];omega
      go_wp2_with (go_at_call 156;refine(Ce _ _ _ _ A).mono ?_;rintro e wc ⟨rfl,f⟩;have g:=(d.alloc d.size _).trans (f.mono (by have:=d.size;simp;omega)))
      go_ret2
      exact⟨.inr ⟨rfl,UU i.o m.o p.o X⟩,g⟩
     ·have Y:((r.length:Int)==8)=false:=by rw[beq_eq_false_iff_ne];omega
      go_wp2_with (first
       |(go_at_call 156;refine(Ce _ _ _ _ A).mono ?_;rintro e wc ⟨rfl,f⟩;have g:=(d.alloc d.size _).trans (f.mono (by have:=d.size;simp;omega));have K:=Hk (FP aa _) f;have ag:=cLz f (a:=⟨D.heap.size,0,none⟩) (v:=vI k) ϣ;have ah:=cLz f (a:=⟨D.heap.size,1,none⟩) (v:=vI n) ϣ;have ai:=cLz f (a:=⟨D.heap.size,2,none⟩) (v:=.string t) ϣ)
       |(at_builtin;refine Es rfl (.tmp 29) (.tmp 31) rfl w.heap.size _ r rfl _ K ⟨k,n,t⟩ _ rfl rfl ϟ g.size ?_;intro v' w2 ab Z))
      go_roundw
      case rel=>exact⟨C,r++[⟨k,n,t⟩],rfl,ϟ,ab,D8 g g.size K Z,by rw[lAp];simp;omega,λc o=>by
       rcases mem_append.1 o with h|h
       ·exact i.o c h
       ·rw[mem_singleton.1 h];exact⟨j.o,S.o⟩,by rw[m.o,Li,append_assoc,E.o]⟩
      case measure=>exact ac
    ·have af:(chk k n t==0)=false:=by simpa using o
     have j:ϝ (¬(⟨k,n,t⟩:Cel).ok):=λh=>o (beq_iff_eq.2 h);go_wp2_with (go_at_call 156;refine(Ce _ _ _ _ A).mono ?_;rintro e wc ⟨rfl,f⟩;have g:=(d.alloc d.size _).trans (f.mono (by have:=d.size;simp;omega)))
     go_ret2
     exact⟨.inr ⟨rfl,Oa i.o m.o p.o (by
      rcases u.o with⟨_,h,_⟩|⟨_,h⟩
      ·exact absurd h j.o
      ·exact h)⟩,g⟩
  ·have P:ϝ (q.data.toList=[]):=eq_nil_of_length_eq_zero (by rw[AU];omega);go_wp2
   go_ret2
   exact⟨.inl ⟨r,T,U,rfl,⟨W,i.o⟩,by have h:=m.o;rw[P.o,append_nil]at h;exact h.symm,F.o⟩,y⟩
theorem SV(s:ByteArray)(r:List Cel)(w:ϛ)(z:s.size<=maxLen)(j:rowOk r)(m:encR r=s.data.toList):
 η 179 #[.string s] w λe w'=>(∃f g,e= .returned (.tuple #[vS f r.length g,ω])/\A4 w' w (vS f r.length g) r)/\Ϟ w w':=by
 refine(SU s w z).mono λe w' ⟨h,t⟩=>⟨?_,t⟩;rcases h with⟨A,f,g,y,o,p,q⟩|⟨_,h⟩
 ·obtain⟨c,i,k⟩:=J8 A r [] o.2 j.2 (by rw[append_nil,p,m]);have:c=[]:=by
   cases c with
   |nil=>rfl
   |cons d c=>
    have u:=j.2 d (by rw[i];simp);have n:encR (d::c)=CS d++encR c:=rfl;rw[n]at k;have:=(append_eq_nil_iff.1 k.symm).1;exact absurd this (GW u.1)
  subst this;rw[append_nil]at i;subst i;exact⟨f,g,y,q⟩
 ·exact absurd m (h r j)
theorem Aca(s:ByteArray)(w:ϛ)(g:s.size<=maxLen)(i:NZ s.data.toList):
 η 179 #[.string s] w (θ w (.tuple #[ψ,vI 1])):=by
 refine(SU s w g).mono λe w' ⟨h,f⟩=>⟨?_,f⟩;rcases h with⟨j,k,m,o,c,d,n⟩|⟨h,_⟩
 ·exact absurd d (i j c)
 ·exact h
theorem Acb(h:∀c∈r,c.ok/\c.wf):EA r=0:=by
 induction r with
 |nil=>rfl
 |cons c r ih=>
  have d:chk c.k c.n c.s=0:=(h c (mem_cons_self ..)).1;rw[EA,if_pos d];exact ih (λx e=>h x (mem_cons_of_mem _ e))
theorem IW(h:rowOk r):A3 r=0:=by
 unfold A3;have:=h.1;rw[if_neg ϟ];exact Acb h.2
theorem K8(h:rowOk r):(FV r).data.toList=encR r:=by
 unfold FV;rw[if_pos (IW h)]
theorem SX(h:rowOk r):Cj r:=λc d=>(h.2 c d).2
theorem SY(h:rowOk r):(FV r).size<=1048:=by
 rw[<-AU,K8 h];have e:=Hz r (λc d=>(h.2 c d).1);have:=h.1;omega
theorem Adj(a:Ϝ)(cap:Nat)(r:List Cel)(w:ϛ)(f:rowAt w a r)(h:rowOk r):
 η 109 #[vS a r.length cap] w (θ w (.tuple #[.string (FV r),ω])):=by
 refine(Mj a cap r w f (SX h) (by have:=h.1;omega)).mono λe w' ⟨d,c⟩=>⟨?_,c⟩;rw[d,IW h]
theorem Ac{a:Ϝ}(h:rowAt w a r)(c:Ϟ w w'):rowAt w' a r:=by
 intro i d;obtain⟨b,o,e,f,g,j⟩:=h i d;exact⟨b,o,e,cLz c f,cLz c g,cLz c j⟩
end vl
namespace vl
theorem laidOut:laidOutB Tryz.prog=true:=Ϣ
theorem own:ownKnob Tryz.prog.godebug=none:=Ϣ
theorem Cw:Tryz.prog.cellsOf 3=1:=Ϣ
theorem Aa6:Tryz.prog.cellsOf 9=1:=Ϣ
theorem Adk:Tryz.prog.cellsOf 103=3:=Ϣ
section
variable {H : Type} {enc : TypeId × Value -> H} {w : ϛ} {base : Nat} {spare : Nat -> Bool} {held : Bool}
theorem SZ{x:Addr}{e:List Value}{y:DataW H×List MemPlace}{fuel:Nat}(z:w.cells? base x 3=some e)(ht:DataW.trod enc Tryz.prog w base spare held fuel 103 e=some y):
 ∃(b d:Nat) (c:Cel),x=⟨b,d,none⟩/\Ϛ w b d (.int .i64 c.k) (.int .i64 c.n) (.string c.s) (c.wf):=by
 obtain⟨_,A,f⟩:=World.cells?_some z;obtain⟨G,I,J,n,_,_,q,t,u⟩:=trod_struct3 underlying103 ht
 match e,A with
 |[a0,a1,a2],_=>
  obtain⟨k,g,_,F⟩:=DataW.trod_int underlying3 q;obtain⟨m,h,_,E⟩:=DataW.trod_int underlying3 t;obtain⟨s,i,_,B⟩:=DataW.trod_string underlying9 u;simp[Cw]at g;simp[Cw]at h;simp[Aa6]at i;subst g h i;obtain⟨b,d,D⟩:=x;have j:=f 0 ϟ;have o:=f 1 ϟ;have p:=f 2 ϟ;have C:D=none:=by simpa[Addr.add]using World.cell?_spot j
  subst C;refine⟨b,d,⟨k,m,s⟩,rfl,?_,?_,?_,bounds_i64 E,B⟩
  ·simpa[Addr.add]using j
  ·simpa[Addr.add]using o
  ·simpa[Addr.add]using p
theorem open_row{a:Ϝ}{len cap:Nat}{d:DataW H}{p:List MemPlace}(h:DataW.Trod enc Tryz.prog w base spare held 41 (.slice a len cap) d p):
 ∃r:List Cel,r.length=len/\rowAt w a r/\Cj r/\len<=9223372036854775807:=by
 obtain⟨fuel,K⟩:=h;rcases open_slice underlying41 K with⟨j,_⟩|⟨x,l,c,m,n,D,P,j,_,T,L,M,_,z⟩
 ·simp[Value.cells]at j;obtain⟨rfl,rfl,rfl⟩:=j;exact⟨[],rfl,λi g=>absurd g (Nat.not_lt_zero i),(λc y=>by cases y),ϟ⟩
 ·simp[Value.cells]at j;obtain⟨rfl,rfl,rfl⟩:=j;have U:len<=m:=by rw[M];split<;>omega
  rw[Adk]at z;obtain⟨f,B⟩:=choose_lt (α:=Cel) (n:=len) (p:=λi c=> ∃b k,x=⟨b,k,none⟩/\Ϛ w b (k+i * 3) (.int .i64 c.k) (.int .i64 c.n) (.string c.s) (c.wf)) (λi g=>by
   obtain⟨R,I,J⟩:=z i ϟ;obtain⟨b,k,c,e,s,t,u,A⟩:=SZ I J
   -- the slice begins where its first element does
   obtain⟨S,N,O⟩:=z 0 ϟ;obtain⟨q,o,Q,E,_⟩:=SZ N O;have G:x=⟨q,o,none⟩:=by simpa[Addr.add]using E
   subst G;have F:(⟨q,o,none⟩:Addr).add (i * 3)=⟨q,o+i * 3,none⟩:=by unfold Addr.add;split<;>simp_all
   rw[F]at e
   cases e
   exact⟨c,b,o,rfl,s,t,u,A⟩)
  refine⟨(List.range len).map f,ϡ,?_,?_,by unfold maxLen at L;omega⟩
  ·intro i g;have C:i<len:=by simpa using g
   obtain⟨b,k,rfl,s,t,u,_⟩:=B i C;have e:((List.range len).map f).getD i default=f i:=by simp[gDe,C]
   rw[e];exact⟨b,k,rfl,s,t,u⟩
  ·intro c y;obtain⟨i,g,rfl⟩:=mem_map.1 y;obtain⟨_,_,_,_,_,_,A⟩:=B i (by simpa using g);exact A
end
end vl
namespace vl
variable {a b : UInt8}
theorem Et(l x y:List UInt8):Lib.compareBytes (l++x) (l++y)=Lib.compareBytes x y:=by
 induction l with
 |nil=>rfl
 |cons a l ih=>
  rw[cons_append,cons_append,Lib.compareBytes,if_neg (UInt8.lt_irrefl a),if_neg (UInt8.lt_irrefl a)];exact ih
theorem IX(x y:List UInt8)(h:a<b):Lib.compareBytes (a::x) (b::y)= -1:=by rw[Lib.compareBytes,if_pos h]
theorem IY(x y:List UInt8)(h:b<a):Lib.compareBytes (a::x) (b::y)=1:=by
 rw[Lib.compareBytes,if_neg (λc=>absurd (UInt8.lt_trans h c) (UInt8.lt_irrefl b)),if_pos h]
theorem fold_acc(l:List UInt8)(a:Nat):l.foldl (λu b=>u * 256+b.toNat) a=a * 256 ^ l.length+Br l:=by
 induction l generalizing a with
 |nil=>simp[Br]
 |cons b l ih=>
  have e:Br (b::l)=(b::l).foldl (λu b=>u * 256+b.toNat) 0:=rfl;rw[e,foldl_cons,foldl_cons,ih,ih (0 * 256+b.toNat),length_cons,Nat.pow_succ];rw[Nat.add_mul,Nat.mul_assoc,Nat.mul_comm 256,Nat.zero_mul,Nat.zero_add];omega
theorem Ob(b:UInt8)(l:List UInt8):Br (b::l)=b.toNat * 256 ^ l.length+Br l:=by
 have e:Br (b::l)=l.foldl (λu b=>u * 256+b.toNat) (0 * 256+b.toNat):=rfl;rw[e,fold_acc];simp
theorem Acd(l m x y:List UInt8)(h:l.length=m.length):
 Lib.compareBytes (l++x) (m++y)=if Br l<Br m then -1 else if Br m<Br l then 1 else Lib.compareBytes x y:=by
 induction l generalizing m with
 |nil=>
  cases m with
  |nil=>simp[Br]
  |cons b m=>simp at h
 |cons a l ih=>
  cases m with
  |nil=>simp at h
  |cons b m=>
   have e:l.length=m.length:=by simpa using h
   have f:=Ga l;have k:=Ga m;rw[cons_append,cons_append,Ob,Ob];rw[e]at f⊢;by_cases c:a<b
   ·have g:a.toNat+1<=b.toNat:=UInt8.lt_iff_toNat_lt.1 c;have:=Nat.mul_le_mul_right (256 ^ m.length) g;rw[Nat.add_mul]at this;rw[IX _ _ c,if_pos ϟ]
   ·by_cases d:b<a
    ·have i:b.toNat+1<=a.toNat:=UInt8.lt_iff_toNat_lt.1 d;have:=Nat.mul_le_mul_right (256 ^ m.length) i;rw[Nat.add_mul]at this;rw[IY _ _ d,if_neg ϟ,if_pos ϟ]
    ·have j:a=b:=UInt8.le_antisymm (UInt8.not_lt.1 d) (UInt8.not_lt.1 c);subst j;rw[Lib.compareBytes,if_neg c,if_neg c,ih m e];simp only[Nat.add_lt_add_iff_left]
theorem IZ(h:b≠0):(0:UInt8)<b:=by
 rcases Nat.eq_zero_or_pos b.toNat with c|c
 ·exact absurd (JK c) h
 ·exact UInt8.lt_iff_toNat_lt.2 c
theorem Yz(s t x y:List UInt8):
 Lib.compareBytes (Bv s++0::1::x) (Bv t++0::1::y)=if Lib.compareBytes s t=0 then Lib.compareBytes x y else Lib.compareBytes s t:=by
 induction s generalizing t with
 |nil=>
  cases t with
  |nil=>simp[Bv,Lib.compareBytes]
  |cons b t=>
   rw[CV];by_cases c:b=0
   ·rw[if_pos c];simp[Bv,Lib.compareBytes]
   ·have:=IZ c;rw[if_neg c];simp[Bv,Lib.compareBytes,this]
 |cons a s ih=>
  cases t with
  |nil=>
   rw[CV];by_cases ha:a=0
   ·rw[if_pos ha];simp[Bv,Lib.compareBytes]
   ·have:=IZ ha;have d:¬a<0:=λh=>absurd (UInt8.lt_trans this h) (UInt8.lt_irrefl 0);rw[if_neg ha];simp[Bv,Lib.compareBytes,this,d]
  |cons b t=>
   rw[CV,CV];by_cases g:a=b
   ·subst g;rw[append_assoc,append_assoc,Et,ih t,Lib.compareBytes,if_neg (UInt8.lt_irrefl a),if_neg (UInt8.lt_irrefl a)]
   ·by_cases f:a<b
    ·have e:Lib.compareBytes (a::s) (b::t)= -1:=IX _ _ f;have c:b≠0:=λh=>by subst h;exact absurd (UInt8.lt_iff_toNat_lt.1 f) (Nat.not_lt_zero _)
     rw[e,if_neg (show¬((-1:Int)=0) by decide),if_neg c];by_cases ha:a=0
     ·rw[if_pos ha];exact IX _ _ (IZ c)
     ·rw[if_neg ha];exact IX _ _ f
    ·have d:b<a:=by
      rcases Nat.lt_trichotomy a.toNat b.toNat with h|h|h
      ·exact absurd (UInt8.lt_iff_toNat_lt.2 h) f
      ·exact absurd (JK h) g
      ·exact UInt8.lt_iff_toNat_lt.2 h
     have e:Lib.compareBytes (a::s) (b::t)=1:=IY _ _ d;have ha:a≠0:=λh=>by subst h;exact absurd (UInt8.lt_iff_toNat_lt.1 d) (Nat.not_lt_zero _)
     rw[e,if_neg (show¬((1:Int)=0) by decide),if_neg ha];by_cases c:b=0
     ·rw[if_pos c];exact IY _ _ (IZ ha)
     ·rw[if_neg c];exact IY _ _ d
theorem Ace(c d:Cel):Jd c d=if Dl c.k d.k=0 then(if Dl c.n d.n=0 then Lib.compareBytes c.s.data.toList d.s.data.toList else Dl c.n d.n)else Dl c.k d.k:=by
 unfold Jd Qs Bd Bd Bd Bd;by_cases e:Dl c.k d.k=0
 ·rw[if_pos e,if_pos e];by_cases f:Dl c.n d.n=0
  ·rw[if_pos f,if_pos f];split
   ·rename_i h;exact h.symm
   ·rfl
  ·rw[if_neg f,if_neg f]
 ·rw[if_neg e,if_neg e]
theorem Y0{c d:Cel}(j:c.ok)(k:d.ok)(wc:c.wf)(z:d.wf)(x y:List UInt8):
 Lib.compareBytes (CS c++x) (CS d++y)=if Jd c d=0 then Lib.compareBytes x y else Jd c d:=by
 rw[Ace];rcases encC_cases j with⟨rfl,e⟩|⟨rfl,e⟩|⟨rfl,e⟩|⟨n,rfl,e⟩|⟨s,rfl,A,e⟩<;>rcases encC_cases k with⟨rfl,f⟩|⟨rfl,f⟩|⟨rfl,f⟩|⟨m,rfl,f⟩|⟨t,rfl,B,f⟩<;>simp only[e,f,cons_append,nil_append]
 all_goals try (rw[IX _ _ Ϡ];rfl)
 all_goals try (rw[IY _ _ Ϡ];rfl)
 ·exact Et [0] x y
 ·exact Et [1,0] x y
 ·have:=Et [1] (0::x) (1::y);simp only[cons_append,nil_append]at this;rw[this,IX _ _ Ϡ];rfl
 ·have:=Et [1] (1::x) (0::y);simp only[cons_append,nil_append]at this;rw[this,IY _ _ Ϡ];rfl
 ·exact Et [1,1] x y
 ·obtain⟨⟨q,u⟩,_⟩:=wc;obtain⟨⟨o,p⟩,_⟩:=z;dsimp only at q u o p⊢;have:=Et [2] (be8 (n+9223372036854775808).toNat 8++x) (be8 (m+9223372036854775808).toNat 8++y);simp only[cons_append,nil_append]at this;rw[this,Acd _ _ _ _ (by rw[Ey,Ey]),I9 _ ϟ,I9 _ ϟ];have i:Dl 2 2=0:=Ϡ;rw[i,if_pos rfl];unfold Dl;by_cases g:n<m
  ·rw[if_pos ϟ,if_pos g];rfl
  ·rw[if_neg ϟ,if_neg g];by_cases h:m<n
   ·rw[if_pos ϟ,if_pos h];rfl
   ·rw[if_neg ϟ,if_neg h];rfl
 ·have:=Et [3] (Bv s.data.toList++[0,1]++x) (Bv t.data.toList++[0,1]++y);simp only[cons_append,nil_append,append_assoc]at this⊢;rw[this,Yz];rfl
theorem PF(a b:List Cel)(ha:∀c∈a,c.ok/\c.wf)(f:∀c∈b,c.ok/\c.wf):Lib.compareBytes (encR a) (encR b)=B5 a b:=by
 induction a generalizing b with
 |nil=>
  cases b with
  |nil=>rfl
  |cons d b=>
   have e:encR (d::b)=CS d++encR b:=rfl;rw[e];have:=GW (f d (mem_cons_self ..)).1
   cases h:CS d with
   |nil=>exact absurd h this
   |cons z zs=>rfl
 |cons c a ih=>
  have j:encR (c::a)=CS c++encR a:=rfl;have g:=ha c (mem_cons_self ..)
  cases b with
  |nil=>
   rw[j]
   cases h:CS c with
   |nil=>exact absurd h (GW g.1)
   |cons z zs=>rfl
  |cons d b=>
   have m:encR (d::b)=CS d++encR b:=rfl;have k:=f d (mem_cons_self ..);rw[j,m,Y0 g.1 k.1 g.2 k.2,ih b (λx i=>ha x (mem_cons_of_mem _ i)) (λx i=>f x (mem_cons_of_mem _ i)),B5]
end vl
namespace vl
def R4:List Cel:=[⟨2, -1,⟨#[]⟩⟩,⟨3,0,⟨#[97,0]⟩⟩,⟨1,1,⟨#[]⟩⟩,⟨0,0,⟨#[]⟩⟩]
theorem Ta(w:ϛ)(B:Nat)(c:w.heap.size=B)(b:UInt8):(convert 204 9 (vS (τ B) 1 1)).run Tryz.prog (ξ w #[.int .u8 (b.toNat:Int)] 5)= .ok (.string ⟨#[b]⟩) (ξ w #[.int .u8 (b.toNat:Int)] 5):=by
 subst c;exact run_convert_bytes_back (ξ w #[.int .u8 (b.toNat:Int)] 5) 204 9 5 ⟨w,0,none⟩ 1 [b] underlying204 underlying5 underlying9 (λj d=>by
  have:j=0:=by simp at d;omega
  subst this;simp[Addr.add])
theorem FQ(w:ϛ)(B:Nat)(c:w.heap.size=B)(x:Int)(b:UInt8)(d:(b.toNat:Int)=x):(convert 204 9 (vS (τ B) 1 1)).run Tryz.prog (ξ w #[.int .u8 x] 5)= .ok (.string ⟨#[b]⟩) (ξ w #[.int .u8 x] 5):=by
 subst d;exact Ta w B c b
theorem UX(u j:Nat):((u:Int)/2 ^ (56 - 8 * j) % 256)=((DJ u j).toNat:Int):=by
 have:=OJ u j;unfold Gy at this;injection this
theorem Aa7(a:ByteArray)(l:List UInt8)(h:a=⟨l.toArray⟩)(b:UInt8):a++(⟨#[b]⟩:ByteArray)=⟨(l++[b]).toArray⟩:=by
 subst h;apply str_eq;rw[Joins.data_append]
theorem Y1(n:Int)(u:Nat)(w:ϛ)(o:IntKind.u64.wrap n=(u:Int))(p:u<=18446744073709551615):
 η 188 #[vI n] w (θ w (.string ⟨(be8 u 8).toArray⟩)):=by
 go_enter func188,ntmps188;go_wp2
 go_loopw [3,4] (λt i wr=> ∃j:Nat,j<=8/\i=vI (56 - 8 * (j:Int))/\t= .string ⟨(be8 u j).toArray⟩/\Ϟ w wr) (λ_ i _=>(intOf i+8).toNat)
 case atStart=>exact⟨0,ϟ,rfl,rfl,bR⟩
 case round=>
  obtain⟨j,h,rfl,rfl,c⟩:=hrel;by_cases m:j<8
  ·have f:=UX u j;have g:=λd=>Ta d d.heap.size rfl (DJ u j);have k:=Ey u j;go_wp2;go_roundw
   case rel=>exact⟨j+1,ϟ,by go_num,by rw[Aa7 _ _ rfl,<-Rm],c.alloc c.size _⟩
   case measure=>simp[intOf];omega
  ·have e:j=8:=ϟ;subst e;go_wp2;go_ret;exact⟨rfl,c⟩
theorem Aa8(b:UInt8)(l:List UInt8):(⟨#[b]⟩:ByteArray)++(⟨l.toArray⟩:ByteArray)=⟨(b::l).toArray⟩:=by
 apply str_eq;rw[Joins.data_append];rfl
theorem Tb(s:ByteArray)(k:Nat)(h:k<s.size):s.extract k (k+1)=⟨#[s[k]]⟩:=by
 apply str_eq;have c:s.data.toList.drop k=s[k]::s.data.toList.drop (k+1):=B4 s k h;simp only[ByteArray.data_extract,Array.toList_extract];rw[extract_eq_take_drop,c];simp
theorem Kk{a b:ByteArray}(h:a=b):Ending.returned (.string a)= .returned (.string b):=by rw[h]
theorem Tc(k n:Int)(s:ByteArray)(w:ϛ)(G: -9223372036854775808<=n)(I:n<=9223372036854775807)(m:chk k n s=0):
 η 142 #[.agg #[vI k,vI n,.string s]] w (θ w (.string ⟨(CS ⟨k,n,s⟩).toArray⟩)):=by
 obtain⟨O,o⟩:=Fy m;clear m;rcases o with⟨rfl,rfl,h⟩|⟨rfl,rfl,h⟩|⟨rfl,rfl,h⟩|⟨rfl,h⟩|⟨rfl,rfl⟩
 ·have d:=FQ (ξ w #[ω,ω,.string s] 103) (w.heap.size+1) ϡ 0 0 rfl;go_enter func142,ntmps142;go_wp2;go_ret;exact⟨rfl,Ϫ.alloc ϡ _⟩
 ·have d:=FQ (ξ w #[vI 1,ω,.string s] 103) (w.heap.size+1) ϡ 1 1 rfl;have E:=FQ (ξ (ξ w #[vI 1,ω,.string s] 103) #[.int .u8 1] 5) (w.heap.size+1+1) ϡ 0 0 rfl;go_enter func142,ntmps142;go_wp2;go_ret;exact⟨rfl,(Ϫ.alloc ϡ _).alloc Ϥ _⟩
 ·have d:=FQ (ξ w #[vI 1,vI 1,.string s] 103) (w.heap.size+1) ϡ 1 1 rfl;have E:=FQ (ξ (ξ w #[vI 1,vI 1,.string s] 103) #[.int .u8 1] 5) (w.heap.size+1+1) ϡ 1 1 rfl;go_enter func142,ntmps142;go_wp2;go_ret;exact⟨rfl,(Ϫ.alloc ϡ _).alloc Ϥ _⟩
 ·have d:=FQ (ξ w #[vI 2,vI n,.string s] 103) (w.heap.size+1) ϡ 2 2 rfl;have u:=WV n G I;have B:=hV0 u;clear u;have M:=Ey (n+9223372036854775808).toNat 8;go_enter func142,ntmps142;go_wp2_with (go_at_call 188;refine(Y1 _ (n+9223372036854775808).toNat _ B.o ϟ).mono ?_;rintro e P ⟨rfl,C⟩);go_ret;exact⟨Kk (Aa8 2 _),(Ϫ.alloc ϡ _).trans (C.mono Ϥ)⟩
 ·have d:=FQ (ξ w #[vI 3,ω,.string s] 103) (w.heap.size+1) ϡ 3 3 rfl;go_enter func142,ntmps142;have D:Ϟ w (ξ (ξ w #[vI 3,ω,.string s] 103) #[.int .u8 3] 5):=Ϫ.alloc ϡ _;go_wp2
  go_loop [3,4] (λt i=> ∃(k:Nat) (q:ByteArray),k<=s.size/\i=vI k/\t= .string q/\q.data.toList=3::Bv (s.data.toList.take k)) (λ_ i=>s.size - (intOf i).toNat)
  case atStart=>exact⟨0,_,ϟ,rfl,rfl,rfl⟩
  case round=>
   obtain⟨k,q,o,rfl,rfl,g⟩:=hrel;have f:=hV0 g;have N:q.size<=129:=by
    rw[<-AU,g];have J:=MA (s.data.toList.take k);have K:(s.data.toList.take k).length<=k:=length_take_le _ _;simp only[length_cons];omega
   clear g;by_cases p:k<s.size
   ·have L:=Tb s k p;have j:ϝ (Bv (s.data.toList.take (k+1))=Bv (s.data.toList.take k)++(if s[k]=0 then [0,255]else [s[k]])):=by
     show Bv (s.data.toList.take (k+1))=_;rw[Eo s k p,I8]
    by_cases y:((s[k].toNat:Int)==0)=true
    ·have z:s[k]=0:=of_decide_eq_true ((byte_zero s[k]).symm.trans y);have c:=hV0 z;clear z;go_wp2
     go_round
     case rel=>exact⟨k+1,_,ϟ,by go_num,rfl,by rw[Joins.data_append,Joins.data_append,f.o,j.o,if_pos c.o,c.o];simp⟩
     case measure=>simp[intOf];omega
    ·have F:((s[k].toNat:Int)==0)=false:=by simpa using y
     have c:ϝ (¬s[k]=0):=of_decide_eq_false ((byte_zero s[k]).symm.trans F);go_wp2
     go_round
     case rel=>exact⟨k+1,_,ϟ,by go_num,rfl,by rw[Joins.data_append,f.o,j.o,if_neg c.o];simp⟩
     case measure=>simp[intOf];omega
   ·have A:ϝ (s.data.toList.take k=s.data.toList):=take_of_length_le (by rw[AU];omega);go_wp2;go_ret;exact⟨Kk (by apply str_eq;rw[Joins.data_append,f.o,A.o];rfl),D⟩
theorem I0(a:Ϝ)(cap:Nat)(r:List Cel)(w:ϛ)(u:rowAt w a r)(o:rowOk r):
 η 85 #[vS a r.length cap] w (θ w (.string ⟨(encR r).toArray⟩)):=by
 obtain⟨n,m⟩:∃n,r.length=n:=⟨_,rfl⟩;have f:=hV0 m;have P:=o.1;rw[m]at P⊢;clear m;go_enter func85,ntmps85;go_wp2
 go_loopw [3,4] (λt i wr=> ∃(k:Nat) (q:ByteArray),k<=n/\i=vI k/\t= .string q/\q.data.toList=encR (r.take k)/\Ϟ w wr) (λ_ i _=>n - (intOf i).toNat)
 case atStart=>exact⟨0,_,ϟ,rfl,rfl,rfl,bR⟩
 case round=>
  obtain⟨k,q,X,rfl,rfl,p,d⟩:=hrel;have s:=hV0 p;have Y:q.size<=1048:=by
   rw[<-AU,p];have U:=Hz (r.take k) (λc R=>(o.2 c (mem_of_mem_take R)).1);have V:(r.take k).length<=k:=length_take_le _ _;omega
  clear p;by_cases j:k<n
  ·obtain⟨T,o1,O,G,I,J⟩:=u k (by rw[f.o];exact j);subst O;have A:=cLz d G;have B:=cLz d I;have C:=cLz d J;clear G I J u;have g:=o.2 (r.getD k default) (by simp[gDe,show k<r.length by rw[f.o];exact j]);have N:ϝ (encR (r.take (k+1))=encR (r.take k)++CS (r.getD k default)):=by
    show encR (r.take (k+1))=_;rw[Lj r k (by rw[f.o];exact j),Li]
   obtain⟨⟨y,z,D⟩,h⟩:∃c,r.getD k default=c:=⟨_,rfl⟩;rw[h]at A B C g;have L:=hV0 h;clear h;have K:ϝ (chk y z D=0):=g.1;have W:(CS ⟨y,z,D⟩).length<=131:=Ro _ g.1;obtain⟨_,⟨E,F⟩,S⟩:=g;dsimp only at A B C E F S;have Z:(0:Int)<=(k:Int):=ϟ;have i2:(k:Int)<(n:Int):=ϟ;go_wp2_with (go_at_call 142;refine(Tc _ _ _ _ E F K.o).mono ?_;rintro e wc ⟨rfl,Q⟩);go_roundw
   case rel=>exact⟨k+1,_,ϟ,by go_num,rfl,by rw[Joins.data_append,s.o,N.o,L.o],bT d Q⟩
   case measure=>simp[intOf];omega
  ·have M:ϝ (r.take k=r):=take_of_length_le (by rw[f.o];omega);go_wp2;go_ret;exact⟨Kk (by apply str_eq;rw[s.o,M.o]),d⟩
end vl
namespace pl
open vl
variable {w w' : ϛ} {a : Ϝ}
def AA(w:World)(a:Option Addr)(l:List Int):Prop:=
 ∀i,i<l.length->∃b off,a=some ⟨b,off,none⟩/\Δ w b (off+i) (vI (l.getD i 0))
def EL(w:World)(a:Option Addr)(l:List (Int×Int)):Prop:=
 ∀i,i<l.length->∃b off,a=some ⟨b,off,none⟩/\Δ w b (off+i * 2) (vI (l.getD i (0,0)).1)/\Δ w b (off+i * 2+1) (vI (l.getD i (0,0)).2)
theorem Au{l:List Int}(h:AA w a l)(c:Ϟ w w'):AA w' a l:=by
 intro i d;obtain⟨b,o,e,x⟩:=h i d;exact⟨b,o,e,cLz c x⟩
theorem DW{l:List (Int×Int)}(h:EL w a l)(c:Ϟ w w'):EL w' a l:=by
 intro i d;obtain⟨b,o,e,x,y⟩:=h i d;exact⟨b,o,e,cLz c x,cLz c y⟩
structure Pln where
 kind:Int
 mode:Int
 low:Int
 high:Int
 size:Int
 limit:Int
 left:List Int
 right:List Int
 lkeys:List Int
 rkeys:List Int
 grouped:Bool
 group:List Int
 aggs:List (Int×Int)
structure PA where
 l:Option Addr
 lc:Nat
 r:Option Addr
 rc:Nat
 lk:Option Addr
 lkc:Nat
 rk:Option Addr
 rkc:Nat
 g:Option Addr
 gc:Nat
 a:Option Addr
 ac:Nat
def Ak(p:Pln)(x:PA):Value:=
 .agg #[vI p.kind,vI p.mode,vI p.low,vI p.high,vI p.size,vI p.limit,
  vS x.l p.left.length x.lc,vS x.r p.right.length x.rc,vS x.lk p.lkeys.length x.lkc,vS x.rk p.rkeys.length x.rkc,.bool p.grouped,vS x.g p.group.length x.gc,vS x.a p.aggs.length x.ac]
structure planAt(w:World)(p:Pln)(x:PA):Prop where
 l:AA w x.l p.left
 r:AA w x.r p.right
 lk:AA w x.lk p.lkeys
 rk:AA w x.rk p.rkeys
 g:AA w x.g p.group
 a:EL w x.a p.aggs
theorem Aj{p:Pln}{x:PA}(h:planAt w p x)(c:Ϟ w w'):planAt w' p x:=
 ⟨Au h.l c,Au h.r c,Au h.lk c,Au h.rk c,Au h.g c,DW h.a c⟩
def i64(n:Int):Prop:= -9223372036854775808<=n/\n<=9223372036854775807
structure wfPlan(p:Pln):Prop where
 low:i64 p.low
 high:i64 p.high
 l:p.left.length<=χ
 r:p.right.length<=χ
 lk:p.lkeys.length<=χ
 rk:p.rkeys.length<=χ
 g:p.group.length<=χ
 a:p.aggs.length<=χ
def fit(t:Int):Prop:= -1099511627776<=t/\t<=1099511627776
instance(t:Int):Decidable (fit t):=by unfold fit;infer_instance
def Bw(p:Pln):Prop:=(1<=p.kind/\p.kind<=3)/\(1<=p.mode/\p.mode<=(if p.kind=3 then 2 else 4))/\(p.grouped=true->∀a∈p.aggs,1<=a.1/\a.1<=4)
def BH(p:Pln):Prop:=(if p.kind=1 then fit p.low/\fit p.high else p.low=0/\p.high=0)/\(if p.kind=2 then 1<=p.size/\p.size<=1099511627776 else p.size=0)/\(1<=p.limit/\p.limit<=64)
def K9(n:Nat):Prop:=1<=n/\n<=4
instance(n:Nat):Decidable (K9 n):=by unfold K9;infer_instance
def Cy(p:Pln):Prop:=(K9 p.left.length/\K9 p.right.length/\K9 p.lkeys.length/\K9 p.rkeys.length)/\(if p.grouped=true then K9 p.aggs.length/\p.group.length+p.aggs.length<=8 else p.group.length=0/\p.aggs.length=0)
def BJ(p:Pln):List Int:=p.left++p.right
def CR(p:Pln):Prop:=∀c∈BJ p,1<=c/\c<=3
def Bo(l:List Int)(n:Nat):Prop:=(∀x∈l,0<=x/\x<(n:Int))/\l.Pairwise (· ≠ ·)
def Gn(p:Pln):Prop:=∀i,i<p.lkeys.length->p.left.getD (p.lkeys.getD i 0).toNat 0=p.right.getD (p.rkeys.getD i 0).toNat 0
def Ed(c:List Int)(a:Int×Int):Prop:=if a.1=1 then a.2=0 else(0<=a.2/\a.2<(c.length:Int))/\(a.1=2->c.getD a.2.toNat 0=2)
def I1(p:Pln):Prop:=p.lkeys.length=p.rkeys.length/\Bo p.lkeys p.left.length/\Bo p.rkeys p.right.length/\Gn p
def Bf(p:Pln):Prop:=p.low<=p.high/\I1 p/\Bo p.group (BJ p).length/\(∀a∈p.aggs,Ed (BJ p) a)
instance(p:Pln):Decidable (Bw p):=by unfold Bw;infer_instance
instance(p:Pln):Decidable (BH p):=by unfold BH;infer_instance
instance(p:Pln):Decidable (Cy p):=by unfold Cy;infer_instance
instance(p:Pln):Decidable (CR p):=by unfold CR;infer_instance
instance(l:List Int)(n:Nat):Decidable (Bo l n):=by unfold Bo;infer_instance
instance(p:Pln):Decidable (Gn p):=by unfold Gn;infer_instance
instance(c:List Int)(a:Int×Int):Decidable (Ed c a):=by unfold Ed;infer_instance
instance(p:Pln):Decidable (I1 p):=by unfold I1;infer_instance
instance(p:Pln):Decidable (Bf p):=by unfold Bf;infer_instance
def Al(p:Pln):Int:=
 if¬Bw p then 4 else if¬BH p then 3 else if¬Cy p then 2 else if¬CR p then 5 else if¬Bf p then 1 else 0
theorem Bj{p:Pln}(h:Al p=0):Bw p/\BH p/\Cy p/\CR p/\Bf p:=by
 unfold Al at h;by_cases c:Bw p
 ·by_cases d:BH p
  ·by_cases e:Cy p
   ·by_cases f:CR p
    ·by_cases g:Bf p
     ·exact⟨c,d,e,f,g⟩
     ·rw[if_neg (by simp[c]),if_neg (by simp[d]),if_neg (by simp[e]),if_neg (by simp[f]),if_pos g]at h;cases h
    ·rw[if_neg (by simp[c]),if_neg (by simp[d]),if_neg (by simp[e]),if_pos f]at h;cases h
   ·rw[if_neg (by simp[c]),if_neg (by simp[d]),if_pos e]at h;cases h
  ·rw[if_neg (by simp[c]),if_pos d]at h;cases h
 ·rw[if_pos c]at h;cases h
end pl
def Φ(p:pl.Pln)(x:pl.PA):Mmz (#[.int .i64 p.kind,.int .i64 p.mode,.int .i64 p.low,.int .i64 p.high,.int .i64 p.size,.int .i64 p.limit,.slice x.l p.left.length x.lc,.slice x.r p.right.length x.rc,.slice x.lk p.lkeys.length x.lkc,.slice x.rk p.rkeys.length x.rkc,.bool p.grouped,.slice x.g p.group.length x.gc,.slice x.a p.aggs.length x.ac]:Array Value):=⟨⟩
def Λ(p:pl.Pln)(x:pl.PA):Mmz ([.int .i64 p.kind,.int .i64 p.mode,.int .i64 p.low,.int .i64 p.high,.int .i64 p.size,.int .i64 p.limit,.slice x.l p.left.length x.lc,.slice x.r p.right.length x.rc,.slice x.lk p.lkeys.length x.lkc,.slice x.rk p.rkeys.length x.rkc,.bool p.grouped,.slice x.g p.group.length x.gc,.slice x.a p.aggs.length x.ac]:List Value):=⟨⟩
end Go.Proofs.YtdohnkkbkfhphaaGreat
