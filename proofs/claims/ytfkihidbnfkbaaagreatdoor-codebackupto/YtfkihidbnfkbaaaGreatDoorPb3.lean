import Derived.Test.YtfkihidbnfkbaaaGreatDoorPb2
import Derived.Lib.SmallJoins
set_option linter.all false
set_option maxHeartbeats 4000000
set_option maxRecDepth 100000
open Go.ChangeShapes Go.WideShapes Go.ChangeAt Go.RowKit Go.Joins Go.Deep List
namespace Go.Proofs.YtfkihidbnfkbaaaGreatDoor
open Go.Proofs.Tryz
namespace vl
variable {b : UInt8} {l tail : List UInt8} {w w' : ϙ} {base : Nat} {v : Value} {r x : List Cel}
def noCell(l:List UInt8):Prop:=∀(d:Cel) t,d.ok->d.wf->l≠CM d++t
def Ma(l:List UInt8)(c:Cel)(rs:ByteArray)(ok:Bool):Prop:=(ok=true/\c.ok/\l=CM c++rs.data.toList)\/((ok=false\/¬c.ok)/\noCell l)
def Fz(l:List UInt8)(e:Ending):Prop:=∃(c:Cel) (rs:ByteArray) (ok:Bool),e= .returned (.tuple #[.agg #[vI c.k,vI c.n,.string c.s],.string rs,.bool ok])/\
 c.wf/\Ma l c rs ok
theorem wf0(k n:Int)(c: -9223372036854775808<=n)(d:n<=9223372036854775807):(⟨k,n,⟨#[]⟩⟩:Cel).wf:=⟨⟨c,d⟩,Nat.zero_le _⟩
theorem wf3{c:ByteArray}(h:c.size<=65):(⟨3,0,c⟩:Cel).wf:=⟨⟨by show(-9223372036854775808:Int)<=0;decide,by show(0:Int)<=9223372036854775807;decide⟩,by show c.size<=maxLen;unfold maxLen;omega⟩
theorem Pf(k n:Int)(s:ByteArray)(h:chk k n s=0):(⟨k,n,s⟩:Cel).ok:=h
theorem AaN(f:b≠0)(c:b≠1)(g:b≠2)(i:b≠3):noCell (b::l):=by
 intro d t j k h;rcases encC_cases j with⟨_,e⟩|⟨_,e⟩|⟨_,e⟩|⟨n,_,e⟩|⟨s,_,_,e⟩<;>rw[e]at h<;>simp at h
 ·exact f h.1
 ·exact c h.1
 ·exact c h.1
 ·exact g h.1
 ·exact i h.1
theorem Yv:noCell [1]:=by
 intro d t c f h;rcases encC_cases c with⟨_,e⟩|⟨_,e⟩|⟨_,e⟩|⟨n,_,e⟩|⟨s,_,_,e⟩<;>rw[e]at h<;>simp at h
theorem AaO(c:b≠0)(f:b≠1):noCell (1::b::l):=by
 intro d t g i h;rcases encC_cases g with⟨_,e⟩|⟨_,e⟩|⟨_,e⟩|⟨n,_,e⟩|⟨s,_,_,e⟩<;>rw[e]at h<;>simp at h
 ·exact c h.1
 ·exact f h.1
theorem Adc(f:l.length<8):noCell (2::l):=by
 intro d t c g h;rcases encC_cases c with⟨_,e⟩|⟨_,e⟩|⟨_,e⟩|⟨n,_,e⟩|⟨s,_,_,e⟩<;>rw[e]at h<;>simp at h;have:=congrArg List.length h;rw[lAp,E9]at this;omega
theorem U3(f:FT l):noCell (3::l):=by
 intro d t c i h;rcases encC_cases c with⟨_,e⟩|⟨_,e⟩|⟨_,e⟩|⟨n,_,e⟩|⟨s,_,g,e⟩<;>rw[e]at h<;>simp at h;exact f s.data.toList t (by rw[AL];exact g) (by simpa using h)
theorem Yw(l:List UInt8)(d:8<=l.length):2::l=CM ⟨2,(Be (l.take 8):Int) - 9223372036854775808,⟨#[]⟩⟩++l.drop 8:=by
 have e:(((Be (l.take 8):Int) - 9223372036854775808)+9223372036854775808).toNat=Be (l.take 8):=ϝ;have c:CM ⟨2,(Be (l.take 8):Int) - 9223372036854775808,⟨#[]⟩⟩=2::be8 (((Be (l.take 8):Int) - 9223372036854775808)+9223372036854775808).toNat 8:=rfl;rw[c,e,OS _ (by rw[length_take];omega),cons_append,take_append_drop]
theorem Dj(s:ByteArray)(h:0<s.size):s.data.toList=s[0]::(s.extract 1 s.size).data.toList:=by
 rw[Lib.extract_to_end];have:=DI s 0 h;simpa using this
attribute [local go_sem ↓] Go.wp_at_zero Go.wp_at_succ
theorem NP(s r:ByteArray)(w:ϙ)(k:0<s.size)(g:s.size<=maxLen)(j:s.extract 1 s.size=r)(c:s[0]=0):
 η 209 #[.string s] w λe w'=>Fz s.data.toList e/\Ϝ w w':=by
 have f:ϛ (s.data.toList=s[0]::(s.extract 1 s.size).data.toList):=Dj s k;have n:(s[0].toNat:Int)=0:=by rw[c];rfl
 have d:=hqz c;clear c;unfold maxLen at g;have i:s.extract 1 s.size=r:=j;have o:(0:Int)<(s.size:Int):=ϝ;have m:(s[0].toNat:Int)<=255:=by have:=s[0].toNat_lt;omega
 go_enter func209,ntmps209;go_wp2
 go_quiet (fail)
 go_wp2;exact bodyPost_ret (v:=.tuple #[.agg #[ω,ω,ϊ],.string r,.bool true]) (by simp[results,results209,go_sem]) rfl
  ⟨⟨⟨0,0,⟨#[]⟩⟩,r,true,rfl,wf0 _ _ Ϟ Ϟ,.inl ⟨rfl,Pf _ _ _ Ϟ,by have h:=f.o;rw[d.o,i]at h;exact h⟩⟩,by repeat (first|exact bR|(refine below_drewN ?_ _)|apply Below.drew|(refine Below.setCell ?_ ϟ _)|(refine Below.alloc ?_ Ϥ _))⟩
theorem Mb(s r:ByteArray)(w:ϙ)(h:0<s.size)(j:s.size<=maxLen)(k:s.extract 1 s.size=r)(c:s[0]≠0)(d:s[0]≠1)(f:s[0]≠2)(g:s[0]≠3):
 η 209 #[.string s] w λe w'=>Fz s.data.toList e/\Ϝ w w':=by
 have m:ϛ (s.data.toList=s[0]::(s.extract 1 s.size).data.toList):=Dj s h;have i:ϛ (noCell s.data.toList):=by
  show noCell s.data.toList;rw[Dj s h];exact AaN c d f g
 have q:((s[0].toNat:Int)==0)=false:=(FD s[0] 0).trans (decide_eq_false c);have t:((s[0].toNat:Int)==1)=false:=(FD s[0] 1).trans (decide_eq_false d);have u:((s[0].toNat:Int)==2)=false:=(FD s[0] 2).trans (decide_eq_false f);have y:((s[0].toNat:Int)==3)=false:=(FD s[0] 3).trans (decide_eq_false g);clear c d f g;unfold maxLen at j;have o:s.extract 1 s.size=r:=k;have p:(0:Int)<(s.size:Int):=ϝ;have n:(s[0].toNat:Int)<=255:=by have:=s[0].toNat_lt;omega
 go_enter func209,ntmps209;go_wp2
 go_quiet (fail)
 go_wp2;exact bodyPost_ret (v:=.tuple #[.agg #[ω,ω,ϊ],ϊ,ϋ]) (by simp[results,results209,go_sem]) rfl
  ⟨⟨⟨0,0,⟨#[]⟩⟩,⟨#[]⟩,false,rfl,wf0 _ _ Ϟ Ϟ,.inr ⟨.inl rfl,i.o⟩⟩,by repeat (first|exact bR|(refine below_drewN ?_ _)|apply Below.drew|(refine Below.setCell ?_ ϟ _)|(refine Below.alloc ?_ Ϥ _))⟩
theorem Mc(s r:ByteArray)(w:ϙ)(i:0<s.size)(g:s.size<=maxLen)(d:s.extract 1 s.size=r)(c:s[0]=1)(h:r.size=0):
 η 209 #[.string s] w λe w'=>Fz s.data.toList e/\Ϝ w w':=by
 have f:ϛ (noCell s.data.toList):=by
  show noCell s.data.toList;rw[Dj s i,c,d,RZ h];exact Yv
 have k:(s[0].toNat:Int)=1:=by rw[c];rfl
 clear c;unfold maxLen at g;have m:s.extract 1 s.size=r:=d;have n:(0:Int)<(s.size:Int):=ϝ;have j:(s[0].toNat:Int)<=255:=by have:=s[0].toNat_lt;omega
 go_enter func209,ntmps209;go_wp2
 go_quiet (fail)
 go_wp2;exact bodyPost_ret (v:=.tuple #[.agg #[ω,ω,ϊ],ϊ,ϋ]) (by simp[results,results209,go_sem]) rfl
  ⟨⟨⟨0,0,⟨#[]⟩⟩,⟨#[]⟩,false,rfl,wf0 _ _ Ϟ Ϟ,.inr ⟨.inl rfl,f.o⟩⟩,by repeat (first|exact bR|(refine below_drewN ?_ _)|apply Below.drew|(refine Below.setCell ?_ ϟ _)|(refine Below.alloc ?_ Ϥ _))⟩
theorem Yx(b:UInt8)(h:b=0\/b=1):(⟨1,(b.toNat:Int),⟨#[]⟩⟩:Cel).ok/\CM ⟨1,(b.toNat:Int),⟨#[]⟩⟩=[1,b]:=by
 rcases h with rfl|rfl<;>exact⟨Pf _ _ _ Ϟ,rfl⟩
theorem SG(b:UInt8)(c:b≠0)(d:b≠1):¬(⟨1,(b.toNat:Int),⟨#[]⟩⟩:Cel).ok:=by
 intro h;obtain⟨_,f⟩:=Gp h;dsimp only at f;have e0:b.toNat≠0:=λe=>c (Ke e);have g:b.toNat≠1:=λe=>d (Ke e);omega
theorem Yy(s r:ByteArray)(n:0<s.size)(m:s.extract 1 s.size=r)(g:s[0]=1)(k:0<r.size):
 Ma s.data.toList ⟨1,(r[0].toNat:Int),⟨#[]⟩⟩ (r.extract 1 r.size) true:=by
 have e:s.data.toList=(1:UInt8)::r[0]::(r.extract 1 r.size).data.toList:=by rw[Dj s n,g,m,<-Dj r k]
 by_cases c:r[0]=0\/r[0]=1
 ·obtain⟨i,j⟩:=Yx r[0] c;exact .inl ⟨rfl,i,by rw[j,e];rfl⟩
 ·have d:r[0]≠0:=λh=>c (.inl h);have f:r[0]≠1:=λh=>c (.inr h);exact .inr ⟨.inr (SG _ d f),by rw[e];exact AaO d f⟩
theorem NQ(s r:ByteArray)(w:ϙ)(m:0<s.size)(i:s.size<=maxLen)(d:s.extract 1 s.size=r)(c:s[0]=1)(j:0<r.size):
 η 209 #[.string s] w λe w'=>Fz s.data.toList e/\Ϝ w w':=by
 have f:=Yy s r m d c j;have g:ϛ (Ma s.data.toList ⟨1,(r[0].toNat:Int),⟨#[]⟩⟩ (r.extract 1 r.size) true):=f;have h:ϛ ((⟨1,(r[0].toNat:Int),⟨#[]⟩⟩:Cel).wf):=by
  have:=r[0].toNat_lt;exact wf0 _ _ ϝ ϝ
 clear f;have k:r.size<=maxLen:=by
  rw[<-d,ByteArray.size_extract];omega
 have p:(s[0].toNat:Int)=1:=by rw[c];rfl
 have t:((r.size:Int)==0)=false:=by rw[beq_eq_false_iff_ne];omega
 have y:(0:Int)<(r.size:Int):=ϝ;have o:(r[0].toNat:Int)<=255:=by have:=r[0].toNat_lt;omega
 clear c;unfold maxLen at i k;have q:s.extract 1 s.size=r:=d;have u:(0:Int)<(s.size:Int):=ϝ;have n:(s[0].toNat:Int)<=255:=by have:=s[0].toNat_lt;omega
 go_enter func209,ntmps209;go_wp2
 go_quiet (fail)
 go_wp2
 go_region
 all_goals go_wp2
 all_goals
  exact bodyPost_ret (v:=.tuple #[.agg #[vI 1,vI (r[0].toNat:Int),ϊ],.string (r.extract 1 r.size),.bool true]) (by simp[results,results209,go_sem]) rfl
   ⟨⟨⟨1,_,⟨#[]⟩⟩,_,true,rfl,h.o,g.o⟩,by repeat (first|exact bR|(refine below_drewN ?_ _)|apply Below.drew|(refine Below.setCell ?_ ϟ _)|(refine Below.alloc ?_ Ϥ _))⟩
theorem NR(s r:ByteArray)(w:ϙ)(i:0<s.size)(g:s.size<=maxLen)(d:s.extract 1 s.size=r)(c:s[0]=2)(h:r.size<8):
 η 209 #[.string s] w λe w'=>Fz s.data.toList e/\Ϝ w w':=by
 have f:ϛ (noCell s.data.toList):=by
  show noCell s.data.toList;rw[Dj s i,c,d];exact Adc (by rw[AL];exact h)
 have k:(s[0].toNat:Int)=2:=by rw[c];rfl
 clear c;unfold maxLen at g;have m:s.extract 1 s.size=r:=d;have n:(0:Int)<(s.size:Int):=ϝ;have j:(s[0].toNat:Int)<=255:=by have:=s[0].toNat_lt;omega
 go_enter func209,ntmps209;go_wp2
 go_quiet (fail)
 go_wp2;exact bodyPost_ret (v:=.tuple #[.agg #[ω,ω,ϊ],ϊ,ϋ]) (by simp[results,results209,go_sem]) rfl
  ⟨⟨⟨0,0,⟨#[]⟩⟩,⟨#[]⟩,false,rfl,wf0 _ _ Ϟ Ϟ,.inr ⟨.inl rfl,f.o⟩⟩,by repeat (first|exact bR|(refine below_drewN ?_ _)|apply Below.drew|(refine Below.setCell ?_ ϟ _)|(refine Below.alloc ?_ Ϥ _))⟩
theorem Pg(s:ByteArray)(k:Nat):(s.extract 0 k).data.toList=s.data.toList.take k:=by
 simp[ByteArray.data_extract,Array.toList_extract]
theorem Ade(n:Int):(⟨2,n,⟨#[]⟩⟩:Cel).ok:=by
 refine Pf _ _ _ ?_;unfold chk;have e:(⟨#[]⟩:ByteArray).size=0:=rfl;rw[e,if_neg ϝ,if_neg ϝ,if_neg ϝ]
theorem Ph(s r:ByteArray)(w:ϙ)(n:0<s.size)(j:s.size<=maxLen)(d:s.extract 1 s.size=r)(c:s[0]=2)(k:8<=r.size):
 η 209 #[.string s] w λe w'=>Fz s.data.toList e/\Ϝ w w':=by
 have h:ϛ (s.data.toList=CM ⟨2,(Be (r.extract 0 8).data.toList:Int) - 9223372036854775808,⟨#[]⟩⟩++(r.extract 8 r.size).data.toList):=by
  show s.data.toList=_;rw[Dj s n,c,d,Pg,Lib.extract_to_end];exact Yw _ (by rw[AL];exact k)
 have f:(r.extract 0 8).size=8:=by rw[ByteArray.size_extract];omega
 have g:ϛ (Be (r.extract 0 8).data.toList<18446744073709551616):=Np _ (by rw[AL];exact f);have m:r.size<=maxLen:=by
  rw[<-d,ByteArray.size_extract];omega
 have p:(s[0].toNat:Int)=2:=by rw[c];rfl
 have u:(8:Int)<=(r.size:Int):=ϝ;have i:=hqz f;clear c f;unfold maxLen at j m;have q:s.extract 1 s.size=r:=d;have t:(0:Int)<(s.size:Int):=ϝ;have o:(s[0].toNat:Int)<=255:=by have:=s[0].toNat_lt;omega
 go_enter func209,ntmps209;go_wp2
 go_quiet (fail)
 go_wp2
 go_region_held3 (λ_=>True) (trivial) (first|(go_at_call 248;refine(Sa _ _ i.o).mono ?_;rintro e w' ⟨rfl,rfl⟩))
 all_goals go_wp2
 all_goals
  exact bodyPost_ret (v:=.tuple #[.agg #[vI 2,vI ((Be (r.extract 0 8).data.toList:Int) - 9223372036854775808),ϊ],.string (r.extract 8 r.size),.bool true]) (by simp[results,results209,go_sem]) rfl
   ⟨⟨⟨2,_,⟨#[]⟩⟩,_,true,rfl,wf0 _ _ (by have:=g.o;omega) (by have:=g.o;omega),.inl ⟨rfl,Ade _,h.o⟩⟩,by repeat (first|exact bR|(refine below_drewN ?_ _)|apply Below.drew|(refine Below.setCell ?_ ϟ _)|(refine Below.alloc ?_ Ϥ _))⟩
theorem Yz(s r c rs:ByteArray)(ok:Bool)(j:0<s.size)(i:s.extract 1 s.size=r)(d:s[0]=3)
 (h:(ok=true/\r.data.toList=B5 c.data.toList++0::1::rs.data.toList)\/(ok=false/\FT r.data.toList)):
 Ma s.data.toList ⟨3,0,c⟩ rs ok:=by
 have e:s.data.toList=(3:UInt8)::r.data.toList:=by rw[Dj s j,d,i]
 rcases h with⟨rfl,h⟩|⟨rfl,h⟩
 ·by_cases g:c.size<=64
  ·refine .inl ⟨rfl,Pf _ _ _ ?_,?_⟩
   ·unfold chk;rw[if_neg ϝ,if_neg ϝ,if_neg ϝ]
   ·rw[e,h];show _=(3::(B5 c.data.toList++[0,1]))++_;simp
  ·refine .inr ⟨.inr ?_,?_⟩
   ·intro f;have:=(Gp f).1;exact g this
   ·rw[e];exact U3 (Vd h (by rw[AL];omega))
 ·exact .inr ⟨.inl rfl,by rw[e];exact U3 h⟩
theorem NU(s r:ByteArray)(w:ϙ)(z:0<s.size)(t:s.size<=maxLen)(j:s.extract 1 s.size=r)(i:s[0]=3):
 η 209 #[.string s] w λe w'=>Fz s.data.toList e/\Ϝ w w':=by
 have k:∀d c ok,((ok=true/\r.data.toList=B5 d.data.toList++0::1::c.data.toList)\/(ok=false/\FT r.data.toList))->Ma s.data.toList ⟨3,0,d⟩ c ok:=
  λd c ok h=>Yz s r d c ok z j i h
 have m:ϛ (∀d c ok,((ok=true/\r.data.toList=B5 d.data.toList++0::1::c.data.toList)\/(ok=false/\FT r.data.toList))->Ma s.data.toList ⟨3,0,d⟩ c ok):=k;clear k;have y:r.size<=maxLen:=by
  rw[<-j,ByteArray.size_extract];omega
 have G:(s[0].toNat:Int)=3:=by rw[i];rfl
 clear i;unfold maxLen at t;have I:s.extract 1 s.size=r:=j;have J:(0:Int)<(s.size:Int):=ϝ;have C:(s[0].toNat:Int)<=255:=by have:=s[0].toNat_lt;omega
 go_enter func209,ntmps209;go_wp2
 go_quiet (fail)
 go_wp2_with (go_at_call 249;refine(Qg r _ y).mono ?_;rintro e g ⟨⟨d,c,ok,rfl,A,u⟩,f⟩;have o:=cLz f (a:=⟨w,0,none⟩) (v:=vI 0) ϡ;have p:=cLz f (a:=⟨w,1,none⟩) (v:=vI 0) ϡ;have q:=cLz f (a:=⟨w,2,none⟩) (v:=.string ⟨#[]⟩) ϡ;have D:Ξ g w 0:=(f.frozen ϟ).trans ϡ;have E:Ξ g w 1:=(f.frozen ϟ).trans ϡ;have F:Ξ g w 2:=(f.frozen ϟ).trans ϡ);have n:Ϝ w g:=(below_drewN Ϩ _).trans (f.mono ϟ);have B:w.heap.size<g.heap.size:=by have:=f.size;simp at this;omega
 exact bodyPost_ret (v:=.tuple #[.agg #[vI 3,ω,.string d],.string c,.bool ok]) (by simp[results,results209,go_sem,o,p,q,B]) rfl
  ⟨⟨⟨3,0,d⟩,c,ok,rfl,wf3 A,m.o d c ok u⟩,by repeat (first|exact n|(refine Below.setCell ?_ ϟ _))⟩
theorem Pj(s:ByteArray)(w:ϙ)(f:0<s.size)(c:s.size<=maxLen):
 η 209 #[.string s] w λe w'=>Fz s.data.toList e/\Ϝ w w':=by
 obtain⟨r,d⟩:∃r,s.extract 1 s.size=r:=⟨_,rfl⟩;by_cases j:s[0]=0
 ·exact NP s r w f c d j
 ·by_cases g:s[0]=1
  ·by_cases i:r.size=0
   ·exact Mc s r w f c d g i
   ·exact NQ s r w f c d g ϝ
  ·by_cases h:s[0]=2
   ·by_cases i:r.size<8
    ·exact NR s r w f c d h i
    ·exact Ph s r w f c d h ϝ
   ·by_cases k:s[0]=3
    ·exact NU s r w f c d k
    ·exact Mb s r w f c d j g h k
theorem Tryz.infoV:(Tryz.prog.info? 119).map (λi=>(i.zero,i.size,i.bytes))=some (some (.agg #[ω,ω,ϊ]),3,32):=Ϡ
def celCells(r:List Cel):List Value:=r.flatMap λc=>[vI c.k,vI c.n,.string c.s]
theorem DT(r:List Cel):(celCells r).length=r.length * 3:=by
 induction r with
 |nil=>rfl
 |cons c r ih=>show([_,_,_]++celCells r).length=_;rw[lAp,ih,length_cons];simp;omega
theorem NV(r:List Cel)(c:Cel):celCells (r++[c])=celCells r++[vI c.k,vI c.n,.string c.s]:=by
 unfold celCells;rw[flatMap_append];simp
theorem Hd(r:List Cel)(i:Nat)(h:i<r.length):(celCells r)[i * 3]? =some (vI (r.getD i default).k)/\(celCells r)[i * 3+1]? =some (vI (r.getD i default).n)/\(celCells r)[i * 3+2]? =some (.string (r.getD i default).s):=by
 induction r generalizing i with
 |nil=>exact absurd h (Nat.not_lt_zero i)
 |cons c r ih=>
  have e:celCells (c::r)=vI c.k::vI c.n:: .string c.s::celCells r:=rfl;rw[e]
  cases i with
  |zero=>exact⟨rfl,rfl,rfl⟩
  |succ i=>
   have:=ih i (by simpa using h);rw[show(i+1) * 3=i * 3+1+1+1 by omega];simpa using this
def AA(w:World)(base:Nat)(v:Value)(r:List Cel):Prop:=w.ownsRow base 119 3 v r.length (celCells r)
theorem SH(h:AA w base v r)(o:Obj):AA (w.alloc o) base v r:=World.ownsRow.alloc h o
theorem Md(h:AA w base v r)(m:Ϝ w w'):AA w' base v r:=by
 refine⟨h.1,?_⟩;rcases h.2 with i|⟨g,e,f,o,j,c,k⟩
 ·exact .inl i
 ·have d:g<w.heap.size:=by
   rcases Nat.lt_or_ge g w.heap.size with d|n
   ·exact d
   ·rw[Array.getElem?_eq_none n]at c;cases c
  exact .inr ⟨g,e,f,o,j,by rw[m.block g d];exact c,k⟩
theorem Oj(h:AA w base v r):∃d c,v=vS d r.length c:=by
 rcases h.2 with⟨rfl,e⟩|⟨g,c,f,rfl,_⟩
 ·exact⟨none,0,by rw[e]⟩
 ·exact⟨_,_,rfl⟩
theorem Fg{ad:Ϛ}{cap:Nat}(h:AA w base (vS ad r.length cap) r):rowAt w ad r:=by
 intro i f;rcases h.2 with⟨e,q⟩|⟨g,o,p,e,s,u,t⟩
 ·omega
 ·cases e
  have d:=World.ownsRow.cells h (g:=g) rfl;obtain⟨k,m,n⟩:=Hd r i f;have c:∀j,((⟨g,0,none⟩:Addr).add j)=⟨g,0+j,none⟩:=λj=>by unfold Addr.add;split<;>simp_all
  refine⟨g,0,rfl,?_,?_,?_⟩
  ·have:=d _ _ k;rw[c]at this;exact this
  ·have:=d _ _ m;rw[c]at this;exact this
  ·have:=d _ _ n;rw[c]at this;exact this
theorem Me(w:ϙ)(a b c:Value)(t:TypeId):∀j u,[a,b,c][j]? =some u->(w.alloc (.cells #[a,b,c] t)).cell? ((⟨w,0,none⟩:Addr).add j)=some u:=by
 intro j u d
 match j,d with
 |0,d=>simp at d;subst d;simp[Addr.add]
 |1,d=>simp at d;subst d;simp[Addr.add]
 |2,d=>simp at d;subst d;simp[Addr.add]
theorem Ls{g:Array Oper}{rest:List Oper}{o:Oper}{a:Act}{Q:Exit->Act->World->Prop}(m:o.guard=none)(s x:Operand)
 (p:o.op= .call {callee:=.builtin .append,args:=#[s,x],argTypes:=#[80,80]}) (base:Nat) (v:Value) (r:List Cel) (t:a.eval s=v) (d:ϙ)
 (q:AA d base v r) (c:Cel) (B:Nat) (k:d.heap.size=B) (y:a.eval x=vS (τ B) 1 1) (F:r.length<=1000000) (E:base<=d.heap.size)
 (h:∀e w',AA w' base e (r++[c])->(d.alloc (.cells #[vI c.k,vI c.n,.string c.s] 119)).grownBy w' v.ownBlock->wpList Tryz.prog g Q rest (a.put o.dst e) w'):
 wpList Tryz.prog g Q (o::rest) a (ξ d #[vI c.k,vI c.n,.string c.s] 119):=by
 subst k;obtain⟨D,n,z,A,C⟩:=info_parts Tryz.infoV;refine wpList_append_own _ m s x 80 p base 119 D (.agg #[ω,ω,ϊ]) 3 32 underlying80 n z A C rfl Ϟ v r.length (celCells r) t
  (World.ownsRow.alloc q _) ⟨d,0,none⟩ 1 1 [vI c.k,vI c.n,.string c.s] y rfl (Me _ _ _ _ _) (by intro u f;simp at f;rcases f with rfl|rfl|rfl<;>rfl) ϧ ϝ Ϣ ?_
 intro e w' i j _;refine h e w' ?_ j;unfold AA;rw[lAp,NV];exact i
theorem IB{c:ϙ}{o:Obj}(e:Below base w c)(d:base<=c.heap.size)(h:AA c base v r)(f:(c.alloc o).grownBy w' v.ownBlock):Below base w w':=
 (e.alloc d o).grown f Ϣ (λk g=>(World.ownsRow.lt h k g).1)
theorem Gt(x r:List Cel)(tail:List UInt8)(k:∀c∈x,c.ok/\c.wf)(j:∀c∈r,c.ok/\c.wf)(h:encR x++tail=encR r):∃f,r=x++f/\tail=encR f:=by
 induction x generalizing r with
 |nil=>exact⟨r,rfl,h⟩
 |cons c x ih=>
  have e:encR (c::x)=CM c++encR x:=rfl;rw[e,append_assoc]at h;have g:=k c (mem_cons_self ..)
  cases r with
  |nil=>
   have:=Iz g.1;simp[encR]at h;exact absurd h.1 this
  |cons d r=>
   have m:encR (d::r)=CM d++encR r:=rfl;rw[m]at h;have i:=j d (mem_cons_self ..);obtain⟨rfl,p⟩:=ZZ g.1 i.1 g.2 i.2 h;obtain⟨f,n,o⟩:=ih r (λy hy=>k y (mem_cons_of_mem _ hy)) (λy hy=>j y (mem_cons_of_mem _ hy)) p;exact⟨f,by rw[n];rfl,o⟩
def rowOk(r:List Cel):Prop:=r.length<=8/\∀c∈r,c.ok/\c.wf
def Ol(l:List UInt8):Prop:=∀r,rowOk r->encR r≠l
theorem Mf(o:∀c∈x,c.ok/\c.wf)(k:l=encR x++tail)(n:tail≠[])(m:noCell tail):Ol l:=by
 intro r i h;rw[k]at h;obtain⟨e,j,f⟩:=Gt x r tail o i.2 h.symm
 cases e with
 |nil=>exact n f
 |cons d e=>
  have g:=i.2 d (by rw[j];simp);exact m d (encR e) g.1 g.2 f
theorem SI(m:∀c∈x,c.ok/\c.wf)(j:l=encR x++tail)(k:tail≠[])(n:x.length=8):Ol l:=by
 intro r e h;rw[j]at h;obtain⟨f,g,i⟩:=Gt x r tail m e.2 h.symm
 cases f with
 |nil=>exact k i
 |cons d f=>
  have:=e.1;rw[g,lAp,length_cons]at this;omega
def Adf:Value->Nat
 | .string q=>q.size
 |_=>0
def U4(s:ByteArray)(base:Nat)(e:Ending)(w':World):Prop:=
 (∃r ad cap,e= .returned (.tuple #[vS ad r.length cap,ω])/\rowOk r/\encR r=s.data.toList/\AA w' base (vS ad r.length cap) r)\/
 (e= .returned (.tuple #[ψ,vI 1])/\Ol s.data.toList)
theorem AaP{q:ByteArray}(h:0<q.size):q.data.toList≠[]:=λe=>by
 have:=AL q;rw[e]at this;simp at this;omega
theorem Mg(s:ByteArray)(w:ϙ)(J:s.size<=maxLen):
 η 145 #[.string s] w λe w'=>U4 s w.heap.size e w'/\Ϝ w w':=by
 have Q:=hqz J;unfold maxLen at J;go_enter func145,ntmps145;go_wp2
 go_loopw [0,4] (λt v wr=> ∃(q:ByteArray) (r:List Cel),t= .string q/\q.size<=s.size/\AA wr w v r/\Ϝ w wr/\r.length<=8/\(∀c∈r,c.ok/\c.wf)/\s.data.toList=encR r++q.data.toList) (λt _ _=>Adf t)
 case atStart=>exact⟨s,[],rfl,Nat.le_refl _,World.ownsRow_nil _ _ _ _,bR,ϟ,ϟ,rfl⟩
 case round=>
  obtain⟨q,r,rfl,hq,z,y,W,G,N⟩:=hrel;obtain⟨T,U,hv⟩:=Oj z;subst hv;have F:=hqz z;have i:=hqz G;have m:=hqz N;have ae:=y.size;have L:q.size<=maxLen:=Nat.le_trans hq Q.o;have R:=hqz L;unfold maxLen at L;clear z G N;by_cases O:0<q.size
  ·have p:ϛ (q.data.toList≠[]):=AaP O;go_wp2_with fail;refine(Pj q _ O R.o).mono ?_;rintro e D ⟨⟨c,C,ok,rfl,B,M⟩,I⟩;obtain⟨k,n,t⟩:=c;have S:=hqz B;have u:=hqz M;have A:t.size<=maxLen:=B.2;have d:=y.trans (I.mono ae);have aa:=Md F.o I;clear M B
   cases ok with
   |false=>
    go_wp2
    go_ret2
    exact⟨.inr ⟨rfl,Mf i.o m.o p.o (by
     rcases u.o with⟨h,_⟩|⟨_,h⟩
     ·cases h
     ·exact h)⟩,by repeat (first|exact d|(refine Below.setCell ?_ (by have:=d.size;simp;omega) _)|(refine Below.alloc ?_ (by have:=d.size;simp;omega) _))⟩
   |true=>
    by_cases o:(chk k n t==0)=true
    ·have j:ϛ (chk k n t=0):=by
      show chk k n t=0;simpa using o
     have E:ϛ (q.data.toList=CM ⟨k,n,t⟩++C.data.toList):=by
      show q.data.toList=_;rcases u.o with⟨_,_,h⟩|⟨h|h,_⟩
      ·exact h
      ·cases h
      ·exact absurd j.o h
     have ac:C.size<q.size:=by
      have V:=congrArg List.length E.o;rw[lAp,AL,AL]at V;have h2:0<(CM ⟨k,n,t⟩).length:=length_pos_iff.2 (Iz j.o);omega
     by_cases X:r.length=8
     ·have Y:((r.length:Int)==8)=true:=by rw[beq_iff_eq];omega
      go_wp2_with (go_at_call 183;refine(AH _ _ _ _ A).mono ?_;rintro e wc ⟨rfl,f⟩;have g:=(d.alloc d.size _).trans (f.mono (by have:=d.size;simp;omega)))
      go_ret2
      exact⟨.inr ⟨rfl,SI i.o m.o p.o X⟩,g⟩
     ·have Y:((r.length:Int)==8)=false:=by rw[beq_eq_false_iff_ne];omega
      go_wp2_with (first
       |(go_at_call 183;refine(AH _ _ _ _ A).mono ?_;rintro e wc ⟨rfl,f⟩;have g:=(d.alloc d.size _).trans (f.mono (by have:=d.size;simp;omega));have K:=Md (SH aa _) f;have ag:=cLz f (a:=⟨D.heap.size,0,none⟩) (v:=vI k) ϡ;have ah:=cLz f (a:=⟨D.heap.size,1,none⟩) (v:=vI n) ϡ;have ai:=cLz f (a:=⟨D.heap.size,2,none⟩) (v:=.string t) ϡ)
       |(at_builtin;refine Ls rfl (.tmp 29) (.tmp 31) rfl w.heap.size _ r rfl _ K ⟨k,n,t⟩ _ rfl rfl ϝ g.size ?_;intro v' w2 ab Z))
      go_roundw
      case rel=>exact⟨C,r++[⟨k,n,t⟩],rfl,ϝ,ab,IB g g.size K Z,by rw[lAp];simp;omega,λc o=>by
       rcases mem_append.1 o with h|h
       ·exact i.o c h
       ·rw[mem_singleton.1 h];exact⟨j.o,S.o⟩,by rw[m.o,OQ,append_assoc,E.o]⟩
      case measure=>exact ac
    ·have af:(chk k n t==0)=false:=by simpa using o
     have j:ϛ (¬(⟨k,n,t⟩:Cel).ok):=λh=>o (beq_iff_eq.2 h);go_wp2_with (go_at_call 183;refine(AH _ _ _ _ A).mono ?_;rintro e wc ⟨rfl,f⟩;have g:=(d.alloc d.size _).trans (f.mono (by have:=d.size;simp;omega)))
     go_ret2
     exact⟨.inr ⟨rfl,Mf i.o m.o p.o (by
      rcases u.o with⟨_,h,_⟩|⟨_,h⟩
      ·exact absurd h j.o
      ·exact h)⟩,g⟩
  ·have P:ϛ (q.data.toList=[]):=eq_nil_of_length_eq_zero (by rw[AL];omega);go_wp2
   go_ret2
   exact⟨.inl ⟨r,T,U,rfl,⟨W,i.o⟩,by have h:=m.o;rw[P.o,append_nil]at h;exact h.symm,F.o⟩,y⟩
theorem Qz(s:ByteArray)(r:List Cel)(w:ϙ)(z:s.size<=maxLen)(j:rowOk r)(m:encR r=s.data.toList):
 η 145 #[.string s] w λe w'=>(∃f g,e= .returned (.tuple #[vS f r.length g,ω])/\AA w' w (vS f r.length g) r)/\Ϝ w w':=by
 refine(Mg s w z).mono λe w' ⟨h,t⟩=>⟨?_,t⟩;rcases h with⟨A,f,g,y,o,p,q⟩|⟨_,h⟩
 ·obtain⟨c,i,k⟩:=Gt A r [] o.2 j.2 (by rw[append_nil,p,m]);have:c=[]:=by
   cases c with
   |nil=>rfl
   |cons d c=>
    have u:=j.2 d (by rw[i];simp);have n:encR (d::c)=CM d++encR c:=rfl;rw[n]at k;have:=(append_eq_nil_iff.1 k.symm).1;exact absurd this (Iz u.1)
  subst this;rw[append_nil]at i;subst i;exact⟨f,g,y,q⟩
 ·exact absurd m (h r j)
theorem AaQ(s:ByteArray)(w:ϙ)(g:s.size<=maxLen)(i:Ol s.data.toList):
 η 145 #[.string s] w (θ w (.tuple #[ψ,vI 1])):=by
 refine(Mg s w g).mono λe w' ⟨h,f⟩=>⟨?_,f⟩;rcases h with⟨j,k,m,o,c,d,n⟩|⟨h,_⟩
 ·exact absurd d (i j c)
 ·exact h
theorem AaR(h:∀c∈r,c.ok/\c.wf):FR r=0:=by
 induction r with
 |nil=>rfl
 |cons c r ih=>
  have d:chk c.k c.n c.s=0:=(h c (mem_cons_self ..)).1;rw[FR,if_pos d];exact ih (λx e=>h x (mem_cons_of_mem _ e))
theorem Ku(h:rowOk r):A5 r=0:=by
 unfold A5;have:=h.1;rw[if_neg ϝ];exact AaR h.2
theorem Jo(h:rowOk r):(EY r).data.toList=encR r:=by
 unfold EY;rw[if_pos (Ku h)]
theorem Y0(h:rowOk r):B9 r:=λc d=>(h.2 c d).2
theorem Q0(h:rowOk r):(EY r).size<=1048:=by
 rw[<-AL,Jo h];have e:=Dh r (λc d=>(h.2 c d).1);have:=h.1;omega
theorem Adg(a:Ϛ)(cap:Nat)(r:List Cel)(w:ϙ)(f:rowAt w a r)(h:rowOk r):
 η 112 #[vS a r.length cap] w (θ w (.tuple #[.string (EY r),ω])):=by
 refine(Iy a cap r w f (Y0 h) (by have:=h.1;omega)).mono λe w' ⟨d,c⟩=>⟨?_,c⟩;rw[d,Ku h]
theorem Ab{a:Ϛ}(h:rowAt w a r)(c:Ϝ w w'):rowAt w' a r:=by
 intro i d;obtain⟨b,o,e,f,g,j⟩:=h i d;exact⟨b,o,e,cLz c f,cLz c g,cLz c j⟩
end vl
namespace vl
theorem laidOut:laidOutB Tryz.prog=true:=Ϡ
theorem own:ownKnob Tryz.prog.godebug=none:=Ϡ
theorem Cn:Tryz.prog.cellsOf 3=1:=Ϡ
theorem Q1:Tryz.prog.cellsOf 9=1:=Ϡ
theorem Y1:Tryz.prog.cellsOf 119=3:=Ϡ
section
variable {H : Type} {enc : TypeId × Value -> H} {w : ϙ} {base : Nat} {spare : Nat -> Bool} {held : Bool}
theorem Q2{x:Addr}{e:List Value}{y:DataW H×List MemPlace}{fuel:Nat}(u:w.cells? base x 3=some e)(C:DataW.trod enc Tryz.prog w base spare held fuel 119 e=some y):
 ∃(b d:Nat) (c:Cel),x=⟨b,d,none⟩/\ό w b d (.int .i64 c.k) (.int .i64 c.n) (.string c.s) (c.wf):=by
 obtain⟨_,z,f⟩:=World.cells?_some u;obtain⟨G,I,J,n,_,_,p,q,t⟩:=trod_struct3 underlying119 C
 match e,z with
 |[a0,a1,a2],_=>
  obtain⟨k,e0,_,F⟩:=DataW.trod_int underlying3 p;obtain⟨m,g,_,E⟩:=DataW.trod_int underlying3 q;obtain⟨s,h,_,A⟩:=DataW.trod_string underlying9 t;simp[Cn]at e0;simp[Cn]at g;simp[Q1]at h;subst e0 g h;obtain⟨b,d,D⟩:=x;have i:=f 0 ϝ;have j:=f 1 ϝ;have o:=f 2 ϝ;have B:D=none:=by simpa[Addr.add]using World.cell?_spot i
  subst B;refine⟨b,d,⟨k,m,s⟩,rfl,?_,?_,?_,bounds_i64 E,A⟩
  ·simpa[Addr.add]using i
  ·simpa[Addr.add]using j
  ·simpa[Addr.add]using o
theorem open_row{a:Ϛ}{len cap:Nat}{d:DataW H}{p:List MemPlace}(h:DataW.Trod enc Tryz.prog w base spare held 80 (.slice a len cap) d p):
 ∃r:List Cel,r.length=len/\rowAt w a r/\B9 r/\len<=9223372036854775807:=by
 obtain⟨fuel,J⟩:=h;rcases open_slice underlying80 J with⟨j,_⟩|⟨x,l,c,m,n,D,O,j,_,S,K,L,_,z⟩
 ·simp[Value.cells]at j;obtain⟨rfl,rfl,rfl⟩:=j;exact⟨[],rfl,λi g=>absurd g (Nat.not_lt_zero i),(λc y=>by cases y),ϝ⟩
 ·simp[Value.cells]at j;obtain⟨rfl,rfl,rfl⟩:=j;have T:len<=m:=by rw[L];split<;>omega
  rw[Y1]at z;obtain⟨f,B⟩:=choose_lt (α:=Cel) (n:=len) (p:=λi c=> ∃b k,x=⟨b,k,none⟩/\ό w b (k+i * 3) (.int .i64 c.k) (.int .i64 c.n) (.string c.s) (c.wf)) (λi g=>by
   obtain⟨Q,G,I⟩:=z i ϝ;obtain⟨b,k,c,e,s,t,u,A⟩:=Q2 G I
   -- the slice begins where its first element does
   obtain⟨R,M,N⟩:=z 0 ϝ;obtain⟨q,o,P,e0,_⟩:=Q2 M N;have F:x=⟨q,o,none⟩:=by simpa[Addr.add]using e0
   subst F;have E:(⟨q,o,none⟩:Addr).add (i * 3)=⟨q,o+i * 3,none⟩:=by unfold Addr.add;split<;>simp_all
   rw[E]at e
   cases e
   exact⟨c,b,o,rfl,s,t,u,A⟩)
  refine⟨(List.range len).map f,ϟ,?_,?_,by unfold maxLen at K;omega⟩
  ·intro i g;have C:i<len:=by simpa using g
   obtain⟨b,k,rfl,s,t,u,_⟩:=B i C;have e:((List.range len).map f).getD i default=f i:=by simp[gDe,C]
   rw[e];exact⟨b,k,rfl,s,t,u⟩
  ·intro c y;obtain⟨i,g,rfl⟩:=mem_map.1 y;obtain⟨_,_,_,_,_,_,A⟩:=B i (by simpa using g);exact A
end
end vl
namespace vl
variable {a b : UInt8}
theorem DC(l x y:List UInt8):Lib.compareBytes (l++x) (l++y)=Lib.compareBytes x y:=by
 induction l with
 |nil=>rfl
 |cons a l ih=>
  rw[cons_append,cons_append,Lib.compareBytes,if_neg (UInt8.lt_irrefl a),if_neg (UInt8.lt_irrefl a)];exact ih
theorem Ii(x y:List UInt8)(h:a<b):Lib.compareBytes (a::x) (b::y)= -1:=by rw[Lib.compareBytes,if_pos h]
theorem Ij(x y:List UInt8)(h:b<a):Lib.compareBytes (a::x) (b::y)=1:=by
 rw[Lib.compareBytes,if_neg (λc=>absurd (UInt8.lt_trans h c) (UInt8.lt_irrefl b)),if_pos h]
theorem fold_acc(l:List UInt8)(a:Nat):l.foldl (λu b=>u * 256+b.toNat) a=a * 256 ^ l.length+Be l:=by
 induction l generalizing a with
 |nil=>simp[Be]
 |cons b l ih=>
  have e:Be (b::l)=(b::l).foldl (λu b=>u * 256+b.toNat) 0:=rfl;rw[e,foldl_cons,foldl_cons,ih,ih (0 * 256+b.toNat),length_cons,Nat.pow_succ];rw[Nat.add_mul,Nat.mul_assoc,Nat.mul_comm 256,Nat.zero_mul,Nat.zero_add];omega
theorem Mh(b:UInt8)(l:List UInt8):Be (b::l)=b.toNat * 256 ^ l.length+Be l:=by
 have e:Be (b::l)=l.foldl (λu b=>u * 256+b.toNat) (0 * 256+b.toNat):=rfl;rw[e,fold_acc];simp
theorem AaS(l m x y:List UInt8)(h:l.length=m.length):
 Lib.compareBytes (l++x) (m++y)=if Be l<Be m then -1 else if Be m<Be l then 1 else Lib.compareBytes x y:=by
 induction l generalizing m with
 |nil=>
  cases m with
  |nil=>simp[Be]
  |cons b m=>simp at h
 |cons a l ih=>
  cases m with
  |nil=>simp at h
  |cons b m=>
   have e:l.length=m.length:=by simpa using h
   have f:=FE l;have k:=FE m;rw[cons_append,cons_append,Mh,Mh];rw[e]at f⊢;by_cases c:a<b
   ·have g:a.toNat+1<=b.toNat:=UInt8.lt_iff_toNat_lt.1 c;have:=Nat.mul_le_mul_right (256 ^ m.length) g;rw[Nat.add_mul]at this;rw[Ii _ _ c,if_pos ϝ]
   ·by_cases d:b<a
    ·have i:b.toNat+1<=a.toNat:=UInt8.lt_iff_toNat_lt.1 d;have:=Nat.mul_le_mul_right (256 ^ m.length) i;rw[Nat.add_mul]at this;rw[Ij _ _ d,if_neg ϝ,if_pos ϝ]
    ·have j:a=b:=UInt8.le_antisymm (UInt8.not_lt.1 d) (UInt8.not_lt.1 c);subst j;rw[Lib.compareBytes,if_neg c,if_neg c,ih m e];simp only[Nat.add_lt_add_iff_left]
theorem Ik(h:b≠0):(0:UInt8)<b:=by
 rcases Nat.eq_zero_or_pos b.toNat with c|c
 ·exact absurd (Ke c) h
 ·exact UInt8.lt_iff_toNat_lt.2 c
theorem VU(s t x y:List UInt8):
 Lib.compareBytes (B5 s++0::1::x) (B5 t++0::1::y)=if Lib.compareBytes s t=0 then Lib.compareBytes x y else Lib.compareBytes s t:=by
 induction s generalizing t with
 |nil=>
  cases t with
  |nil=>simp[B5,Lib.compareBytes]
  |cons b t=>
   rw[Dn];by_cases c:b=0
   ·rw[if_pos c];simp[B5,Lib.compareBytes]
   ·have:=Ik c;rw[if_neg c];simp[B5,Lib.compareBytes,this]
 |cons a s ih=>
  cases t with
  |nil=>
   rw[Dn];by_cases ha:a=0
   ·rw[if_pos ha];simp[B5,Lib.compareBytes]
   ·have:=Ik ha;have d:¬a<0:=λh=>absurd (UInt8.lt_trans this h) (UInt8.lt_irrefl 0);rw[if_neg ha];simp[B5,Lib.compareBytes,this,d]
  |cons b t=>
   rw[Dn,Dn];by_cases g:a=b
   ·subst g;rw[append_assoc,append_assoc,DC,ih t,Lib.compareBytes,if_neg (UInt8.lt_irrefl a),if_neg (UInt8.lt_irrefl a)]
   ·by_cases f:a<b
    ·have e:Lib.compareBytes (a::s) (b::t)= -1:=Ii _ _ f;have c:b≠0:=λh=>by subst h;exact absurd (UInt8.lt_iff_toNat_lt.1 f) (Nat.not_lt_zero _)
     rw[e,if_neg (show¬((-1:Int)=0) by decide),if_neg c];by_cases ha:a=0
     ·rw[if_pos ha];exact Ii _ _ (Ik c)
     ·rw[if_neg ha];exact Ii _ _ f
    ·have d:b<a:=by
      rcases Nat.lt_trichotomy a.toNat b.toNat with h|h|h
      ·exact absurd (UInt8.lt_iff_toNat_lt.2 h) f
      ·exact absurd (Ke h) g
      ·exact UInt8.lt_iff_toNat_lt.2 h
     have e:Lib.compareBytes (a::s) (b::t)=1:=Ij _ _ d;have ha:a≠0:=λh=>by subst h;exact absurd (UInt8.lt_iff_toNat_lt.1 d) (Nat.not_lt_zero _)
     rw[e,if_neg (show¬((1:Int)=0) by decide),if_neg ha];by_cases c:b=0
     ·rw[if_pos c];exact Ij _ _ (Ik ha)
     ·rw[if_neg c];exact Ij _ _ d
theorem AaT(c d:Cel):Gm c d=if CL c.k d.k=0 then(if CL c.n d.n=0 then Lib.compareBytes c.s.data.toList d.s.data.toList else CL c.n d.n)else CL c.k d.k:=by
 unfold Gm P7 AG AG AG AG;by_cases e:CL c.k d.k=0
 ·rw[if_pos e,if_pos e];by_cases f:CL c.n d.n=0
  ·rw[if_pos f,if_pos f];split
   ·rename_i h;exact h.symm
   ·rfl
  ·rw[if_neg f,if_neg f]
 ·rw[if_neg e,if_neg e]
theorem VV{c d:Cel}(i:c.ok)(j:d.ok)(wc:c.wf)(u:d.wf)(x y:List UInt8):
 Lib.compareBytes (CM c++x) (CM d++y)=if Gm c d=0 then Lib.compareBytes x y else Gm c d:=by
 rw[AaT];rcases encC_cases i with⟨rfl,e⟩|⟨rfl,e⟩|⟨rfl,e⟩|⟨n,rfl,e⟩|⟨s,rfl,z,e⟩<;>rcases encC_cases j with⟨rfl,f⟩|⟨rfl,f⟩|⟨rfl,f⟩|⟨m,rfl,f⟩|⟨t,rfl,A,f⟩<;>simp only[e,f,cons_append,nil_append]
 all_goals try (rw[Ii _ _ Ϟ];rfl)
 all_goals try (rw[Ij _ _ Ϟ];rfl)
 ·exact DC [0] x y
 ·exact DC [1,0] x y
 ·have:=DC [1] (0::x) (1::y);simp only[cons_append,nil_append]at this;rw[this,Ii _ _ Ϟ];rfl
 ·have:=DC [1] (1::x) (0::y);simp only[cons_append,nil_append]at this;rw[this,Ij _ _ Ϟ];rfl
 ·exact DC [1,1] x y
 ·obtain⟨⟨p,q⟩,_⟩:=wc;obtain⟨⟨k,o⟩,_⟩:=u;dsimp only at p q k o⊢;have:=DC [2] (be8 (n+9223372036854775808).toNat 8++x) (be8 (m+9223372036854775808).toNat 8++y);simp only[cons_append,nil_append]at this;rw[this,AaS _ _ _ _ (by rw[E9,E9]),Gq _ ϝ,Gq _ ϝ];have e0:CL 2 2=0:=Ϟ;rw[e0,if_pos rfl];unfold CL;by_cases g:n<m
  ·rw[if_pos ϝ,if_pos g];rfl
  ·rw[if_neg ϝ,if_neg g];by_cases h:m<n
   ·rw[if_pos ϝ,if_pos h];rfl
   ·rw[if_neg ϝ,if_neg h];rfl
 ·have:=DC [3] (B5 s.data.toList++[0,1]++x) (B5 t.data.toList++[0,1]++y);simp only[cons_append,nil_append,append_assoc]at this⊢;rw[this,VU];rfl
theorem Om(a b:List Cel)(ha:∀c∈a,c.ok/\c.wf)(f:∀c∈b,c.ok/\c.wf):Lib.compareBytes (encR a) (encR b)=AX a b:=by
 induction a generalizing b with
 |nil=>
  cases b with
  |nil=>rfl
  |cons d b=>
   have e:encR (d::b)=CM d++encR b:=rfl;rw[e];have:=Iz (f d (mem_cons_self ..)).1
   cases h:CM d with
   |nil=>exact absurd h this
   |cons z zs=>rfl
 |cons c a ih=>
  have j:encR (c::a)=CM c++encR a:=rfl;have g:=ha c (mem_cons_self ..)
  cases b with
  |nil=>
   rw[j]
   cases h:CM c with
   |nil=>exact absurd h (Iz g.1)
   |cons z zs=>rfl
  |cons d b=>
   have m:encR (d::b)=CM d++encR b:=rfl;have k:=f d (mem_cons_self ..);rw[j,m,VV g.1 k.1 g.2 k.2,ih b (λx i=>ha x (mem_cons_of_mem _ i)) (λx i=>f x (mem_cons_of_mem _ i)),AX]
theorem Q3{a b:List Cel}(ha:∀c∈a,c.ok/\c.wf)(i:∀c∈b,c.ok/\c.wf)(h:encR a=encR b):a=b:=by
 obtain⟨e,f,g⟩:=Gt a b [] ha i (by rw[append_nil];exact h)
 cases e with
 |nil=>rw[f,append_nil]
 |cons d e=>
  have k:=i d (by rw[f];simp);have j:encR (d::e)=CM d++encR e:=rfl;rw[j]at g;exact absurd (append_eq_nil_iff.1 g.symm).1 (Iz k.1)
end vl
namespace vl
def R4:List Cel:=[⟨2, -1,⟨#[]⟩⟩,⟨3,0,⟨#[97,0]⟩⟩,⟨1,1,⟨#[]⟩⟩,⟨0,0,⟨#[]⟩⟩]
end vl
end Go.Proofs.YtfkihidbnfkbaaaGreatDoor
