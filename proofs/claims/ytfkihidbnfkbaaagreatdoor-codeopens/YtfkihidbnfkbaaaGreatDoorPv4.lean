import Derived.Test.YtfkihidbnfkbaaaGreatDoorPv3
import Derived.Lib.SmallJoins
set_option linter.all false
set_option maxHeartbeats 4000000
set_option maxRecDepth 100000
open Go.ChangeShapes Go.WideShapes Go.ChangeAt Go.RowKit Go.Joins Go.Deep List
namespace Go.Proofs.YtfkihidbnfkbaaaGreatDoor
open Go.Proofs.Tryz
namespace vl
variable {b : UInt8} {l tail : List UInt8} {w w' : Ϙ} {base : Nat} {v : Value} {r x : List Cel}
def noCell(l:List UInt8):Prop:=∀(d:Cel) t,d.ok->d.wf->l≠C3 d++t
def Ls(l:List UInt8)(c:Cel)(rs:ByteArray)(ok:Bool):Prop:=(ok=true/\c.ok/\l=C3 c++rs.data.toList)\/((ok=false\/¬c.ok)/\noCell l)
def EZ(l:List UInt8)(e:Ending):Prop:=∃(c:Cel) (rs:ByteArray) (ok:Bool),e= .returned (.tuple #[.agg #[vI c.k,vI c.n,.string c.s],.string rs,.bool ok])/\
 c.wf/\Ls l c rs ok
theorem wf0(k n:Int)(c: -9223372036854775808<=n)(d:n<=9223372036854775807):(⟨k,n,⟨#[]⟩⟩:Cel).wf:=⟨⟨c,d⟩,Nat.zero_le _⟩
theorem wf3{c:ByteArray}(h:c.size<=65):(⟨3,0,c⟩:Cel).wf:=⟨⟨by show(-9223372036854775808:Int)<=0;decide,by show(0:Int)<=9223372036854775807;decide⟩,by show c.size<=maxLen;unfold maxLen;omega⟩
theorem Oa(k n:Int)(s:ByteArray)(h:chk k n s=0):(⟨k,n,s⟩:Cel).ok:=h
theorem Ys(f:b≠0)(c:b≠1)(g:b≠2)(i:b≠3):noCell (b::l):=by
 intro d t j k h;rcases encC_cases j with⟨_,e⟩|⟨_,e⟩|⟨_,e⟩|⟨n,_,e⟩|⟨s,_,_,e⟩<;>rw[e]at h<;>simp at h
 ·exact f h.1
 ·exact c h.1
 ·exact c h.1
 ·exact g h.1
 ·exact i h.1
theorem VH:noCell [1]:=by
 intro d t c f h;rcases encC_cases c with⟨_,e⟩|⟨_,e⟩|⟨_,e⟩|⟨n,_,e⟩|⟨s,_,_,e⟩<;>rw[e]at h<;>simp at h
theorem Yt(c:b≠0)(f:b≠1):noCell (1::b::l):=by
 intro d t g i h;rcases encC_cases g with⟨_,e⟩|⟨_,e⟩|⟨_,e⟩|⟨n,_,e⟩|⟨s,_,_,e⟩<;>rw[e]at h<;>simp at h
 ·exact c h.1
 ·exact f h.1
theorem ZV(f:l.length<8):noCell (2::l):=by
 intro d t c g h;rcases encC_cases c with⟨_,e⟩|⟨_,e⟩|⟨_,e⟩|⟨n,_,e⟩|⟨s,_,_,e⟩<;>rw[e]at h<;>simp at h;have:=congrArg List.length h;rw[lAp,Ek]at this;omega
theorem S8(f:F0 l):noCell (3::l):=by
 intro d t c i h;rcases encC_cases c with⟨_,e⟩|⟨_,e⟩|⟨_,e⟩|⟨n,_,e⟩|⟨s,_,g,e⟩<;>rw[e]at h<;>simp at h;exact f s.data.toList t (by rw[AE];exact g) (by simpa using h)
theorem VI(l:List UInt8)(d:8<=l.length):2::l=C3 ⟨2,(Ba (l.take 8):Int) - 9223372036854775808,⟨#[]⟩⟩++l.drop 8:=by
 have e:(((Ba (l.take 8):Int) - 9223372036854775808)+9223372036854775808).toNat=Ba (l.take 8):=Ϝ;have c:C3 ⟨2,(Ba (l.take 8):Int) - 9223372036854775808,⟨#[]⟩⟩=2::be8 (((Ba (l.take 8):Int) - 9223372036854775808)+9223372036854775808).toNat 8:=rfl;rw[c,e,U6 _ (by rw[length_take];omega),cons_append,take_append_drop]
theorem CZ(s:ByteArray)(h:0<s.size):s.data.toList=s[0]::(s.extract 1 s.size).data.toList:=by
 rw[Lib.extract_to_end];have:=Dv s 0 h;simpa using this
attribute [local go_sem ↓] Go.wp_at_zero Go.wp_at_succ
theorem MK(s r:ByteArray)(w:Ϙ)(k:0<s.size)(g:s.size<=maxLen)(j:s.extract 1 s.size=r)(c:s[0]=0):
 η 209 #[.string s] w λe w'=>EZ s.data.toList e/\ϛ w w':=by
 have f:Ϛ (s.data.toList=s[0]::(s.extract 1 s.size).data.toList):=CZ s k;have n:(s[0].toNat:Int)=0:=by rw[c];rfl
 have d:=hqz c;clear c;unfold maxLen at g;have i:s.extract 1 s.size=r:=j;have o:(0:Int)<(s.size:Int):=Ϝ;have m:(s[0].toNat:Int)<=255:=by have:=s[0].toNat_lt;omega
 go_enter func209,ntmps209;go_wp2
 go_quiet (fail)
 go_wp2;exact bodyPost_ret (v:=.tuple #[.agg #[ω,ω,ϊ],.string r,.bool true]) (by simp[results,results209,go_sem]) rfl
  ⟨⟨⟨0,0,⟨#[]⟩⟩,r,true,rfl,wf0 _ _ ϝ ϝ,.inl ⟨rfl,Oa _ _ _ ϝ,by have h:=f.o;rw[d.o,i]at h;exact h⟩⟩,by repeat (first|exact bR|(refine below_drewN ?_ _)|apply Below.drew|(refine Below.setCell ?_ Ϟ _)|(refine Below.alloc ?_ ϣ _))⟩
theorem Lt(s r:ByteArray)(w:Ϙ)(h:0<s.size)(j:s.size<=maxLen)(k:s.extract 1 s.size=r)(c:s[0]≠0)(d:s[0]≠1)(f:s[0]≠2)(g:s[0]≠3):
 η 209 #[.string s] w λe w'=>EZ s.data.toList e/\ϛ w w':=by
 have m:Ϛ (s.data.toList=s[0]::(s.extract 1 s.size).data.toList):=CZ s h;have i:Ϛ (noCell s.data.toList):=by
  show noCell s.data.toList;rw[CZ s h];exact Ys c d f g
 have q:((s[0].toNat:Int)==0)=false:=(Ff s[0] 0).trans (decide_eq_false c);have t:((s[0].toNat:Int)==1)=false:=(Ff s[0] 1).trans (decide_eq_false d);have u:((s[0].toNat:Int)==2)=false:=(Ff s[0] 2).trans (decide_eq_false f);have y:((s[0].toNat:Int)==3)=false:=(Ff s[0] 3).trans (decide_eq_false g);clear c d f g;unfold maxLen at j;have o:s.extract 1 s.size=r:=k;have p:(0:Int)<(s.size:Int):=Ϝ;have n:(s[0].toNat:Int)<=255:=by have:=s[0].toNat_lt;omega
 go_enter func209,ntmps209;go_wp2
 go_quiet (fail)
 go_wp2;exact bodyPost_ret (v:=.tuple #[.agg #[ω,ω,ϊ],ϊ,ϋ]) (by simp[results,results209,go_sem]) rfl
  ⟨⟨⟨0,0,⟨#[]⟩⟩,⟨#[]⟩,false,rfl,wf0 _ _ ϝ ϝ,.inr ⟨.inl rfl,i.o⟩⟩,by repeat (first|exact bR|(refine below_drewN ?_ _)|apply Below.drew|(refine Below.setCell ?_ Ϟ _)|(refine Below.alloc ?_ ϣ _))⟩
theorem Lu(s r:ByteArray)(w:Ϙ)(i:0<s.size)(g:s.size<=maxLen)(d:s.extract 1 s.size=r)(c:s[0]=1)(h:r.size=0):
 η 209 #[.string s] w λe w'=>EZ s.data.toList e/\ϛ w w':=by
 have f:Ϛ (noCell s.data.toList):=by
  show noCell s.data.toList;rw[CZ s i,c,d,Qb h];exact VH
 have k:(s[0].toNat:Int)=1:=by rw[c];rfl
 clear c;unfold maxLen at g;have m:s.extract 1 s.size=r:=d;have n:(0:Int)<(s.size:Int):=Ϝ;have j:(s[0].toNat:Int)<=255:=by have:=s[0].toNat_lt;omega
 go_enter func209,ntmps209;go_wp2
 go_quiet (fail)
 go_wp2;exact bodyPost_ret (v:=.tuple #[.agg #[ω,ω,ϊ],ϊ,ϋ]) (by simp[results,results209,go_sem]) rfl
  ⟨⟨⟨0,0,⟨#[]⟩⟩,⟨#[]⟩,false,rfl,wf0 _ _ ϝ ϝ,.inr ⟨.inl rfl,f.o⟩⟩,by repeat (first|exact bR|(refine below_drewN ?_ _)|apply Below.drew|(refine Below.setCell ?_ Ϟ _)|(refine Below.alloc ?_ ϣ _))⟩
theorem VJ(b:UInt8)(h:b=0\/b=1):(⟨1,(b.toNat:Int),⟨#[]⟩⟩:Cel).ok/\C3 ⟨1,(b.toNat:Int),⟨#[]⟩⟩=[1,b]:=by
 rcases h with rfl|rfl<;>exact⟨Oa _ _ _ ϝ,rfl⟩
theorem QZ(b:UInt8)(c:b≠0)(d:b≠1):¬(⟨1,(b.toNat:Int),⟨#[]⟩⟩:Cel).ok:=by
 intro h;obtain⟨_,f⟩:=FF h;dsimp only at f;have e0:b.toNat≠0:=λe=>c (Jb e);have g:b.toNat≠1:=λe=>d (Jb e);omega
theorem VK(s r:ByteArray)(n:0<s.size)(m:s.extract 1 s.size=r)(g:s[0]=1)(k:0<r.size):
 Ls s.data.toList ⟨1,(r[0].toNat:Int),⟨#[]⟩⟩ (r.extract 1 r.size) true:=by
 have e:s.data.toList=(1:UInt8)::r[0]::(r.extract 1 r.size).data.toList:=by rw[CZ s n,g,m,<-CZ r k]
 by_cases c:r[0]=0\/r[0]=1
 ·obtain⟨i,j⟩:=VJ r[0] c;exact .inl ⟨rfl,i,by rw[j,e];rfl⟩
 ·have d:r[0]≠0:=λh=>c (.inl h);have f:r[0]≠1:=λh=>c (.inr h);exact .inr ⟨.inr (QZ _ d f),by rw[e];exact Yt d f⟩
theorem MM(s r:ByteArray)(w:Ϙ)(m:0<s.size)(i:s.size<=maxLen)(d:s.extract 1 s.size=r)(c:s[0]=1)(j:0<r.size):
 η 209 #[.string s] w λe w'=>EZ s.data.toList e/\ϛ w w':=by
 have f:=VK s r m d c j;have g:Ϛ (Ls s.data.toList ⟨1,(r[0].toNat:Int),⟨#[]⟩⟩ (r.extract 1 r.size) true):=f;have h:Ϛ ((⟨1,(r[0].toNat:Int),⟨#[]⟩⟩:Cel).wf):=by
  have:=r[0].toNat_lt;exact wf0 _ _ Ϝ Ϝ
 clear f;have k:r.size<=maxLen:=by
  rw[<-d,ByteArray.size_extract];omega
 have p:(s[0].toNat:Int)=1:=by rw[c];rfl
 have t:((r.size:Int)==0)=false:=by rw[beq_eq_false_iff_ne];omega
 have y:(0:Int)<(r.size:Int):=Ϝ;have o:(r[0].toNat:Int)<=255:=by have:=r[0].toNat_lt;omega
 clear c;unfold maxLen at i k;have q:s.extract 1 s.size=r:=d;have u:(0:Int)<(s.size:Int):=Ϝ;have n:(s[0].toNat:Int)<=255:=by have:=s[0].toNat_lt;omega
 go_enter func209,ntmps209;go_wp2
 go_quiet (fail)
 go_wp2
 go_region
 all_goals go_wp2
 all_goals
  exact bodyPost_ret (v:=.tuple #[.agg #[vI 1,vI (r[0].toNat:Int),ϊ],.string (r.extract 1 r.size),.bool true]) (by simp[results,results209,go_sem]) rfl
   ⟨⟨⟨1,_,⟨#[]⟩⟩,_,true,rfl,h.o,g.o⟩,by repeat (first|exact bR|(refine below_drewN ?_ _)|apply Below.drew|(refine Below.setCell ?_ Ϟ _)|(refine Below.alloc ?_ ϣ _))⟩
theorem MN(s r:ByteArray)(w:Ϙ)(i:0<s.size)(g:s.size<=maxLen)(d:s.extract 1 s.size=r)(c:s[0]=2)(h:r.size<8):
 η 209 #[.string s] w λe w'=>EZ s.data.toList e/\ϛ w w':=by
 have f:Ϛ (noCell s.data.toList):=by
  show noCell s.data.toList;rw[CZ s i,c,d];exact ZV (by rw[AE];exact h)
 have k:(s[0].toNat:Int)=2:=by rw[c];rfl
 clear c;unfold maxLen at g;have m:s.extract 1 s.size=r:=d;have n:(0:Int)<(s.size:Int):=Ϝ;have j:(s[0].toNat:Int)<=255:=by have:=s[0].toNat_lt;omega
 go_enter func209,ntmps209;go_wp2
 go_quiet (fail)
 go_wp2;exact bodyPost_ret (v:=.tuple #[.agg #[ω,ω,ϊ],ϊ,ϋ]) (by simp[results,results209,go_sem]) rfl
  ⟨⟨⟨0,0,⟨#[]⟩⟩,⟨#[]⟩,false,rfl,wf0 _ _ ϝ ϝ,.inr ⟨.inl rfl,f.o⟩⟩,by repeat (first|exact bR|(refine below_drewN ?_ _)|apply Below.drew|(refine Below.setCell ?_ Ϟ _)|(refine Below.alloc ?_ ϣ _))⟩
theorem Ob(s:ByteArray)(k:Nat):(s.extract 0 k).data.toList=s.data.toList.take k:=by
 simp[ByteArray.data_extract,Array.toList_extract]
theorem ZW(n:Int):(⟨2,n,⟨#[]⟩⟩:Cel).ok:=by
 refine Oa _ _ _ ?_;unfold chk;have e:(⟨#[]⟩:ByteArray).size=0:=rfl;rw[e,if_neg Ϝ,if_neg Ϝ,if_neg Ϝ]
theorem Oc(s r:ByteArray)(w:Ϙ)(n:0<s.size)(j:s.size<=maxLen)(d:s.extract 1 s.size=r)(c:s[0]=2)(k:8<=r.size):
 η 209 #[.string s] w λe w'=>EZ s.data.toList e/\ϛ w w':=by
 have h:Ϛ (s.data.toList=C3 ⟨2,(Ba (r.extract 0 8).data.toList:Int) - 9223372036854775808,⟨#[]⟩⟩++(r.extract 8 r.size).data.toList):=by
  show s.data.toList=_;rw[CZ s n,c,d,Ob,Lib.extract_to_end];exact VI _ (by rw[AE];exact k)
 have f:(r.extract 0 8).size=8:=by rw[ByteArray.size_extract];omega
 have g:Ϛ (Ba (r.extract 0 8).data.toList<18446744073709551616):=Qa _ (by rw[AE];exact f);have m:r.size<=maxLen:=by
  rw[<-d,ByteArray.size_extract];omega
 have p:(s[0].toNat:Int)=2:=by rw[c];rfl
 have u:(8:Int)<=(r.size:Int):=Ϝ;have i:=hqz f;clear c f;unfold maxLen at j m;have q:s.extract 1 s.size=r:=d;have t:(0:Int)<(s.size:Int):=Ϝ;have o:(s[0].toNat:Int)<=255:=by have:=s[0].toNat_lt;omega
 go_enter func209,ntmps209;go_wp2
 go_quiet (fail)
 go_wp2
 go_region_held3 (λ_=>True) (trivial) (first|(go_at_call 248;refine(Qc _ _ i.o).mono ?_;rintro e w' ⟨rfl,rfl⟩))
 all_goals go_wp2
 all_goals
  exact bodyPost_ret (v:=.tuple #[.agg #[vI 2,vI ((Ba (r.extract 0 8).data.toList:Int) - 9223372036854775808),ϊ],.string (r.extract 8 r.size),.bool true]) (by simp[results,results209,go_sem]) rfl
   ⟨⟨⟨2,_,⟨#[]⟩⟩,_,true,rfl,wf0 _ _ (by have:=g.o;omega) (by have:=g.o;omega),.inl ⟨rfl,ZW _,h.o⟩⟩,by repeat (first|exact bR|(refine below_drewN ?_ _)|apply Below.drew|(refine Below.setCell ?_ Ϟ _)|(refine Below.alloc ?_ ϣ _))⟩
theorem VN(s r c rs:ByteArray)(ok:Bool)(j:0<s.size)(i:s.extract 1 s.size=r)(d:s[0]=3)
 (h:(ok=true/\r.data.toList=Bq c.data.toList++0::1::rs.data.toList)\/(ok=false/\F0 r.data.toList)):
 Ls s.data.toList ⟨3,0,c⟩ rs ok:=by
 have e:s.data.toList=(3:UInt8)::r.data.toList:=by rw[CZ s j,d,i]
 rcases h with⟨rfl,h⟩|⟨rfl,h⟩
 ·by_cases g:c.size<=64
  ·refine .inl ⟨rfl,Oa _ _ _ ?_,?_⟩
   ·unfold chk;rw[if_neg Ϝ,if_neg Ϝ,if_neg Ϝ]
   ·rw[e,h];show _=(3::(Bq c.data.toList++[0,1]))++_;simp
  ·refine .inr ⟨.inr ?_,?_⟩
   ·intro f;have:=(FF f).1;exact g this
   ·rw[e];exact S8 (Td h (by rw[AE];omega))
 ·exact .inr ⟨.inl rfl,by rw[e];exact S8 h⟩
theorem MO(s r:ByteArray)(w:Ϙ)(z:0<s.size)(t:s.size<=maxLen)(j:s.extract 1 s.size=r)(i:s[0]=3):
 η 209 #[.string s] w λe w'=>EZ s.data.toList e/\ϛ w w':=by
 have k:∀d c ok,((ok=true/\r.data.toList=Bq d.data.toList++0::1::c.data.toList)\/(ok=false/\F0 r.data.toList))->Ls s.data.toList ⟨3,0,d⟩ c ok:=
  λd c ok h=>VN s r d c ok z j i h
 have m:Ϛ (∀d c ok,((ok=true/\r.data.toList=Bq d.data.toList++0::1::c.data.toList)\/(ok=false/\F0 r.data.toList))->Ls s.data.toList ⟨3,0,d⟩ c ok):=k;clear k;have y:r.size<=maxLen:=by
  rw[<-j,ByteArray.size_extract];omega
 have G:(s[0].toNat:Int)=3:=by rw[i];rfl
 clear i;unfold maxLen at t;have I:s.extract 1 s.size=r:=j;have J:(0:Int)<(s.size:Int):=Ϝ;have C:(s[0].toNat:Int)<=255:=by have:=s[0].toNat_lt;omega
 go_enter func209,ntmps209;go_wp2
 go_quiet (fail)
 go_wp2_with (go_at_call 249;refine(O0 r _ y).mono ?_;rintro e g ⟨⟨d,c,ok,rfl,A,u⟩,f⟩;have o:=cLz f (a:=⟨w,0,none⟩) (v:=vI 0) Ϡ;have p:=cLz f (a:=⟨w,1,none⟩) (v:=vI 0) Ϡ;have q:=cLz f (a:=⟨w,2,none⟩) (v:=.string ⟨#[]⟩) Ϡ;have D:Ξ g w 0:=(f.frozen Ϟ).trans Ϡ;have E:Ξ g w 1:=(f.frozen Ϟ).trans Ϡ;have F:Ξ g w 2:=(f.frozen Ϟ).trans Ϡ);have n:ϛ w g:=(below_drewN ϧ _).trans (f.mono Ϟ);have B:w.heap.size<g.heap.size:=by have:=f.size;simp at this;omega
 exact bodyPost_ret (v:=.tuple #[.agg #[vI 3,ω,.string d],.string c,.bool ok]) (by simp[results,results209,go_sem,o,p,q,B]) rfl
  ⟨⟨⟨3,0,d⟩,c,ok,rfl,wf3 A,m.o d c ok u⟩,by repeat (first|exact n|(refine Below.setCell ?_ Ϟ _))⟩
theorem Od(s:ByteArray)(w:Ϙ)(f:0<s.size)(c:s.size<=maxLen):
 η 209 #[.string s] w λe w'=>EZ s.data.toList e/\ϛ w w':=by
 obtain⟨r,d⟩:∃r,s.extract 1 s.size=r:=⟨_,rfl⟩;by_cases j:s[0]=0
 ·exact MK s r w f c d j
 ·by_cases g:s[0]=1
  ·by_cases i:r.size=0
   ·exact Lu s r w f c d g i
   ·exact MM s r w f c d g Ϝ
  ·by_cases h:s[0]=2
   ·by_cases i:r.size<8
    ·exact MN s r w f c d h i
    ·exact Oc s r w f c d h Ϝ
   ·by_cases k:s[0]=3
    ·exact MO s r w f c d k
    ·exact Lt s r w f c d j g h k
theorem Tryz.infoV:(Tryz.prog.info? 119).map (λi=>(i.zero,i.size,i.bytes))=some (some (.agg #[ω,ω,ϊ]),3,32):=ϟ
def celCells(r:List Cel):List Value:=r.flatMap λc=>[vI c.k,vI c.n,.string c.s]
theorem D5(r:List Cel):(celCells r).length=r.length * 3:=by
 induction r with
 |nil=>rfl
 |cons c r ih=>show([_,_,_]++celCells r).length=_;rw[lAp,ih,length_cons];simp;omega
theorem MP(r:List Cel)(c:Cel):celCells (r++[c])=celCells r++[vI c.k,vI c.n,.string c.s]:=by
 unfold celCells;rw[flatMap_append];simp
theorem Gz(r:List Cel)(i:Nat)(h:i<r.length):(celCells r)[i * 3]? =some (vI (r.getD i default).k)/\(celCells r)[i * 3+1]? =some (vI (r.getD i default).n)/\(celCells r)[i * 3+2]? =some (.string (r.getD i default).s):=by
 induction r generalizing i with
 |nil=>exact absurd h (Nat.not_lt_zero i)
 |cons c r ih=>
  have e:celCells (c::r)=vI c.k::vI c.n:: .string c.s::celCells r:=rfl;rw[e]
  cases i with
  |zero=>exact⟨rfl,rfl,rfl⟩
  |succ i=>
   have:=ih i (by simpa using h);rw[show(i+1) * 3=i * 3+1+1+1 by omega];simpa using this
def AA(w:World)(base:Nat)(v:Value)(r:List Cel):Prop:=w.ownsRow base 119 3 v r.length (celCells r)
theorem Ra(h:AA w base v r)(o:Obj):AA (w.alloc o) base v r:=World.ownsRow.alloc h o
theorem Lv(h:AA w base v r)(m:ϛ w w'):AA w' base v r:=by
 refine⟨h.1,?_⟩;rcases h.2 with i|⟨g,e,f,o,j,c,k⟩
 ·exact .inl i
 ·have d:g<w.heap.size:=by
   rcases Nat.lt_or_ge g w.heap.size with d|n
   ·exact d
   ·rw[Array.getElem?_eq_none n]at c;cases c
  exact .inr ⟨g,e,f,o,j,by rw[m.block g d];exact c,k⟩
theorem Nk(h:AA w base v r):∃d c,v=vS d r.length c:=by
 rcases h.2 with⟨rfl,e⟩|⟨g,c,f,rfl,_⟩
 ·exact⟨none,0,by rw[e]⟩
 ·exact⟨_,_,rfl⟩
theorem GA{ad:ϙ}{cap:Nat}(h:AA w base (vS ad r.length cap) r):rowAt w ad r:=by
 intro i f;rcases h.2 with⟨e,q⟩|⟨g,o,p,e,s,u,t⟩
 ·omega
 ·cases e
  have d:=World.ownsRow.cells h (g:=g) rfl;obtain⟨k,m,n⟩:=Gz r i f;have c:∀j,((⟨g,0,none⟩:Addr).add j)=⟨g,0+j,none⟩:=λj=>by unfold Addr.add;split<;>simp_all
  refine⟨g,0,rfl,?_,?_,?_⟩
  ·have:=d _ _ k;rw[c]at this;exact this
  ·have:=d _ _ m;rw[c]at this;exact this
  ·have:=d _ _ n;rw[c]at this;exact this
theorem Lw(w:Ϙ)(a b c:Value)(t:TypeId):∀j u,[a,b,c][j]? =some u->(w.alloc (.cells #[a,b,c] t)).cell? ((⟨w,0,none⟩:Addr).add j)=some u:=by
 intro j u d
 match j,d with
 |0,d=>simp at d;subst d;simp[Addr.add]
 |1,d=>simp at d;subst d;simp[Addr.add]
 |2,d=>simp at d;subst d;simp[Addr.add]
theorem Kj{g:Array Oper}{rest:List Oper}{o:Oper}{a:Act}{Q:Exit->Act->World->Prop}(m:o.guard=none)(s x:Operand)
 (p:o.op= .call {callee:=.builtin .append,args:=#[s,x],argTypes:=#[80,80]}) (base:Nat) (v:Value) (r:List Cel) (t:a.eval s=v) (d:Ϙ)
 (q:AA d base v r) (c:Cel) (B:Nat) (k:d.heap.size=B) (y:a.eval x=vS (τ B) 1 1) (F:r.length<=1000000) (E:base<=d.heap.size)
 (h:∀e w',AA w' base e (r++[c])->(d.alloc (.cells #[vI c.k,vI c.n,.string c.s] 119)).grownBy w' v.ownBlock->wpList Tryz.prog g Q rest (a.put o.dst e) w'):
 wpList Tryz.prog g Q (o::rest) a (ξ d #[vI c.k,vI c.n,.string c.s] 119):=by
 subst k;obtain⟨D,n,z,A,C⟩:=info_parts Tryz.infoV;refine wpList_append_own _ m s x 80 p base 119 D (.agg #[ω,ω,ϊ]) 3 32 underlying80 n z A C rfl ϝ v r.length (celCells r) t
  (World.ownsRow.alloc q _) ⟨d,0,none⟩ 1 1 [vI c.k,vI c.n,.string c.s] y rfl (Lw _ _ _ _ _) (by intro u f;simp at f;rcases f with rfl|rfl|rfl<;>rfl) Ϧ Ϝ ϡ ?_
 intro e w' i j _;refine h e w' ?_ j;unfold AA;rw[lAp,MP];exact i
theorem H3{c:Ϙ}{o:Obj}(e:Below base w c)(d:base<=c.heap.size)(h:AA c base v r)(f:(c.alloc o).grownBy w' v.ownBlock):Below base w w':=
 (e.alloc d o).grown f ϡ (λk g=>(World.ownsRow.lt h k g).1)
theorem FQ(x r:List Cel)(tail:List UInt8)(m:∀c∈x,c.ok/\c.wf)(k:∀c∈r,c.ok/\c.wf)(h:encR x++tail=encR r):∃f,r=x++f/\tail=encR f:=by
 induction x generalizing r with
 |nil=>exact⟨r,rfl,h⟩
 |cons c x ih=>
  have e:encR (c::x)=C3 c++encR x:=rfl;rw[e,append_assoc]at h;have g:=m c (mem_cons_self ..)
  cases r with
  |nil=>
   have:=Hj g.1;simp[encR]at h;exact absurd h.1 this
  |cons d r=>
   have n:encR (d::r)=C3 d++encR r:=rfl;rw[n]at h;have j:=k d (mem_cons_self ..);obtain⟨rfl,q⟩:=WH g.1 j.1 g.2 j.2 h;obtain⟨f,o,p⟩:=ih r (λy i=>m y (mem_cons_of_mem _ i)) (λy i=>k y (mem_cons_of_mem _ i)) q;exact⟨f,by rw[o];rfl,p⟩
def rowOk(r:List Cel):Prop:=r.length<=8/\∀c∈r,c.ok/\c.wf
def Pk(l:List UInt8):Prop:=∀r,rowOk r->encR r≠l
theorem Lx(o:∀c∈x,c.ok/\c.wf)(k:l=encR x++tail)(n:tail≠[])(m:noCell tail):Pk l:=by
 intro r i h;rw[k]at h;obtain⟨e,j,f⟩:=FQ x r tail o i.2 h.symm
 cases e with
 |nil=>exact n f
 |cons d e=>
  have g:=i.2 d (by rw[j];simp);exact m d (encR e) g.1 g.2 f
theorem Rb(m:∀c∈x,c.ok/\c.wf)(j:l=encR x++tail)(k:tail≠[])(n:x.length=8):Pk l:=by
 intro r e h;rw[j]at h;obtain⟨f,g,i⟩:=FQ x r tail m e.2 h.symm
 cases f with
 |nil=>exact k i
 |cons d f=>
  have:=e.1;rw[g,lAp,length_cons]at this;omega
def ZX:Value->Nat
 | .string q=>q.size
 |_=>0
def Yu(s:ByteArray)(base:Nat)(e:Ending)(w':World):Prop:=
 (∃r ad cap,e= .returned (.tuple #[vS ad r.length cap,ω])/\rowOk r/\encR r=s.data.toList/\AA w' base (vS ad r.length cap) r)\/
 (e= .returned (.tuple #[ψ,vI 1])/\Pk s.data.toList)
theorem Yv{q:ByteArray}(h:0<q.size):q.data.toList≠[]:=λe=>by
 have:=AE q;rw[e]at this;simp at this;omega
theorem Pl(s:ByteArray)(w:Ϙ)(J:s.size<=maxLen):
 η 145 #[.string s] w λe w'=>Yu s w.heap.size e w'/\ϛ w w':=by
 have Q:=hqz J;unfold maxLen at J;go_enter func145,ntmps145;go_wp2
 go_loopw [0,4] (λt v wr=> ∃(q:ByteArray) (r:List Cel),t= .string q/\q.size<=s.size/\AA wr w v r/\ϛ w wr/\r.length<=8/\(∀c∈r,c.ok/\c.wf)/\s.data.toList=encR r++q.data.toList) (λt _ _=>ZX t)
 case atStart=>exact⟨s,[],rfl,Nat.le_refl _,World.ownsRow_nil _ _ _ _,bR,Ϟ,Ϟ,rfl⟩
 case round=>
  obtain⟨q,r,rfl,hq,z,y,W,G,N⟩:=hrel;obtain⟨T,U,hv⟩:=Nk z;subst hv;have F:=hqz z;have i:=hqz G;have m:=hqz N;have ae:=y.size;have L:q.size<=maxLen:=Nat.le_trans hq Q.o;have R:=hqz L;unfold maxLen at L;clear z G N;by_cases O:0<q.size
  ·have p:Ϛ (q.data.toList≠[]):=Yv O;go_wp2_with fail;refine(Od q _ O R.o).mono ?_;rintro e D ⟨⟨c,C,ok,rfl,B,M⟩,I⟩;obtain⟨k,n,t⟩:=c;have S:=hqz B;have u:=hqz M;have A:t.size<=maxLen:=B.2;have d:=y.trans (I.mono ae);have aa:=Lv F.o I;clear M B
   cases ok with
   |false=>
    go_wp2
    go_ret2
    exact⟨.inr ⟨rfl,Lx i.o m.o p.o (by
     rcases u.o with⟨h,_⟩|⟨_,h⟩
     ·cases h
     ·exact h)⟩,by repeat (first|exact d|(refine Below.setCell ?_ (by have:=d.size;simp;omega) _)|(refine Below.alloc ?_ (by have:=d.size;simp;omega) _))⟩
   |true=>
    by_cases o:(chk k n t==0)=true
    ·have j:Ϛ (chk k n t=0):=by
      show chk k n t=0;simpa using o
     have E:Ϛ (q.data.toList=C3 ⟨k,n,t⟩++C.data.toList):=by
      show q.data.toList=_;rcases u.o with⟨_,_,h⟩|⟨h|h,_⟩
      ·exact h
      ·cases h
      ·exact absurd j.o h
     have ac:C.size<q.size:=by
      have V:=congrArg List.length E.o;rw[lAp,AE,AE]at V;have h2:0<(C3 ⟨k,n,t⟩).length:=length_pos_iff.2 (Hj j.o);omega
     by_cases X:r.length=8
     ·have Y:((r.length:Int)==8)=true:=by rw[beq_iff_eq];omega
      go_wp2_with (go_at_call 183;refine(Bb _ _ _ _ A).mono ?_;rintro e wc ⟨rfl,f⟩;have g:=(d.alloc d.size _).trans (f.mono (by have:=d.size;simp;omega)))
      go_ret2
      exact⟨.inr ⟨rfl,Rb i.o m.o p.o X⟩,g⟩
     ·have Y:((r.length:Int)==8)=false:=by rw[beq_eq_false_iff_ne];omega
      go_wp2_with (first
       |(go_at_call 183;refine(Bb _ _ _ _ A).mono ?_;rintro e wc ⟨rfl,f⟩;have g:=(d.alloc d.size _).trans (f.mono (by have:=d.size;simp;omega));have K:=Lv (Ra aa _) f;have ag:=cLz f (a:=⟨D.heap.size,0,none⟩) (v:=vI k) Ϡ;have ah:=cLz f (a:=⟨D.heap.size,1,none⟩) (v:=vI n) Ϡ;have ai:=cLz f (a:=⟨D.heap.size,2,none⟩) (v:=.string t) Ϡ)
       |(at_builtin;refine Kj rfl (.tmp 29) (.tmp 31) rfl w.heap.size _ r rfl _ K ⟨k,n,t⟩ _ rfl rfl Ϝ g.size ?_;intro v' w2 ab Z))
      go_roundw
      case rel=>exact⟨C,r++[⟨k,n,t⟩],rfl,Ϝ,ab,H3 g g.size K Z,by rw[lAp];simp;omega,λc o=>by
       rcases mem_append.1 o with h|h
       ·exact i.o c h
       ·rw[mem_singleton.1 h];exact⟨j.o,S.o⟩,by rw[m.o,N4,append_assoc,E.o]⟩
      case measure=>exact ac
    ·have af:(chk k n t==0)=false:=by simpa using o
     have j:Ϛ (¬(⟨k,n,t⟩:Cel).ok):=λh=>o (beq_iff_eq.2 h);go_wp2_with (go_at_call 183;refine(Bb _ _ _ _ A).mono ?_;rintro e wc ⟨rfl,f⟩;have g:=(d.alloc d.size _).trans (f.mono (by have:=d.size;simp;omega)))
     go_ret2
     exact⟨.inr ⟨rfl,Lx i.o m.o p.o (by
      rcases u.o with⟨_,h,_⟩|⟨_,h⟩
      ·exact absurd h j.o
      ·exact h)⟩,g⟩
  ·have P:Ϛ (q.data.toList=[]):=eq_nil_of_length_eq_zero (by rw[AE];omega);go_wp2
   go_ret2
   exact⟨.inl ⟨r,T,U,rfl,⟨W,i.o⟩,by have h:=m.o;rw[P.o,append_nil]at h;exact h.symm,F.o⟩,y⟩
theorem Ly(s:ByteArray)(r:List Cel)(w:Ϙ)(z:s.size<=maxLen)(j:rowOk r)(m:encR r=s.data.toList):
 η 145 #[.string s] w λe w'=>(∃f g,e= .returned (.tuple #[vS f r.length g,ω])/\AA w' w (vS f r.length g) r)/\ϛ w w':=by
 refine(Pl s w z).mono λe w' ⟨h,t⟩=>⟨?_,t⟩;rcases h with⟨A,f,g,y,o,p,q⟩|⟨_,h⟩
 ·obtain⟨c,i,k⟩:=FQ A r [] o.2 j.2 (by rw[append_nil,p,m]);have:c=[]:=by
   cases c with
   |nil=>rfl
   |cons d c=>
    have u:=j.2 d (by rw[i];simp);have n:encR (d::c)=C3 d++encR c:=rfl;rw[n]at k;have:=(append_eq_nil_iff.1 k.symm).1;exact absurd this (Hj u.1)
  subst this;rw[append_nil]at i;subst i;exact⟨f,g,y,q⟩
 ·exact absurd m (h r j)
theorem Yw(s:ByteArray)(w:Ϙ)(g:s.size<=maxLen)(i:Pk s.data.toList):
 η 145 #[.string s] w (θ w (.tuple #[ψ,vI 1])):=by
 refine(Pl s w g).mono λe w' ⟨h,f⟩=>⟨?_,f⟩;rcases h with⟨j,k,m,o,c,d,n⟩|⟨h,_⟩
 ·exact absurd d (i j c)
 ·exact h
theorem Yx(h:∀c∈r,c.ok/\c.wf):ET r=0:=by
 induction r with
 |nil=>rfl
 |cons c r ih=>
  have d:chk c.k c.n c.s=0:=(h c (mem_cons_self ..)).1;rw[ET,if_pos d];exact ih (λx e=>h x (mem_cons_of_mem _ e))
theorem JB(h:rowOk r):AD r=0:=by
 unfold AD;have:=h.1;rw[if_neg Ϝ];exact Yx h.2
theorem I7(h:rowOk r):(EI r).data.toList=encR r:=by
 unfold EI;rw[if_pos (JB h)]
theorem VP(h:rowOk r):Cb r:=λc d=>(h.2 c d).2
theorem Pm(h:rowOk r):(EI r).size<=1048:=by
 rw[<-AE,I7 h];have e:=DC r (λc d=>(h.2 c d).1);have:=h.1;omega
theorem ZY(a:ϙ)(cap:Nat)(r:List Cel)(w:Ϙ)(f:rowAt w a r)(h:rowOk r):
 η 112 #[vS a r.length cap] w (θ w (.tuple #[.string (EI r),ω])):=by
 refine(Ja a cap r w f (VP h) (by have:=h.1;omega)).mono λe w' ⟨d,c⟩=>⟨?_,c⟩;rw[d,JB h]
theorem Ac{a:ϙ}(h:rowAt w a r)(c:ϛ w w'):rowAt w' a r:=by
 intro i d;obtain⟨b,o,e,f,g,j⟩:=h i d;exact⟨b,o,e,cLz c f,cLz c g,cLz c j⟩
end vl
namespace vl
theorem laidOut:laidOutB Tryz.prog=true:=ϟ
theorem own:ownKnob Tryz.prog.godebug=none:=ϟ
section
variable {H : Type} {enc : TypeId × Value -> H} {w : Ϙ} {base : Nat} {spare : Nat -> Bool} {held : Bool}
end
end vl
namespace vl
variable {a b : UInt8}
theorem Ds(l x y:List UInt8):Lib.compareBytes (l++x) (l++y)=Lib.compareBytes x y:=by
 induction l with
 |nil=>rfl
 |cons a l ih=>
  rw[cons_append,cons_append,Lib.compareBytes,if_neg (UInt8.lt_irrefl a),if_neg (UInt8.lt_irrefl a)];exact ih
theorem Hb(x y:List UInt8)(h:a<b):Lib.compareBytes (a::x) (b::y)= -1:=by rw[Lib.compareBytes,if_pos h]
theorem Hc(x y:List UInt8)(h:b<a):Lib.compareBytes (a::x) (b::y)=1:=by
 rw[Lib.compareBytes,if_neg (λc=>absurd (UInt8.lt_trans h c) (UInt8.lt_irrefl b)),if_pos h]
theorem fold_acc(l:List UInt8)(a:Nat):l.foldl (λu b=>u * 256+b.toNat) a=a * 256 ^ l.length+Ba l:=by
 induction l generalizing a with
 |nil=>simp[Ba]
 |cons b l ih=>
  have e:Ba (b::l)=(b::l).foldl (λu b=>u * 256+b.toNat) 0:=rfl;rw[e,foldl_cons,foldl_cons,ih,ih (0 * 256+b.toNat),length_cons,Nat.pow_succ];rw[Nat.add_mul,Nat.mul_assoc,Nat.mul_comm 256,Nat.zero_mul,Nat.zero_add];omega
theorem Lz(b:UInt8)(l:List UInt8):Ba (b::l)=b.toNat * 256 ^ l.length+Ba l:=by
 have e:Ba (b::l)=l.foldl (λu b=>u * 256+b.toNat) (0 * 256+b.toNat):=rfl;rw[e,fold_acc];simp
theorem Yy(l m x y:List UInt8)(h:l.length=m.length):
 Lib.compareBytes (l++x) (m++y)=if Ba l<Ba m then -1 else if Ba m<Ba l then 1 else Lib.compareBytes x y:=by
 induction l generalizing m with
 |nil=>
  cases m with
  |nil=>simp[Ba]
  |cons b m=>simp at h
 |cons a l ih=>
  cases m with
  |nil=>simp at h
  |cons b m=>
   have e:l.length=m.length:=by simpa using h
   have f:=Fg l;have k:=Fg m;rw[cons_append,cons_append,Lz,Lz];rw[e]at f⊢;by_cases c:a<b
   ·have g:a.toNat+1<=b.toNat:=UInt8.lt_iff_toNat_lt.1 c;have:=Nat.mul_le_mul_right (256 ^ m.length) g;rw[Nat.add_mul]at this;rw[Hb _ _ c,if_pos Ϝ]
   ·by_cases d:b<a
    ·have i:b.toNat+1<=a.toNat:=UInt8.lt_iff_toNat_lt.1 d;have:=Nat.mul_le_mul_right (256 ^ m.length) i;rw[Nat.add_mul]at this;rw[Hc _ _ d,if_neg Ϝ,if_pos Ϝ]
    ·have j:a=b:=UInt8.le_antisymm (UInt8.not_lt.1 d) (UInt8.not_lt.1 c);subst j;rw[Lib.compareBytes,if_neg c,if_neg c,ih m e];simp only[Nat.add_lt_add_iff_left]
theorem Hd(h:b≠0):(0:UInt8)<b:=by
 rcases Nat.eq_zero_or_pos b.toNat with c|c
 ·exact absurd (Jb c) h
 ·exact UInt8.lt_iff_toNat_lt.2 c
theorem TJ(s t x y:List UInt8):
 Lib.compareBytes (Bq s++0::1::x) (Bq t++0::1::y)=if Lib.compareBytes s t=0 then Lib.compareBytes x y else Lib.compareBytes s t:=by
 induction s generalizing t with
 |nil=>
  cases t with
  |nil=>simp[Bq,Lib.compareBytes]
  |cons b t=>
   rw[Db];by_cases c:b=0
   ·rw[if_pos c];simp[Bq,Lib.compareBytes]
   ·have:=Hd c;rw[if_neg c];simp[Bq,Lib.compareBytes,this]
 |cons a s ih=>
  cases t with
  |nil=>
   rw[Db];by_cases ha:a=0
   ·rw[if_pos ha];simp[Bq,Lib.compareBytes]
   ·have:=Hd ha;have d:¬a<0:=λh=>absurd (UInt8.lt_trans this h) (UInt8.lt_irrefl 0);rw[if_neg ha];simp[Bq,Lib.compareBytes,this,d]
  |cons b t=>
   rw[Db,Db];by_cases g:a=b
   ·subst g;rw[append_assoc,append_assoc,Ds,ih t,Lib.compareBytes,if_neg (UInt8.lt_irrefl a),if_neg (UInt8.lt_irrefl a)]
   ·by_cases f:a<b
    ·have e:Lib.compareBytes (a::s) (b::t)= -1:=Hb _ _ f;have c:b≠0:=λh=>by subst h;exact absurd (UInt8.lt_iff_toNat_lt.1 f) (Nat.not_lt_zero _)
     rw[e,if_neg (show¬((-1:Int)=0) by decide),if_neg c];by_cases ha:a=0
     ·rw[if_pos ha];exact Hb _ _ (Hd c)
     ·rw[if_neg ha];exact Hb _ _ f
    ·have d:b<a:=by
      rcases Nat.lt_trichotomy a.toNat b.toNat with h|h|h
      ·exact absurd (UInt8.lt_iff_toNat_lt.2 h) f
      ·exact absurd (Jb h) g
      ·exact UInt8.lt_iff_toNat_lt.2 h
     have e:Lib.compareBytes (a::s) (b::t)=1:=Hc _ _ d;have ha:a≠0:=λh=>by subst h;exact absurd (UInt8.lt_iff_toNat_lt.1 d) (Nat.not_lt_zero _)
     rw[e,if_neg (show¬((1:Int)=0) by decide),if_neg ha];by_cases c:b=0
     ·rw[if_pos c];exact Hc _ _ (Hd ha)
     ·rw[if_neg c];exact Hc _ _ d
theorem Yz(c d:Cel):Hx c d=if C4 c.k d.k=0 then(if C4 c.n d.n=0 then Lib.compareBytes c.s.data.toList d.s.data.toList else C4 c.n d.n)else C4 c.k d.k:=by
 unfold Hx O1 AL AL AL AL;by_cases e:C4 c.k d.k=0
 ·rw[if_pos e,if_pos e];by_cases f:C4 c.n d.n=0
  ·rw[if_pos f,if_pos f];split
   ·rename_i h;exact h.symm
   ·rfl
  ·rw[if_neg f,if_neg f]
 ·rw[if_neg e,if_neg e]
theorem TK{c d:Cel}(i:c.ok)(j:d.ok)(wc:c.wf)(u:d.wf)(x y:List UInt8):
 Lib.compareBytes (C3 c++x) (C3 d++y)=if Hx c d=0 then Lib.compareBytes x y else Hx c d:=by
 rw[Yz];rcases encC_cases i with⟨rfl,e⟩|⟨rfl,e⟩|⟨rfl,e⟩|⟨n,rfl,e⟩|⟨s,rfl,z,e⟩<;>rcases encC_cases j with⟨rfl,f⟩|⟨rfl,f⟩|⟨rfl,f⟩|⟨m,rfl,f⟩|⟨t,rfl,A,f⟩<;>simp only[e,f,cons_append,nil_append]
 all_goals try (rw[Hb _ _ ϝ];rfl)
 all_goals try (rw[Hc _ _ ϝ];rfl)
 ·exact Ds [0] x y
 ·exact Ds [1,0] x y
 ·have:=Ds [1] (0::x) (1::y);simp only[cons_append,nil_append]at this;rw[this,Hb _ _ ϝ];rfl
 ·have:=Ds [1] (1::x) (0::y);simp only[cons_append,nil_append]at this;rw[this,Hc _ _ ϝ];rfl
 ·exact Ds [1,1] x y
 ·obtain⟨⟨p,q⟩,_⟩:=wc;obtain⟨⟨k,o⟩,_⟩:=u;dsimp only at p q k o⊢;have:=Ds [2] (be8 (n+9223372036854775808).toNat 8++x) (be8 (m+9223372036854775808).toNat 8++y);simp only[cons_append,nil_append]at this;rw[this,Yy _ _ _ _ (by rw[Ek,Ek]),FG _ Ϝ,FG _ Ϝ];have e0:C4 2 2=0:=ϝ;rw[e0,if_pos rfl];unfold C4;by_cases g:n<m
  ·rw[if_pos Ϝ,if_pos g];rfl
  ·rw[if_neg Ϝ,if_neg g];by_cases h:m<n
   ·rw[if_pos Ϝ,if_pos h];rfl
   ·rw[if_neg Ϝ,if_neg h];rfl
 ·have:=Ds [3] (Bq s.data.toList++[0,1]++x) (Bq t.data.toList++[0,1]++y);simp only[cons_append,nil_append,append_assoc]at this⊢;rw[this,TJ];rfl
theorem Nl(a b:List Cel)(ha:∀c∈a,c.ok/\c.wf)(f:∀c∈b,c.ok/\c.wf):Lib.compareBytes (encR a) (encR b)=Bc a b:=by
 induction a generalizing b with
 |nil=>
  cases b with
  |nil=>rfl
  |cons d b=>
   have e:encR (d::b)=C3 d++encR b:=rfl;rw[e];have:=Hj (f d (mem_cons_self ..)).1
   cases h:C3 d with
   |nil=>exact absurd h this
   |cons z zs=>rfl
 |cons c a ih=>
  have j:encR (c::a)=C3 c++encR a:=rfl;have g:=ha c (mem_cons_self ..)
  cases b with
  |nil=>
   rw[j]
   cases h:C3 c with
   |nil=>exact absurd h (Hj g.1)
   |cons z zs=>rfl
  |cons d b=>
   have m:encR (d::b)=C3 d++encR b:=rfl;have k:=f d (mem_cons_self ..);rw[j,m,TK g.1 k.1 g.2 k.2,ih b (λx i=>ha x (mem_cons_of_mem _ i)) (λx i=>f x (mem_cons_of_mem _ i)),Bc]
theorem VQ{a b:List Cel}(ha:∀c∈a,c.ok/\c.wf)(i:∀c∈b,c.ok/\c.wf)(h:encR a=encR b):a=b:=by
 obtain⟨e,f,g⟩:=FQ a b [] ha i (by rw[append_nil];exact h)
 cases e with
 |nil=>rw[f,append_nil]
 |cons d e=>
  have k:=i d (by rw[f];simp);have j:encR (d::e)=C3 d++encR e:=rfl;rw[j]at g;exact absurd (append_eq_nil_iff.1 g.symm).1 (Hj k.1)
end vl
namespace vl
def R4:List Cel:=[⟨2, -1,⟨#[]⟩⟩,⟨3,0,⟨#[97,0]⟩⟩,⟨1,1,⟨#[]⟩⟩,⟨0,0,⟨#[]⟩⟩]
end vl
end Go.Proofs.YtfkihidbnfkbaaaGreatDoor
