import Derived.Test.YtdohnkkbkfhphaaGreatPc2
import Derived.Lib.SmallJoins
set_option linter.all false
set_option maxHeartbeats 4000000
set_option maxRecDepth 100000
namespace Go.Proofs.YtdohnkkbkfhphaaGreat
open Go.Proofs.Tryz
namespace vl
open Go.ChangeShapes Go.WideShapes Go.ChangeAt Go.RowKit
variable {b : UInt8} {l tail : List UInt8} {w w' : World} {base : Nat} {v : Value} {r x : List Cel}
def noCell(l:List UInt8):Prop:=∀(d:Cel) t,d.ok->d.wf->l≠Cb d++t
def La(l:List UInt8)(c:Cel)(rs:ByteArray)(ok:Bool):Prop:=(ok=true/\c.ok/\l=Cb c++rs.data.toList)\/((ok=false\/¬c.ok)/\noCell l)
def EK(l:List UInt8)(e:Ending):Prop:=∃(c:Cel) (rs:ByteArray) (ok:Bool),e= .returned (.tuple #[.agg #[.int .i64 c.k,.int .i64 c.n,.string c.s],.string rs,.bool ok])/\
 c.wf/\La l c rs ok
theorem wf0(k n:Int)(h1: -9223372036854775808<=n)(h2:n<=9223372036854775807):(⟨k,n,⟨#[]⟩⟩:Cel).wf:=⟨⟨h1,h2⟩,Nat.zero_le _⟩
theorem wf3{tx:ByteArray}(h:tx.size<=65):(⟨3,0,tx⟩:Cel).wf:=⟨⟨by show(-9223372036854775808:Int)<=0;decide,by show(0:Int)<=9223372036854775807;decide⟩,by show tx.size<=maxLen;unfold maxLen;omega⟩
theorem Lb(k n:Int)(s:ByteArray)(h:chk k n s=0):(⟨k,n,s⟩:Cel).ok:=h
theorem RI(h0:b≠0)(h1:b≠1)(h2:b≠2)(h3:b≠3):noCell (b::l):=by
 intro d t hd hw h
 rcases encC_cases hd with⟨_,e⟩|⟨_,e⟩|⟨_,e⟩|⟨n,_,e⟩|⟨s,_,_,e⟩<;>rw[e]at h<;>simp at h
 ·exact h0 h.1
 ·exact h1 h.1
 ·exact h1 h.1
 ·exact h2 h.1
 ·exact h3 h.1
theorem O4:noCell [1]:=by
 intro d t hd hw h
 rcases encC_cases hd with⟨_,e⟩|⟨_,e⟩|⟨_,e⟩|⟨n,_,e⟩|⟨s,_,_,e⟩<;>rw[e]at h<;>simp at h
theorem RJ(h0:b≠0)(h1:b≠1):noCell (1::b::l):=by
 intro d t hd hw h
 rcases encC_cases hd with⟨_,e⟩|⟨_,e⟩|⟨_,e⟩|⟨n,_,e⟩|⟨s,_,_,e⟩<;>rw[e]at h<;>simp at h
 ·exact h0 h.1
 ·exact h1 h.1
theorem UZ(hl:l.length<8):noCell (2::l):=by
 intro d t hd hw h
 rcases encC_cases hd with⟨_,e⟩|⟨_,e⟩|⟨_,e⟩|⟨n,_,e⟩|⟨s,_,_,e⟩<;>rw[e]at h<;>simp at h
 have:=congrArg List.length h
 rw[lAp,DC]at this
 omega
theorem Nl(hl:Eu l):noCell (3::l):=by
 intro d t hd hw h
 rcases encC_cases hd with⟨_,e⟩|⟨_,e⟩|⟨_,e⟩|⟨n,_,e⟩|⟨s,_,hs,e⟩<;>rw[e]at h<;>simp at h
 exact hl s.data.toList t (by rw[A4];exact hs) (by simpa using h)
theorem O5(l:List UInt8)(hl:8<=l.length):2::l=Cb ⟨2,(AX (l.take 8):Int) - 9223372036854775808,⟨#[]⟩⟩++l.drop 8:=by
 have e:(((AX (l.take 8):Int) - 9223372036854775808)+9223372036854775808).toNat=AX (l.take 8):=by omega
 have e2:Cb ⟨2,(AX (l.take 8):Int) - 9223372036854775808,⟨#[]⟩⟩=2::be8 (((AX (l.take 8):Int) - 9223372036854775808)+9223372036854775808).toNat 8:=rfl
 rw[e2,e,SQ _ (by rw[List.length_take];omega),List.cons_append,List.take_append_drop]
theorem CP(s:ByteArray)(h:0<s.size):s.data.toList=s[0]::(s.extract 1 s.size).data.toList:=by
 rw[Lib.extract_to_end]
 have:=Bl s 0 h
 simpa using this
attribute [local go_sem ↓] Go.wp_at_zero Go.wp_at_succ
theorem LP(s r:ByteArray)(w:World)(hs:0<s.size)(hm:s.size<=maxLen)(hre:s.extract 1 s.size=r)(h0:s[0]=0):
 Calls Tryz.prog 212 #[.string s] w fun e w'=>EK s.data.toList e/\Bwz w w':=by
 have HL:Hid (s.data.toList=s[0]::(s.extract 1 s.size).data.toList):=CP s hs
 have hk:(s[0].toNat:Int)=0:=by rw[h0];rfl
 have HH:Hid (s[0]=0):=h0
 clear h0
 unfold maxLen at hm
 have hr:s.extract 1 s.size=r:=hre
 have i0:(0:Int)<(s.size:Int):=by omega
 have b0:(s[0].toNat:Int)<=255:=by have:=s[0].toNat_lt;omega
 go_enter func212,ntmps212
 go_wp2
 go_quiet (fail)
 go_wp2
 exact bodyPost_ret (v:=.tuple #[.agg #[.int .i64 0,.int .i64 0,.string ⟨#[]⟩],.string r,.bool true]) (by simp[results,results212,go_sem]) rfl
  ⟨⟨⟨0,0,⟨#[]⟩⟩,r,true,rfl,wf0 _ _ (by decide) (by decide),.inl ⟨rfl,Lb _ _ _ (by decide),by have h:=HL.out;rw[HH.out,hr]at h;exact h⟩⟩,by repeat (first|exact bR|(refine below_drewN ?_ _)|apply Below.drew|(refine Below.setCell ?_ (by simp) _)|(refine Below.alloc ?_ (by simp<;>omega) _))⟩
theorem Lc(s r:ByteArray)(w:World)(hs:0<s.size)(hm:s.size<=maxLen)(hre:s.extract 1 s.size=r)(h0:s[0]≠0)(h1:s[0]≠1)(h2:s[0]≠2)(h3:s[0]≠3):
 Calls Tryz.prog 212 #[.string s] w fun e w'=>EK s.data.toList e/\Bwz w w':=by
 have HL:Hid (s.data.toList=s[0]::(s.extract 1 s.size).data.toList):=CP s hs
 have HN:Hid (noCell s.data.toList):=by
  show noCell s.data.toList
  rw[CP s hs];exact RI h0 h1 h2 h3
 have k0:((s[0].toNat:Int)==0)=false:=(CC s[0] 0).trans (decide_eq_false h0)
 have k1:((s[0].toNat:Int)==1)=false:=(CC s[0] 1).trans (decide_eq_false h1)
 have k2:((s[0].toNat:Int)==2)=false:=(CC s[0] 2).trans (decide_eq_false h2)
 have k3:((s[0].toNat:Int)==3)=false:=(CC s[0] 3).trans (decide_eq_false h3)
 clear h0 h1 h2 h3
 unfold maxLen at hm
 have hr:s.extract 1 s.size=r:=hre
 have i0:(0:Int)<(s.size:Int):=by omega
 have b0:(s[0].toNat:Int)<=255:=by have:=s[0].toNat_lt;omega
 go_enter func212,ntmps212
 go_wp2
 go_quiet (fail)
 go_wp2
 exact bodyPost_ret (v:=.tuple #[.agg #[.int .i64 0,.int .i64 0,.string ⟨#[]⟩],.string ⟨#[]⟩,.bool false]) (by simp[results,results212,go_sem]) rfl
  ⟨⟨⟨0,0,⟨#[]⟩⟩,⟨#[]⟩,false,rfl,wf0 _ _ (by decide) (by decide),.inr ⟨.inl rfl,HN.out⟩⟩,by repeat (first|exact bR|(refine below_drewN ?_ _)|apply Below.drew|(refine Below.setCell ?_ (by simp) _)|(refine Below.alloc ?_ (by simp<;>omega) _))⟩
theorem Ld(s r:ByteArray)(w:World)(hs:0<s.size)(hm:s.size<=maxLen)(hre:s.extract 1 s.size=r)(h0:s[0]=1)(hr0:r.size=0):
 Calls Tryz.prog 212 #[.string s] w fun e w'=>EK s.data.toList e/\Bwz w w':=by
 have HN:Hid (noCell s.data.toList):=by
  show noCell s.data.toList
  rw[CP s hs,h0,hre,Ot hr0];exact O4
 have hk:(s[0].toNat:Int)=1:=by rw[h0];rfl
 clear h0
 unfold maxLen at hm
 have hr:s.extract 1 s.size=r:=hre
 have i0:(0:Int)<(s.size:Int):=by omega
 have b0:(s[0].toNat:Int)<=255:=by have:=s[0].toNat_lt;omega
 go_enter func212,ntmps212
 go_wp2
 go_quiet (fail)
 go_wp2
 exact bodyPost_ret (v:=.tuple #[.agg #[.int .i64 0,.int .i64 0,.string ⟨#[]⟩],.string ⟨#[]⟩,.bool false]) (by simp[results,results212,go_sem]) rfl
  ⟨⟨⟨0,0,⟨#[]⟩⟩,⟨#[]⟩,false,rfl,wf0 _ _ (by decide) (by decide),.inr ⟨.inl rfl,HN.out⟩⟩,by repeat (first|exact bR|(refine below_drewN ?_ _)|apply Below.drew|(refine Below.setCell ?_ (by simp) _)|(refine Below.alloc ?_ (by simp<;>omega) _))⟩
theorem O6(b:UInt8)(h:b=0\/b=1):(⟨1,(b.toNat:Int),⟨#[]⟩⟩:Cel).ok/\Cb ⟨1,(b.toNat:Int),⟨#[]⟩⟩=[1,b]:=by
 rcases h with rfl|rfl<;>exact⟨Lb _ _ _ (by decide),rfl⟩
theorem Qq(b:UInt8)(h0:b≠0)(h1:b≠1):¬(⟨1,(b.toNat:Int),⟨#[]⟩⟩:Cel).ok:=by
 intro h
 obtain⟨_,hk⟩:=Ej h
 dsimp only at hk
 have e0:b.toNat≠0:=fun e=>h0 (Hy e)
 have e1:b.toNat≠1:=fun e=>h1 (Hy e)
 omega
theorem Va(s r:ByteArray)(hs:0<s.size)(hre:s.extract 1 s.size=r)(h0:s[0]=1)(hr0:0<r.size):
 La s.data.toList ⟨1,(r[0].toNat:Int),⟨#[]⟩⟩ (r.extract 1 r.size) true:=by
 have e:s.data.toList=(1:UInt8)::r[0]::(r.extract 1 r.size).data.toList:=by rw[CP s hs,h0,hre,<-CP r hr0]
 by_cases hb:r[0]=0\/r[0]=1
 ·obtain⟨h1,h2⟩:=O6 r[0] hb
  exact .inl ⟨rfl,h1,by rw[h2,e];rfl⟩
 ·have hb0:r[0]≠0:=fun h=>hb (.inl h)
  have hb1:r[0]≠1:=fun h=>hb (.inr h)
  exact .inr ⟨.inr (Qq _ hb0 hb1),by rw[e];exact RJ hb0 hb1⟩
theorem LQ(s r:ByteArray)(w:World)(hs:0<s.size)(hm:s.size<=maxLen)(hre:s.extract 1 s.size=r)(h0:s[0]=1)(hr0:0<r.size):
 Calls Tryz.prog 212 #[.string s] w fun e w'=>EK s.data.toList e/\Bwz w w':=by
 have HN:=Va s r hs hre h0 hr0
 have HNN:Hid (La s.data.toList ⟨1,(r[0].toNat:Int),⟨#[]⟩⟩ (r.extract 1 r.size) true):=HN
 have HW:Hid ((⟨1,(r[0].toNat:Int),⟨#[]⟩⟩:Cel).wf):=by
  have:=r[0].toNat_lt
  exact wf0 _ _ (by omega) (by omega)
 clear HN
 have hrm:r.size<=maxLen:=by
  rw[<-hre,ByteArray.size_extract];omega
 have hk:(s[0].toNat:Int)=1:=by rw[h0];rfl
 have hrz:((r.size:Int)==0)=false:=by rw[beq_eq_false_iff_ne];omega
 have i1:(0:Int)<(r.size:Int):=by omega
 have b1:(r[0].toNat:Int)<=255:=by have:=r[0].toNat_lt;omega
 clear h0
 unfold maxLen at hm hrm
 have hr:s.extract 1 s.size=r:=hre
 have i0:(0:Int)<(s.size:Int):=by omega
 have b0:(s[0].toNat:Int)<=255:=by have:=s[0].toNat_lt;omega
 go_enter func212,ntmps212
 go_wp2
 go_quiet (fail)
 go_wp2
 go_region
 all_goals go_wp2
 all_goals
  exact bodyPost_ret (v:=.tuple #[.agg #[.int .i64 1,.int .i64 (r[0].toNat:Int),.string ⟨#[]⟩],.string (r.extract 1 r.size),.bool true]) (by simp[results,results212,go_sem]) rfl
   ⟨⟨⟨1,_,⟨#[]⟩⟩,_,true,rfl,HW.out,HNN.out⟩,by repeat (first|exact bR|(refine below_drewN ?_ _)|apply Below.drew|(refine Below.setCell ?_ (by simp) _)|(refine Below.alloc ?_ (by simp<;>omega) _))⟩
theorem LR(s r:ByteArray)(w:World)(hs:0<s.size)(hm:s.size<=maxLen)(hre:s.extract 1 s.size=r)(h0:s[0]=2)(hr0:r.size<8):
 Calls Tryz.prog 212 #[.string s] w fun e w'=>EK s.data.toList e/\Bwz w w':=by
 have HN:Hid (noCell s.data.toList):=by
  show noCell s.data.toList
  rw[CP s hs,h0,hre];exact UZ (by rw[A4];exact hr0)
 have hk:(s[0].toNat:Int)=2:=by rw[h0];rfl
 clear h0
 unfold maxLen at hm
 have hr:s.extract 1 s.size=r:=hre
 have i0:(0:Int)<(s.size:Int):=by omega
 have b0:(s[0].toNat:Int)<=255:=by have:=s[0].toNat_lt;omega
 go_enter func212,ntmps212
 go_wp2
 go_quiet (fail)
 go_wp2
 exact bodyPost_ret (v:=.tuple #[.agg #[.int .i64 0,.int .i64 0,.string ⟨#[]⟩],.string ⟨#[]⟩,.bool false]) (by simp[results,results212,go_sem]) rfl
  ⟨⟨⟨0,0,⟨#[]⟩⟩,⟨#[]⟩,false,rfl,wf0 _ _ (by decide) (by decide),.inr ⟨.inl rfl,HN.out⟩⟩,by repeat (first|exact bR|(refine below_drewN ?_ _)|apply Below.drew|(refine Below.setCell ?_ (by simp) _)|(refine Below.alloc ?_ (by simp<;>omega) _))⟩
theorem Nm(s:ByteArray)(k:Nat):(s.extract 0 k).data.toList=s.data.toList.take k:=by
 simp[ByteArray.data_extract,Array.toList_extract]
theorem Vb(n:Int):(⟨2,n,⟨#[]⟩⟩:Cel).ok:=by
 refine Lb _ _ _ ?_
 unfold chk
 have e:(⟨#[]⟩:ByteArray).size=0:=rfl
 rw[e,if_neg (by omega),if_neg (by omega),if_neg (by omega)]
theorem Nn(s r:ByteArray)(w:World)(hs:0<s.size)(hm:s.size<=maxLen)(hre:s.extract 1 s.size=r)(h0:s[0]=2)(hr0:8<=r.size):
 Calls Tryz.prog 212 #[.string s] w fun e w'=>EK s.data.toList e/\Bwz w w':=by
 have HN:Hid (s.data.toList=Cb ⟨2,(AX (r.extract 0 8).data.toList:Int) - 9223372036854775808,⟨#[]⟩⟩++(r.extract 8 r.size).data.toList):=by
  show s.data.toList=_
  rw[CP s hs,h0,hre,Nm,Lib.extract_to_end]
  exact O5 _ (by rw[A4];exact hr0)
 have hz8:(r.extract 0 8).size=8:=by rw[ByteArray.size_extract];omega
 have HB:Hid (AX (r.extract 0 8).data.toList<18446744073709551616):=Hz _ (by rw[A4];exact hz8)
 have hrm:r.size<=maxLen:=by
  rw[<-hre,ByteArray.size_extract];omega
 have hk:(s[0].toNat:Int)=2:=by rw[h0];rfl
 have i1:(8:Int)<=(r.size:Int):=by omega
 have Hz8:Hid ((r.extract 0 8).size=8):=hz8
 clear h0 hz8
 unfold maxLen at hm hrm
 have hr:s.extract 1 s.size=r:=hre
 have i0:(0:Int)<(s.size:Int):=by omega
 have b0:(s[0].toNat:Int)<=255:=by have:=s[0].toNat_lt;omega
 go_enter func212,ntmps212
 go_wp2
 go_quiet (fail)
 go_wp2
 go_region_held3 (fun _=>True) (trivial) (first|(go_at_call 221;refine(Ou _ _ Hz8.out).mono ?_;rintro e w' ⟨rfl,rfl⟩))
 all_goals go_wp2
 all_goals
  exact bodyPost_ret (v:=.tuple #[.agg #[.int .i64 2,.int .i64 ((AX (r.extract 0 8).data.toList:Int) - 9223372036854775808),.string ⟨#[]⟩],.string (r.extract 8 r.size),.bool true]) (by simp[results,results212,go_sem]) rfl
   ⟨⟨⟨2,_,⟨#[]⟩⟩,_,true,rfl,wf0 _ _ (by have:=HB.out;omega) (by have:=HB.out;omega),.inl ⟨rfl,Vb _,HN.out⟩⟩,by repeat (first|exact bR|(refine below_drewN ?_ _)|apply Below.drew|(refine Below.setCell ?_ (by simp) _)|(refine Below.alloc ?_ (by simp<;>omega) _))⟩
theorem Vc(s r tx rs:ByteArray)(ok:Bool)(hs:0<s.size)(hre:s.extract 1 s.size=r)(h0:s[0]=3)
 (h:(ok=true/\r.data.toList=AZ tx.data.toList++0::1::rs.data.toList)\/(ok=false/\Eu r.data.toList)):
 La s.data.toList ⟨3,0,tx⟩ rs ok:=by
 have e:s.data.toList=(3:UInt8)::r.data.toList:=by rw[CP s hs,h0,hre]
 rcases h with⟨rfl,h⟩|⟨rfl,h⟩
 ·by_cases hl:tx.size<=64
  ·refine .inl ⟨rfl,Lb _ _ _ ?_,?_⟩
   ·unfold chk;rw[if_neg (by omega),if_neg (by omega),if_neg (by omega)]
   ·rw[e,h];show _=(3::(AZ tx.data.toList++[0,1]))++_;simp
  ·refine .inr ⟨.inr ?_,?_⟩
   ·intro hc
    have:=(Ej hc).1
    exact hl this
   ·rw[e];exact Nl (R9 h (by rw[A4];omega))
 ·exact .inr ⟨.inl rfl,by rw[e];exact Nl h⟩
theorem LT(s r:ByteArray)(w:World)(hs:0<s.size)(hm:s.size<=maxLen)(hre:s.extract 1 s.size=r)(h0:s[0]=3):
 Calls Tryz.prog 212 #[.string s] w fun e w'=>EK s.data.toList e/\Bwz w w':=by
 have HR:∀tx rs ok,((ok=true/\r.data.toList=AZ tx.data.toList++0::1::rs.data.toList)\/(ok=false/\Eu r.data.toList))->La s.data.toList ⟨3,0,tx⟩ rs ok:=
  fun tx rs ok h=>Vc s r tx rs ok hs hre h0 h
 have HRR:Hid (∀tx rs ok,((ok=true/\r.data.toList=AZ tx.data.toList++0::1::rs.data.toList)\/(ok=false/\Eu r.data.toList))->La s.data.toList ⟨3,0,tx⟩ rs ok):=HR
 clear HR
 have hrm:r.size<=maxLen:=by
  rw[<-hre,ByteArray.size_extract];omega
 have hk:(s[0].toNat:Int)=3:=by rw[h0];rfl
 clear h0
 unfold maxLen at hm
 have hr:s.extract 1 s.size=r:=hre
 have i0:(0:Int)<(s.size:Int):=by omega
 have b0:(s[0].toNat:Int)<=255:=by have:=s[0].toNat_lt;omega
 go_enter func212,ntmps212
 go_wp2
 go_quiet (fail)
 go_wp2_with (go_at_call 222;refine(Nc r _ hrm).mono ?_;rintro e w1 ⟨⟨tx,rs,ok,rfl,htx,hres⟩,hb1⟩;have hc0:=cLz hb1 (a:=⟨w.heap.size,0,none⟩) (v:=.int .i64 0) (by go_simp);have hc1:=cLz hb1 (a:=⟨w.heap.size,1,none⟩) (v:=.int .i64 0) (by go_simp);have hc2:=cLz hb1 (a:=⟨w.heap.size,2,none⟩) (v:=.string ⟨#[]⟩) (by go_simp);have hf0:w1.frozen? ⟨w.heap.size,0,none⟩=false:=(hb1.frozen (by simp)).trans (by go_simp);have hf1:w1.frozen? ⟨w.heap.size,1,none⟩=false:=(hb1.frozen (by simp)).trans (by go_simp);have hf2:w1.frozen? ⟨w.heap.size,2,none⟩=false:=(hb1.frozen (by simp)).trans (by go_simp))
 have hbl:Bwz w w1:=(below_drewN (bR.alloc nR _) _).trans (hb1.mono (by simp))
 have hz:w.heap.size<w1.heap.size:=by have:=hb1.size;simp at this;omega
 exact bodyPost_ret (v:=.tuple #[.agg #[.int .i64 3,.int .i64 0,.string tx],.string rs,.bool ok]) (by simp[results,results212,go_sem,hc0,hc1,hc2,hz]) rfl
  ⟨⟨⟨3,0,tx⟩,rs,ok,rfl,wf3 htx,HRR.out tx rs ok hres⟩,by repeat (first|exact hbl|(refine Below.setCell ?_ (by simp) _))⟩
theorem Np(s:ByteArray)(w:World)(hs:0<s.size)(hm:s.size<=maxLen):
 Calls Tryz.prog 212 #[.string s] w fun e w'=>EK s.data.toList e/\Bwz w w':=by
 obtain⟨r,hr⟩:∃r,s.extract 1 s.size=r:=⟨_,rfl⟩
 by_cases h0:s[0]=0
 ·exact LP s r w hs hm hr h0
 ·by_cases h1:s[0]=1
  ·by_cases hz:r.size=0
   ·exact Ld s r w hs hm hr h1 hz
   ·exact LQ s r w hs hm hr h1 (by omega)
  ·by_cases h2:s[0]=2
   ·by_cases hz:r.size<8
    ·exact LR s r w hs hm hr h2 hz
    ·exact Nn s r w hs hm hr h2 (by omega)
   ·by_cases h3:s[0]=3
    ·exact LT s r w hs hm hr h3
    ·exact Lc s r w hs hm hr h0 h1 h2 h3
theorem Tryz.infoV:(Tryz.prog.info? 103).map (fun i=>(i.zero,i.size,i.bytes))=some (some (.agg #[.int .i64 0,.int .i64 0,.string ⟨#[]⟩]),3,32):=by kernel_rfl
def celCells(r:List Cel):List Value:=r.flatMap fun c=>[.int .i64 c.k,.int .i64 c.n,.string c.s]
theorem CQ(r:List Cel):(celCells r).length=r.length * 3:=by
 induction r with
 |nil=>rfl
 |cons c r ih=>show([_,_,_]++celCells r).length=_;rw[lAp,ih,List.length_cons];simp;omega
theorem LU(r:List Cel)(c:Cel):celCells (r++[c])=celCells r++[.int .i64 c.k,.int .i64 c.n,.string c.s]:=by
 unfold celCells;rw[List.flatMap_append];simp
theorem FR(r:List Cel)(i:Nat)(h:i<r.length):(celCells r)[i * 3]? =some (.int .i64 (r.getD i default).k)/\(celCells r)[i * 3+1]? =some (.int .i64 (r.getD i default).n)/\(celCells r)[i * 3+2]? =some (.string (r.getD i default).s):=by
 induction r generalizing i with
 |nil=>exact absurd h (Nat.not_lt_zero i)
 |cons c r ih=>
  have e:celCells (c::r)= .int .i64 c.k:: .int .i64 c.n:: .string c.s::celCells r:=rfl
  rw[e]
  cases i with
  |zero=>exact⟨rfl,rfl,rfl⟩
  |succ i=>
   have:=ih i (by simpa using h)
   rw[show(i+1) * 3=i * 3+1+1+1 by omega]
   simpa using this
def AA(w:World)(base:Nat)(v:Value)(r:List Cel):Prop:=w.ownsRow base 103 3 v r.length (celCells r)
theorem Ey(h:AA w base v r)(o:Obj):AA (w.alloc o) base v r:=World.ownsRow.alloc h o
theorem Fz(h:AA w base v r)(hb:Bwz w w'):AA w' base v r:=by
 refine⟨h.1,?_⟩
 rcases h.2 with h0|⟨g,cap,cur,hv,h1,hg,h2⟩
 ·exact .inl h0
 ·have hlt:g<w.heap.size:=by
   rcases Nat.lt_or_ge g w.heap.size with hlt|hge
   ·exact hlt
   ·rw[Array.getElem?_eq_none hge]at hg;cases hg
  exact .inr ⟨g,cap,cur,hv,h1,by rw[hb.block g hlt];exact hg,h2⟩
theorem Gq(h:AA w base v r):∃ad cap,v= .slice ad r.length cap:=by
 rcases h.2 with⟨rfl,h0⟩|⟨g,cap,cur,rfl,_⟩
 ·exact⟨none,0,by rw[h0]⟩
 ·exact⟨_,_,rfl⟩
theorem D7{ad:Option Addr}{cap:Nat}(h:AA w base (.slice ad r.length cap) r):rowAt w ad r:=by
 intro i hi
 rcases h.2 with⟨hv,h0⟩|⟨g,cap',cur,hv,h1,hg,h2⟩
 ·omega
 ·cases hv
  have hc:=World.ownsRow.cells h (g:=g) rfl
  obtain⟨x1,x2,x3⟩:=FR r i hi
  have hadd:∀j,((⟨g,0,none⟩:Addr).add j)=⟨g,0+j,none⟩:=fun j=>by unfold Addr.add;split<;>simp_all
  refine⟨g,0,rfl,?_,?_,?_⟩
  ·have:=hc _ _ x1;rw[hadd]at this;exact this
  ·have:=hc _ _ x2;rw[hadd]at this;exact this
  ·have:=hc _ _ x3;rw[hadd]at this;exact this
theorem Le(w:World)(a b c:Value)(t:TypeId):∀j u,[a,b,c][j]? =some u->(w.alloc (.cells #[a,b,c] t)).cell? ((⟨w.heap.size,0,none⟩:Addr).add j)=some u:=by
 intro j u hj
 match j,hj with
 |0,hj=>simp at hj;subst hj;simp[Addr.add]
 |1,hj=>simp at hj;subst hj;simp[Addr.add]
 |2,hj=>simp at hj;subst hj;simp[Addr.add]
theorem Dq{ops:Array Oper}{rest:List Oper}{o:Oper}{a:Act}{Q:Exit->Act->World->Prop}(hgd:o.guard=none)(s x:Operand)
 (ho:o.op= .call {callee:=.builtin .append,args:=#[s,x],argTypes:=#[41,41]}) (base:Nat) (v:Value) (r:List Cel) (hs:a.eval s=v) (w0:World)
 (hown:AA w0 base v r) (c:Cel) (B:Nat) (hB:w0.heap.size=B) (hx:a.eval x= .slice (some ⟨B,0,none⟩) 1 1) (hl:r.length<=1000000) (hb:base<=w0.heap.size)
 (h:∀v' w',AA w' base v' (r++[c])->(w0.alloc (.cells #[.int .i64 c.k,.int .i64 c.n,.string c.s] 103)).grownBy w' v.ownBlock->wpList Tryz.prog ops Q rest (a.put o.dst v') w'):
 wpList Tryz.prog ops Q (o::rest) a (w0.alloc (.cells #[.int .i64 c.k,.int .i64 c.n,.string c.s] 103)):=by
 subst hB
 obtain⟨i0,hi,hz0,hz1,hz2⟩:=info_parts Tryz.infoV
 refine wpList_append_own _ hgd s x 41 ho base 103 i0 (.agg #[.int .i64 0,.int .i64 0,.string ⟨#[]⟩]) 3 32 underlying41 hi hz0 hz1 hz2 rfl (by decide) v r.length (celCells r) hs
  (World.ownsRow.alloc hown _) ⟨w0.heap.size,0,none⟩ 1 1 [.int .i64 c.k,.int .i64 c.n,.string c.s] hx rfl (Le _ _ _ _ _) (by intro u hu;simp at hu;rcases hu with rfl|rfl|rfl<;>rfl) (by unfold maxLen;omega) (by omega) (by simp;omega) ?_
 intro v' w' h1 h2 _
 refine h v' w' ?_ h2
 unfold AA
 rw[lAp,LU]
 exact h1
theorem C6{w0:World}{o:Obj}(hb:Below base w w0)(h0:base<=w0.heap.size)(hown:AA w0 base v r)(hg:(w0.alloc o).grownBy w' v.ownBlock):Below base w w':=
 (hb.alloc h0 o).grown hg (by simp;omega) (fun k hk=>(World.ownsRow.lt hown k hk).1)
theorem GS(x r:List Cel)(tail:List UInt8)(hx:∀c∈x,c.ok/\c.wf)(hr:∀c∈r,c.ok/\c.wf)(h:encR x++tail=encR r):∃r2,r=x++r2/\tail=encR r2:=by
 induction x generalizing r with
 |nil=>exact⟨r,rfl,h⟩
 |cons c x ih=>
  have e:encR (c::x)=Cb c++encR x:=rfl
  rw[e,List.append_assoc]at h
  have hc:=hx c (List.mem_cons_self ..)
  cases r with
  |nil=>
   have:=Fu hc.1
   simp[encR]at h
   exact absurd h.1 this
  |cons d r=>
   have e2:encR (d::r)=Cb d++encR r:=rfl
   rw[e2]at h
   have hd:=hr d (List.mem_cons_self ..)
   obtain⟨rfl,h2⟩:=H4 hc.1 hd.1 hc.2 hd.2 h
   obtain⟨r2,e3,e4⟩:=ih r (fun y hy=>hx y (List.mem_cons_of_mem _ hy)) (fun y hy=>hr y (List.mem_cons_of_mem _ hy)) h2
   exact⟨r2,by rw[e3];rfl,e4⟩
def rowOk(r:List Cel):Prop:=r.length<=8/\∀c∈r,c.ok/\c.wf
def Lf(l:List UInt8):Prop:=∀r,rowOk r->encR r≠l
theorem Lg(hx:∀c∈x,c.ok/\c.wf)(hl:l=encR x++tail)(hne:tail≠[])(hn:noCell tail):Lf l:=by
 intro r hr h
 rw[hl]at h
 obtain⟨r2,e1,e2⟩:=GS x r tail hx hr.2 h.symm
 cases r2 with
 |nil=>exact hne e2
 |cons d r2=>
  have hd:=hr.2 d (by rw[e1];simp)
  exact hn d (encR r2) hd.1 hd.2 e2
theorem Qr(hx:∀c∈x,c.ok/\c.wf)(hl:l=encR x++tail)(hne:tail≠[])(h8:x.length=8):Lf l:=by
 intro r hr h
 rw[hl]at h
 obtain⟨r2,e1,e2⟩:=GS x r tail hx hr.2 h.symm
 cases r2 with
 |nil=>exact hne e2
 |cons d r2=>
  have:=hr.1
  rw[e1,lAp,List.length_cons]at this
  omega
def Qs:Value->Nat
 | .string q=>q.size
 |_=>0
def Xf(s:ByteArray)(base:Nat)(e:Ending)(w':World):Prop:=
 (∃r ad cap,e= .returned (.tuple #[.slice ad r.length cap,.int .i64 0])/\rowOk r/\encR r=s.data.toList/\AA w' base (.slice ad r.length cap) r)\/
 (e= .returned (.tuple #[.slice none 0 0,.int .i64 1])/\Lf s.data.toList)
theorem Xg{q:ByteArray}(h:0<q.size):q.data.toList≠[]:=fun e=>by
 have:=A4 q
 rw[e]at this
 simp at this
 omega
theorem O7(s:ByteArray)(w:World)(hm:s.size<=maxLen):
 Calls Tryz.prog 179 #[.string s] w fun e w'=>Xf s w.heap.size e w'/\Bwz w w':=by
 have HM:Hid (s.size<=maxLen):=hm
 unfold maxLen at hm
 go_enter func179,ntmps179
 go_wp2
 go_loopw [0,4] (fun t v wr=> ∃(q:ByteArray) (r:List Cel),t= .string q/\q.size<=s.size/\AA wr w.heap.size v r/\Bwz w wr/\r.length<=8/\(∀c∈r,c.ok/\c.wf)/\s.data.toList=encR r++q.data.toList) (fun t _ _=>Qs t)
 case atStart=>exact⟨s,[],rfl,Nat.le_refl _,World.ownsRow_nil _ _ _ _,bR,by simp,by simp,rfl⟩
 case round=>
  obtain⟨q,r,rfl,hq,hown,hnx,h8,hall,hsp⟩:=hrel
  obtain⟨ad,cap,hv⟩:=Gq hown
  subst hv
  have HO:Hid (AA wr w.heap.size (.slice ad r.length cap) r):=hown
  have HA:Hid (∀c∈r,c.ok/\c.wf):=hall
  have HS:Hid (s.data.toList=encR r++q.data.toList):=hsp
  have hsz:=hnx.size
  have hqm:q.size<=maxLen:=Nat.le_trans hq HM.out
  have HQ:Hid (q.size<=maxLen):=hqm
  unfold maxLen at hqm
  clear hown hall hsp
  by_cases hz:0<q.size
  ·have HN:Hid (q.data.toList≠[]):=Xg hz
   go_wp2_with fail
   refine(Np q _ hz HQ.out).mono ?_
   rintro e w1 ⟨⟨c,rs,ok,rfl,hwf,hres⟩,hb1⟩
   obtain⟨k,n,t⟩:=c
   have HW:Hid ((⟨k,n,t⟩:Cel).wf):=hwf
   have HR:Hid (La q.data.toList ⟨k,n,t⟩ rs ok):=hres
   have ht:t.size<=maxLen:=hwf.2
   have hl1:=hnx.trans (hb1.mono hsz)
   have ho1:=Fz HO.out hb1
   clear hres hwf
   cases ok with
   |false=>
    go_wp2
    go_ret2
    exact⟨.inr ⟨rfl,Lg HA.out HS.out HN.out (by
     rcases HR.out with⟨h,_⟩|⟨_,h⟩
     ·cases h
     ·exact h)⟩,by repeat (first|exact hl1|(refine Below.setCell ?_ (by have:=hl1.size;simp;omega) _)|(refine Below.alloc ?_ (by have:=hl1.size;simp;omega) _))⟩
   |true=>
    by_cases hc:(chk k n t==0)=true
    ·have HC:Hid (chk k n t=0):=by
      show chk k n t=0
      simpa using hc
     have HL:Hid (q.data.toList=Cb ⟨k,n,t⟩++rs.data.toList):=by
      show q.data.toList=_
      rcases HR.out with⟨_,_,h⟩|⟨h|h,_⟩
      ·exact h
      ·cases h
      ·exact absurd HC.out h
     have hrs:rs.size<q.size:=by
      have h1:=congrArg List.length HL.out
      rw[lAp,A4,A4]at h1
      have h2:0<(Cb ⟨k,n,t⟩).length:=List.length_pos_iff.2 (Fu HC.out)
      omega
     by_cases h88:r.length=8
     ·have h88':((r.length:Int)==8)=true:=by rw[beq_iff_eq];omega
      go_wp2_with (go_at_call 156;refine(Bn _ _ _ _ ht).mono ?_;rintro e wc ⟨rfl,hbc⟩;have hlow:=(hl1.alloc hl1.size _).trans (hbc.mono (by have:=hl1.size;simp;omega)))
      go_ret2
      exact⟨.inr ⟨rfl,Qr HA.out HS.out HN.out h88⟩,hlow⟩
     ·have h88':((r.length:Int)==8)=false:=by rw[beq_eq_false_iff_ne];omega
      go_wp2_with (first
       |(go_at_call 156;refine(Bn _ _ _ _ ht).mono ?_;rintro e wc ⟨rfl,hbc⟩;have hlow:=(hl1.alloc hl1.size _).trans (hbc.mono (by have:=hl1.size;simp;omega));have hoc:=Fz (Ey ho1 _) hbc;have hcc:=cLz hbc (a:=⟨w1.heap.size,0,none⟩) (v:=.int .i64 k) (by go_simp);have hcn:=cLz hbc (a:=⟨w1.heap.size,1,none⟩) (v:=.int .i64 n) (by go_simp);have hcs:=cLz hbc (a:=⟨w1.heap.size,2,none⟩) (v:=.string t) (by go_simp))
       |(at_builtin;refine Dq rfl (.tmp 29) (.tmp 31) rfl w.heap.size _ r rfl _ hoc ⟨k,n,t⟩ _ rfl rfl (by omega) hlow.size ?_;intro v' w2 hown2 hgrow2))
      go_roundw
      case rel=>exact⟨rs,r++[⟨k,n,t⟩],rfl,by omega,hown2,C6 hlow hlow.size hoc hgrow2,by rw[lAp];simp;omega,fun c hc=>by
       rcases List.mem_append.1 hc with h|h
       ·exact HA.out c h
       ·rw[List.mem_singleton.1 h];exact⟨HC.out,HW.out⟩,by rw[HS.out,IK,List.append_assoc,HL.out]⟩
      case measure=>exact hrs
    ·have hc':(chk k n t==0)=false:=by simpa using hc
     have HC:Hid (¬(⟨k,n,t⟩:Cel).ok):=fun h=>hc (beq_iff_eq.2 h)
     go_wp2_with (go_at_call 156;refine(Bn _ _ _ _ ht).mono ?_;rintro e wc ⟨rfl,hbc⟩;have hlow:=(hl1.alloc hl1.size _).trans (hbc.mono (by have:=hl1.size;simp;omega)))
     go_ret2
     exact⟨.inr ⟨rfl,Lg HA.out HS.out HN.out (by
      rcases HR.out with⟨_,h,_⟩|⟨_,h⟩
      ·exact absurd h HC.out
      ·exact h)⟩,hlow⟩
  ·have HE:Hid (q.data.toList=[]):=List.eq_nil_of_length_eq_zero (by rw[A4];omega)
   go_wp2
   go_ret2
   exact⟨.inl ⟨r,ad,cap,rfl,⟨h8,HA.out⟩,by have h:=HS.out;rw[HE.out,List.append_nil]at h;exact h.symm,HO.out⟩,hnx⟩
theorem O8(s:ByteArray)(r:List Cel)(w:World)(hm:s.size<=maxLen)(hr:rowOk r)(hk:encR r=s.data.toList):
 Calls Tryz.prog 179 #[.string s] w fun e w'=>(∃ad cap,e= .returned (.tuple #[.slice ad r.length cap,.int .i64 0])/\AA w' w.heap.size (.slice ad r.length cap) r)/\Bwz w w':=by
 refine(O7 s w hm).mono fun e w' ⟨h,hb⟩=>⟨?_,hb⟩
 rcases h with⟨r',ad,cap,he,h1,h2,h3⟩|⟨_,h⟩
 ·obtain⟨r2,e1,e2⟩:=GS r' r [] h1.2 hr.2 (by rw[List.append_nil,h2,hk])
  have:r2=[]:=by
   cases r2 with
   |nil=>rfl
   |cons d r2=>
    have hd:=hr.2 d (by rw[e1];simp)
    have e3:encR (d::r2)=Cb d++encR r2:=rfl
    rw[e3]at e2
    have:=(List.append_eq_nil_iff.1 e2.symm).1
    exact absurd this (Fu hd.1)
  subst this
  rw[List.append_nil]at e1
  subst e1
  exact⟨ad,cap,he,h3⟩
 ·exact absurd hk (h r hr)
theorem Xh(s:ByteArray)(w:World)(hm:s.size<=maxLen)(hn:Lf s.data.toList):
 Calls Tryz.prog 179 #[.string s] w fun e w'=>e= .returned (.tuple #[.slice none 0 0,.int .i64 1])/\Bwz w w':=by
 refine(O7 s w hm).mono fun e w' ⟨h,hb⟩=>⟨?_,hb⟩
 rcases h with⟨r',ad,cap,he,h1,h2,h3⟩|⟨h,_⟩
 ·exact absurd h2 (hn r' h1)
 ·exact h
theorem Xi(h:∀c∈r,c.ok/\c.wf):DN r=0:=by
 induction r with
 |nil=>rfl
 |cons c r ih=>
  have hc:chk c.k c.n c.s=0:=(h c (List.mem_cons_self ..)).1
  rw[DN,if_pos hc]
  exact ih (fun x hx=>h x (List.mem_cons_of_mem _ hx))
theorem Gr(h:rowOk r):Au r=0:=by
 unfold Au
 have:=h.1
 rw[if_neg (by omega)]
 exact Xi h.2
theorem Ii(h:rowOk r):(E9 r).data.toList=encR r:=by
 unfold E9;rw[if_pos (Gr h)]
theorem O9(h:rowOk r):BE r:=fun c hc=>(h.2 c hc).2
theorem OA(h:rowOk r):(E9 r).size<=1048:=by
 rw[<-A4,Ii h]
 have h1:=FQ r (fun c hc=>(h.2 c hc).1)
 have:=h.1
 omega
theorem Y9(a:Option Addr)(cap:Nat)(r:List Cel)(w:World)(hr:rowAt w a r)(h:rowOk r):
 Calls Tryz.prog 109 #[.slice a r.length cap] w fun e w'=>e= .returned (.tuple #[.string (E9 r),.int .i64 0])/\Bwz w w':=by
 refine(JB a cap r w hr (O9 h) (by have:=h.1;omega)).mono fun e w' ⟨he,hb⟩=>⟨?_,hb⟩
 rw[he,Gr h]
theorem Ac{a:Option Addr}(h:rowAt w a r)(hb:Bwz w w'):rowAt w' a r:=by
 intro i hi
 obtain⟨b,o,e,x1,x2,x3⟩:=h i hi
 exact⟨b,o,e,cLz hb x1,cLz hb x2,cLz hb x3⟩
end vl
namespace vl
open Go.ChangeShapes Go.WideShapes Go.ChangeAt Go.RowKit Go.Joins Go.Deep
theorem laidOut:laidOutB Tryz.prog=true:=by kernel_rfl
theorem own:ownKnob Tryz.prog.godebug=none:=by kernel_rfl
theorem D8:Tryz.prog.cellsOf 3=1:=by kernel_rfl
theorem Vd:Tryz.prog.cellsOf 9=1:=by kernel_rfl
theorem YA:Tryz.prog.cellsOf 103=3:=by kernel_rfl
section
variable {H : Type} {enc : TypeId × Value -> H} {w : World} {base : Nat} {spare : Nat -> Bool} {held : Bool}
theorem OC{x:Addr}{cs:List Value}{y:DataW H×List MemPlace}{fuel:Nat}(hc:w.cells? base x 3=some cs)(ht:DataW.trod enc Tryz.prog w base spare held fuel 103 cs=some y):
 ∃(b off:Nat) (c:Cel),x=⟨b,off,none⟩/\w.cell? ⟨b,off,none⟩=some (.int .i64 c.k)/\w.cell? ⟨b,off+1,none⟩=some (.int .i64 c.n)/\w.cell? ⟨b,off+1+1,none⟩=some (.string c.s)/\c.wf:=by
 obtain⟨_,hlen,hat⟩:=World.cells?_some hc
 obtain⟨y0,y1,y2,n,_,_,h0,h1,h2⟩:=trod_struct3 underlying103 ht
 match cs,hlen with
 |[a0,a1,a2],_=>
  obtain⟨k,e0,_,wk⟩:=DataW.trod_int underlying3 h0
  obtain⟨m,e1,_,wm⟩:=DataW.trod_int underlying3 h1
  obtain⟨s,e2,_,hs⟩:=DataW.trod_string underlying9 h2
  simp[D8]at e0
  simp[D8]at e1
  simp[Vd]at e2
  subst e0 e1 e2
  obtain⟨b,off,spot⟩:=x
  have g0:=hat 0 (by omega)
  have g1:=hat 1 (by omega)
  have g2:=hat 2 (by omega)
  have hspot:spot=none:=by simpa[Addr.add]using World.cell?_spot g0
  subst hspot
  refine⟨b,off,⟨k,m,s⟩,rfl,?_,?_,?_,bounds_i64 wm,hs⟩
  ·simpa[Addr.add]using g0
  ·simpa[Addr.add]using g1
  ·simpa[Addr.add]using g2
theorem open_row{a:Option Addr}{len cap:Nat}{d:DataW H}{p:List MemPlace}(h:DataW.Trod enc Tryz.prog w base spare held 41 (.slice a len cap) d p):
 ∃r:List Cel,r.length=len/\rowAt w a r/\BE r/\len<=9223372036854775807:=by
 obtain⟨fuel,hf⟩:=h
 rcases open_slice underlying41 hf with⟨hcs,_⟩|⟨x,l,c,m,n,D,Pl,hcs,_,hl,hm,hmm,_,hel⟩
 ·simp[Value.cells]at hcs
  obtain⟨rfl,rfl,rfl⟩:=hcs
  exact⟨[],rfl,fun i hi=>absurd hi (Nat.not_lt_zero i),(fun c hc=>by cases hc),by omega⟩
 ·simp[Value.cells]at hcs
  obtain⟨rfl,rfl,rfl⟩:=hcs
  have hle:len<=m:=by rw[hmm];split<;>omega
  rw[YA]at hel
  obtain⟨f,hfam⟩:=choose_lt (α:=Cel) (n:=len) (p:=fun i c=> ∃b off,x=⟨b,off,none⟩/\w.cell? ⟨b,off+i * 3,none⟩=some (.int .i64 c.k)/\w.cell? ⟨b,off+i * 3+1,none⟩=some (.int .i64 c.n)/\w.cell? ⟨b,off+i * 3+1+1,none⟩=some (.string c.s)/\c.wf) (fun i hi=>by
   obtain⟨cs',h1,h2⟩:=hel i (by omega)
   obtain⟨b,off,c,e,g0,g1,g2,hw⟩:=OC h1 h2
   -- the slice begins where its first element does
   obtain⟨cs0,z1,z2⟩:=hel 0 (by omega)
   obtain⟨b0,off0,c0,e0,_⟩:=OC z1 z2
   have ex:x=⟨b0,off0,none⟩:=by simpa[Addr.add]using e0
   subst ex
   have ea:(⟨b0,off0,none⟩:Addr).add (i * 3)=⟨b0,off0+i * 3,none⟩:=by unfold Addr.add;split<;>simp_all
   rw[ea]at e
   cases e
   exact⟨c,b,off0,rfl,g0,g1,g2,hw⟩)
  refine⟨(List.range len).map f,by simp,?_,?_,by unfold maxLen at hm;omega⟩
  ·intro i hi
   have hi':i<len:=by simpa using hi
   obtain⟨b,off,rfl,g0,g1,g2,_⟩:=hfam i hi'
   have e:((List.range len).map f).getD i default=f i:=by simp[gDe,hi']
   rw[e]
   exact⟨b,off,rfl,g0,g1,g2⟩
  ·intro c hc
   obtain⟨i,hi,rfl⟩:=List.mem_map.1 hc
   obtain⟨_,_,_,_,_,_,hw⟩:=hfam i (by simpa using hi)
   exact hw
end
end vl
namespace tm
open Go.ChangeShapes Go.WideShapes Go.ChangeAt Go.RowKit
def Bb(t:Int):Bool:=decide (-1099511627776<=t/\t<=1099511627776)
theorem Ij(t:Int):Bb t=true↔(-1099511627776<=t/\t<=1099511627776):=by simp[Bb]
theorem Nq(t:Int):Bb t=false↔ ¬(-1099511627776<=t/\t<=1099511627776):=by
 unfold Bb;exact decide_eq_false_iff_not
theorem Cr(t:Int)(w:World):
 Calls Tryz.prog 88 #[.int .i64 t] w fun e w'=>e= .returned (.bool (Bb t))/\w'=w:=by
 by_cases h1: -1099511627776<=t
 ·by_cases h2:t<=1099511627776
  ·have hf:Bb t=true:=(Ij t).2 ⟨h1,h2⟩
   rw[hf]
   go_enter func88,ntmps88
   go_wp2
   go_ret
   exact⟨rfl,rfl⟩
  ·have hf:Bb t=false:=(Nq t).2 (by omega)
   rw[hf]
   go_enter func88,ntmps88
   go_wp2
   go_ret
   exact⟨rfl,rfl⟩
 ·have hf:Bb t=false:=(Nq t).2 (by omega)
  rw[hf]
  go_enter func88,ntmps88
  go_wp2
  go_ret
  exact⟨rfl,rfl⟩
theorem Bg(t:Int)(w:World):
 Calls Tryz.prog 66 #[.int .i64 t] w fun e w'=>e= .returned (.bool (Bb t))/\w'=w:=by
 by_cases h1: -1099511627776<=t
 ·by_cases h2:t<=1099511627776
  ·have hf:Bb t=true:=(Ij t).2 ⟨h1,h2⟩
   rw[hf]
   go_enter func66,ntmps66
   go_wp2
   go_ret
   exact⟨rfl,rfl⟩
  ·have hf:Bb t=false:=(Nq t).2 (by omega)
   rw[hf]
   go_enter func66,ntmps66
   go_wp2
   go_ret
   exact⟨rfl,rfl⟩
 ·have hf:Bb t=false:=(Nq t).2 (by omega)
  rw[hf]
  go_enter func66,ntmps66
  go_wp2
  go_ret
  exact⟨rfl,rfl⟩
theorem Ve(zs:List Int)(k:Nat)(h:k<zs.length):(zs.take (k+1)).all Bb=((zs.take k).all Bb&&Bb (zs[k]?.getD 0)):=by
 rw[List.take_succ_eq_append_getElem h,List.all_append,List.getElem?_eq_getElem h]
 simp only[List.all_cons,List.all_nil,Bool.and_true,Option.getD_some]
theorem YB(zs:List Int)(k:Nat)(h:k<zs.length)(hf:Bb (zs[k]?.getD 0)=false):zs.all Bb=false:=by
 rw[List.all_eq_false]
 exact⟨zs[k],List.getElem_mem h,by simpa[List.getElem?_eq_getElem h]using hf⟩
theorem Qt(b:Nat)(zs:List Int)(w:World)(hl:zs.length<=100)
 (hc:∀i,i<zs.length->w.cell? ⟨b,i,none⟩=some (.int .i64 (zs[i]?.getD 0))):
 Calls Tryz.prog 159 #[.slice (some ⟨b,0,none⟩) zs.length zs.length] w fun e w'=>e= .returned (.bool (zs.all Bb))/\w'=w:=by
 go_enter func159,ntmps159
 go_wp2
 go_loop [7] (fun i=> ∃k:Nat,k<=zs.length/\i= .int .i64 k/\(zs.take k).all Bb=true) (fun i=>zs.length - (intOf i).toNat)
 case atStart=>exact⟨0,Nat.zero_le _,rfl,rfl⟩
 case round=>
  obtain⟨k,hk,rfl,hall⟩:=hrel
  have HA:Hid ((zs.take k).all Bb=true):=hall
  clear hall
  by_cases hlt:k<zs.length
  ·have hcell:=hc k hlt
   obtain⟨z,hz0⟩:=nM (zs[k]?.getD 0)
   rw[hz0]at hcell
   have HZ:Hid (zs[k]?.getD 0=z):=hz0
   clear hc hz0
   by_cases hf:Bb z=true
   ·go_wp2_with (go_at_call 88;refine(Cr _ _).mono ?_;rintro e w' ⟨rfl,hw⟩;subst hw)
    go_round
    case rel=>exact⟨k+1,by omega,by go_num,by rw[Ve zs k hlt,HA.out,HZ.out,hf];rfl⟩
    case measure=>simp[intOf];omega
   ·have hf':Bb z=false:=by simpa using hf
    have hz:Hid (zs.all Bb=false):=YB zs k hlt (by rw[HZ.out];exact hf')
    go_wp2_with (go_at_call 88;refine(Cr _ _).mono ?_;rintro e w' ⟨rfl,hw⟩;subst hw)
    go_ret
    exact⟨by rw[hz.out];rfl,rfl⟩
  ·have hz:Hid (zs.all Bb=true):=by
    show zs.all Bb=true
    have h:=HA.out
    rwa[List.take_of_length_le (by omega)]at h
   go_wp2
   go_ret
   exact⟨by rw[hz.out];rfl,rfl⟩
def Xj(a b:Int):Bool:=Bb a&&Bb b
theorem RK(b:Nat)(x y:Int)(w:World)
 (h0:w.cell? ⟨b,0,none⟩=some (.int .i64 x)) (h1:w.cell? ⟨b,1,none⟩=some (.int .i64 y)):
 Calls Tryz.prog 159 #[.slice (some ⟨b,0,none⟩) 2 2] w fun e w'=>e= .returned (.bool (Xj x y))/\w'=w:=by
 have h:=Qt b [x,y] w (by simp) (fun i hi=>by
  match i,hi with
  |0,_=>exact h0
  |1,_=>exact h1)
 refine h.mono fun e w' ⟨he,hw⟩=>⟨?_,hw⟩
 rw[he];simp[Xj]
def start(t s:Int):Int:=t - t % s
theorem Vf(t s:Int)(ht:t<0)(hs:0<s):t.tmod s= -((-t) % s):=by
 have:=Int.neg_tmod (-t) s
 rw[Int.neg_neg]at this
 rw[this,Int.tmod_eq_emod_of_nonneg (by omega)]
theorem Xk(t s:Int)(hs:0<s):(-t % s=0/\t % s=0)\/(0< -t % s/\t % s=s - -t % s):=by
 have n1:=Int.emod_nonneg t (show s≠0 by omega)
 have n2:=Int.emod_lt_of_pos t hs
 have n3:=Int.emod_nonneg (-t) (show s≠0 by omega)
 have n4:=Int.emod_lt_of_pos (-t) hs
 have d1:=Int.mul_ediv_add_emod t s
 have d2:=Int.mul_ediv_add_emod (-t) s
 have d3:s * (t/s+ -t/s)= -(t % s+ -t % s):=by rw[Int.mul_add];omega
 obtain⟨k,hk⟩:∃k,t/s+ -t/s=k:=⟨_,rfl⟩
 rw[hk]at d3
 have k1:k<=0:=by
  rcases Int.lt_or_le 0 k with h|h
  ·have:=Int.mul_pos hs h;omega
  ·exact h
 have k2: -2<k:=by
  rcases Int.lt_or_le (-2) k with h|h
  ·exact h
  ·have:=Int.mul_le_mul_of_nonneg_left h (Int.le_of_lt hs);omega
 have k3:k=0\/k= -1:=by omega
 rcases k3 with rfl|rfl<;>omega
theorem tup3{a b c a' b' c':Int}(h1:a=a')(h2:b=b')(h3:c=c'):
 Ending.returned (.tuple #[.int .i64 a,.int .i64 b,.int .i64 c])= .returned (.tuple #[.int .i64 a',.int .i64 b',.int .i64 c']):=by rw[h1,h2,h3]
theorem Vg(t s:Int)(hs:0<s):start t s<=t/\t<start t s+s:=by
 unfold start
 have:=Int.emod_nonneg t (show s≠0 by omega)
 have:=Int.emod_lt_of_pos t hs
 omega
theorem Lh(t s:Int)(w:World)(h:Bb t=true)(h1:1<=s)(h2:s<=1099511627776):
 Calls Tryz.prog 160 #[.int .i64 t,.int .i64 s] w fun e w'=>e= .returned (.tuple #[.int .i64 (start t s),.int .i64 (start t s+s),.int .i64 0])/\w'=w:=by
 have hb:=(Ij t).1 h
 obtain⟨b1,b2⟩:=hb
 have hn1:¬s<1:=by omega
 have hn2:¬1099511627776<s:=by omega
 have s0:(s==0)=false:=by simp;omega
 by_cases ht:0<=t
 ·have e1:=Int.emod_nonneg t (show s≠0 by omega)
  have e2:=Int.emod_lt_of_pos t (show 0<s by omega)
  go_enter func160,ntmps160
  go_wp2_with (go_at_call 88;refine(Cr _ _).mono ?_;rintro e w' ⟨rfl,hw⟩;subst hw)
  go_ret3
  exact⟨rfl,rfl⟩
 ·have e0:=Vf t s (by omega) (by omega)
  have e1:=Int.emod_nonneg (-t) (show s≠0 by omega)
  have e2:=Int.emod_lt_of_pos (-t) (show 0<s by omega)
  have HM:Hid ((-t % s=0/\t % s=0)\/(0< -t % s/\t % s=s - -t % s)):=Xk t s (by omega)
  go_enter func160,ntmps160
  go_wp2_with (go_at_call 88;refine(Cr _ _).mono ?_;rintro e w' ⟨rfl,hw⟩;subst hw)
  all_goals
   have hm:=HM.out
   go_ret3
   exact⟨tup3 (by unfold start;omega) (by unfold start;omega) rfl,rfl⟩
end tm
end Go.Proofs.YtdohnkkbkfhphaaGreat
