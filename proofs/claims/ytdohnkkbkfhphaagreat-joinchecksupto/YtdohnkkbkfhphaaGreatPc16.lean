import Derived.Test.YtdohnkkbkfhphaaGreatPc15
set_option linter.all false
set_option maxHeartbeats 4000000
set_option maxRecDepth 100000
namespace Go.Proofs.YtdohnkkbkfhphaaGreat
open Go.Proofs.Tryz
namespace pl
open Go.ChangeShapes Go.WideShapes Go.ChangeAt Go.RowKit
open vl
variable {p : Pln} {w : World} {x : PA} {c : List Int} {r : List Cel}
theorem Zl(h:Al p=0)(hk:p.kind=1):fit p.low/\fit p.high:=by
 have:=(BW h).2.1.1
 rw[if_pos hk]at this;exact this
theorem ok_2(h:Al p=0)(hk:p.kind=2):1<=p.size/\p.size<=1099511627776:=by
 have:=(BW h).2.1.2.1
 rw[if_pos hk]at this;exact this
theorem XP{t:Int}(h:fit t):fit (-t):=by unfold fit at *;omega
def YW(pe:Int)(sb fb:Bool):Int:=if pe=0 then(if sb=true then(if fb=true then 0 else 3)else 4)else pe
theorem Ia(p:Pln)(x:PA)(side mark:Int)(w:World)(hw:wfPlan p)(hp:planAt w p x):
 Calls Tryz.prog 57 #[Ap p x,.int .i64 side,.int .i64 mark] w fun e w'=>e= .returned (.tuple #[.int .i64 (M5 p side mark),.int .i64 (JC p side mark)])/\Bwz w w':=by
 have K1:=hIz (fun(w1:World) (hb:Bwz w w1)=>DV p x w1 hw (Af hp hb))
 have HE:Hid (JC p side mark=YW (Al p) (Be side) (tm.Bb mark)):=rfl
 have HV:Hid (M5 p side mark=if YW (Al p) (Be side) (tm.Bb mark)=0 then EX p side mark else 0):=rfl
 have K2:=hIz (fun(w1:World) (h:Al p=0) (hk:p.kind=1)=>Ta p x side w1 (Zl h hk).1)
 have HF:Hid (Al p=0->p.kind=1->fit (if side=2 then -p.low else p.high)):=fun h hk=>by
  have:=Zl h hk
  split
  ·exact XP this.1
  ·exact this.2
 have HS:Hid (Al p=0->p.kind=2->1<=p.size/\p.size<=1099511627776):=fun h hk=>ok_2 h hk
 have HG1:Hid (p.kind=1->EX p side mark=IQ mark (if side=2 then -p.low else p.high)):=fun h=>if_pos h
 have HG2:Hid (p.kind=2->EX p side mark=SZ mark p.size):=fun h=>by show EX p side mark=_;unfold EX;rw[if_neg (by omega),if_pos h]
 have HG3:Hid (¬p.kind=1->¬p.kind=2->EX p side mark=if side=2 then -1099511627777 else mark):=fun h1 h2=>by show EX p side mark=_;unfold EX;rw[if_neg h1,if_neg h2]
 obtain⟨pe,hpe⟩:=nM (Al p)
 rw[hpe]at K1 HE HV K2 HF HS
 obtain⟨rv,hrv⟩:=nM (if side=2 then -p.low else p.high)
 rw[hrv]at K2 HF HG1
 obtain⟨gv,hgv⟩:=nM (M5 p side mark)
 obtain⟨ge,hge⟩:=nM (JC p side mark)
 obtain⟨ga,hga⟩:=nM (EX p side mark)
 rw[hgv]at HV⊢
 rw[hge]at HE⊢
 rw[hga]at HV HG1 HG2 HG3
 clear hpe hrv hgv hge hga hw hp
 obtain⟨kind,mode,low,high,size,limit,left,right,lkeys,rkeys,grouped,group,aggs⟩:=p
 obtain⟨l,lc,r,rc,lk,lkc,rk,rkc,g,gc,a,ac⟩:=x
 unfold Ap at K1 K2⊢
 dsimp only at K1 K2 HF HS HG1 HG2 HG3⊢
 obtain⟨n6,h6⟩:∃n,left.length=n:=⟨_,rfl⟩
 obtain⟨n7,h7⟩:∃n,right.length=n:=⟨_,rfl⟩
 obtain⟨n8,h8⟩:∃n,lkeys.length=n:=⟨_,rfl⟩
 obtain⟨n9,h9⟩:∃n,rkeys.length=n:=⟨_,rfl⟩
 obtain⟨n11,h11⟩:∃n,group.length=n:=⟨_,rfl⟩
 obtain⟨n12,h12⟩:∃n,aggs.length=n:=⟨_,rfl⟩
 rw[h6,h7,h8,h9,h11,h12]at K1 K2
 rw[h6,h7,h8,h9,h11,h12]
 clear h6 h7 h8 h9 h11 h12
 go_enter func57,ntmps57
 go_wp2_with fail
 refine(K1.out _ (bR.alloc nR _)).mono ?_
 rintro e w1 ⟨rfl,hb1⟩
 have hba:=(bR.alloc nR _).trans (hb1.mono (by simp))
 obtain⟨hc1,hf1⟩:=C2 hb1
 have hz1:w.heap.size<w1.heap.size:=(by have:=hb1.size;simp at this;omega)
 by_cases h0:pe=0
 ·subst h0
  cases hsb:Be side
  ·rw[hsb]at HE HV
   go_wp2_with (go_at_call 87;refine(Cz _ _).mono ?_;rintro e w' ⟨rfl,hw⟩;subst hw)
   go_ret2
   exact⟨D5 (by rw[HV.out];rfl) (by rw[HE.out];rfl),hba⟩
  rw[hsb]at HE HV
  cases hfb:tm.Bb mark
  ·rw[hfb]at HE HV
   go_wp2_with (first
    |(go_at_call 87;refine(Cz _ _).mono ?_;rintro e w' ⟨rfl,hw⟩;subst hw)
    |(go_at_call 88;refine(tm.Cr _ _).mono ?_;rintro e w' ⟨rfl,hw⟩;subst hw))
   go_ret2
   exact⟨D5 (by rw[HV.out];rfl) (by rw[HE.out];rfl),hba⟩
  rw[hfb]at HE HV
  have HFM:Hid (fit mark):=Ox.2 hfb
  have HV':Hid (gv=ga):=HV.out
  have HE':Hid (ge=0):=HE.out
  clear HV HE
  by_cases k1:kind=1
  ·subst k1
   have HG:=HG1.out rfl
   have HGG:Hid (ga=IQ mark rv):=HG
   have KR:Hid (∀w1,CTz 111 #[.agg #[.int .i64 1,.int .i64 mode,.int .i64 low,.int .i64 high,.int .i64 size,.int .i64 limit,.slice l n6 lc,.slice r n7 rc,.slice lk n8 lkc,.slice rk n9 rkc,.bool grouped,.slice g n11 gc,.slice a n12 ac],.int .i64 side] w1 fun e w'=>e= .returned (.int .i64 rv)/\Bwz w1 w'):=fun w1=>K2.out w1 rfl rfl
   have HFR:Hid (fit rv):=HF.out rfl rfl
   clear HG K2 HF HG1 HG2 HG3 HS
   go_wp2_with (first
    |(go_at_call 87;refine(Cz _ _).mono ?_;rintro e w' ⟨rfl,hw⟩;subst hw)
    |(go_at_call 88;refine(tm.Cr _ _).mono ?_;rintro e w' ⟨rfl,hw⟩;subst hw)
    |(go_at_call 111;refine(KR.out _).mono ?_;rintro e w2 ⟨rfl,hb2⟩;have hbb:=hba.trans (hb2.mono hba.size))
    |(go_at_call 110;refine(Xe _ _ _ HFM.out HFR.out).mono ?_;rintro e w3 ⟨rfl,hb3⟩;have hbc:=hbb.trans (hb3.mono hbb.size)))
   go_ret2
   exact⟨D5 (by rw[HV'.out,HGG.out]) HE'.out.symm,hbc⟩
  ·have k1':(kind==1)=false:=by simpa using k1
   by_cases k2:kind=2
   ·subst k2
    have HGG:Hid (ga=SZ mark size):=HG2.out rfl
    have HSS:=HS.out rfl rfl
    obtain⟨s1,s2⟩:=HSS
    clear K2 HF HG1 HG2 HG3 HS k1
    go_wp2_with (first
     |(go_at_call 87;refine(Cz _ _).mono ?_;rintro e w' ⟨rfl,hw⟩;subst hw)
     |(go_at_call 88;refine(tm.Cr _ _).mono ?_;rintro e w' ⟨rfl,hw⟩;subst hw)
     |(go_at_call 112;refine(Oy _ _ _ HFM.out s1 s2).mono ?_;rintro e w3 ⟨rfl,hb3⟩;have hbc:=hba.trans (hb3.mono hba.size)))
    go_ret2
    exact⟨D5 (by rw[HV'.out,HGG.out]) HE'.out.symm,hbc⟩
   ·have k2':(kind==2)=false:=by simpa using k2
    have HGG:Hid (ga=if side=2 then -1099511627777 else mark):=HG3.out k1 k2
    clear K2 HF HG1 HG2 HG3 HS k1 k2
    by_cases s2:side=2
    ·subst s2
     go_wp2_with (first
      |(go_at_call 87;refine(Cz _ _).mono ?_;rintro e w' ⟨rfl,hw⟩;subst hw)
      |(go_at_call 88;refine(tm.Cr _ _).mono ?_;rintro e w' ⟨rfl,hw⟩;subst hw))
     go_ret2
     exact⟨D5 (by rw[HV'.out,HGG.out];rfl) HE'.out.symm,hba⟩
    ·have s2':(side==2)=false:=by simpa using s2
     rw[if_neg s2]at HGG
     clear s2
     go_wp2_with (first
      |(go_at_call 87;refine(Cz _ _).mono ?_;rintro e w' ⟨rfl,hw⟩;subst hw)
      |(go_at_call 88;refine(tm.Cr _ _).mono ?_;rintro e w' ⟨rfl,hw⟩;subst hw))
     go_ret2
     exact⟨D5 (by rw[HV'.out,HGG.out]) HE'.out.symm,hba⟩
 ·have h0':(pe !=0)=true:=by simpa using h0
  have HE':Hid (ge=pe):=by show ge=pe;rw[HE.out];exact if_neg h0
  have HV':Hid (gv=0):=by
   show gv=0
   rw[HV.out,if_neg]
   unfold YW
   rw[if_neg h0];exact h0
  clear h0 HE HV
  go_wp2
  go_ret2
  exact⟨D5 HV'.out.symm HE'.out.symm,hba⟩
def Aw(p:Pln)(side:Int):List Int:=if side=2 then p.right else p.left
def keysOf(p:Pln)(side:Int):List Int:=if side=2 then p.rkeys else p.lkeys
def cA(x:PA)(side:Int):Option Addr:=if side=2 then x.r else x.l
def cC(x:PA)(side:Int):Nat:=if side=2 then x.rc else x.lc
def kA(x:PA)(side:Int):Option Addr:=if side=2 then x.rk else x.lk
def kC(x:PA)(side:Int):Nat:=if side=2 then x.rkc else x.lkc
theorem Wr(h:planAt w p x)(side:Int):A2 w (cA x side) (Aw p side):=by
 unfold cA Aw;split
 ·exact h.r
 ·exact h.l
theorem EW(h:planAt w p x)(side:Int):A2 w (kA x side) (keysOf p side):=by
 unfold kA keysOf;split
 ·exact h.rk
 ·exact h.lk
theorem JL(h:wfPlan p)(side:Int):(Aw p side).length<=9223372036854775807:=by
 unfold Aw;split
 ·exact h.r
 ·exact h.l
def CI(c:Cel)(t:Int):Bool:=decide (c.k=0\/c.k=t)
def DU(r:List Cel)(c:List Int):Bool:=decide (r.length=c.length)&&allB r.length (fun i=>CI (r.getD i default) (c.getD i 0))
def Rj(p:Pln)(side:Int)(r:List Cel):Int:=
 if Be side=false then 4 else if r.length≠(Aw p side).length then 2 else if DN r≠0 then DN r else if DU r (Aw p side)=false then 5 else 0
def AB(p:Pln)(side:Int)(r:List Cel):Int:=if Al p=0 then Rj p side r else Al p
theorem Jz(p:Pln)(x:PA)(side:Int)(w:World):
 Calls Tryz.prog 155 #[Ap p x,.int .i64 side] w fun e w'=>e= .returned (.slice (cA x side) (Aw p side).length (cC x side))/\Bwz w w':=by
 unfold cA cC Aw
 obtain⟨kind,mode,low,high,size,limit,left,right,lkeys,rkeys,grouped,group,aggs⟩:=p
 obtain⟨l,lc,r,rc,lk,lkc,rk,rkc,g,gc,a,ac⟩:=x
 unfold Ap
 dsimp only
 by_cases hs:side=2
 ·subst hs
  simp only[if_true]
  go_enter func155,ntmps155
  go_wp2
  go_ret
  exact⟨rfl,bR.alloc nR _⟩
 ·have hs':(side==2)=false:=by simpa using hs
  simp only[if_neg hs]
  clear hs
  go_enter func155,ntmps155
  go_wp2
  go_ret
  exact⟨rfl,bR.alloc nR _⟩
theorem Uc(p:Pln)(x:PA)(side:Int)(w:World):
 Calls Tryz.prog 108 #[Ap p x,.int .i64 side] w fun e w'=>e= .returned (.slice (kA x side) (keysOf p side).length (kC x side))/\Bwz w w':=by
 unfold kA kC keysOf
 obtain⟨kind,mode,low,high,size,limit,left,right,lkeys,rkeys,grouped,group,aggs⟩:=p
 obtain⟨l,lc,r,rc,lk,lkc,rk,rkc,g,gc,a,ac⟩:=x
 unfold Ap
 dsimp only
 by_cases hs:side=2
 ·subst hs
  simp only[if_true]
  go_enter func108,ntmps108
  go_wp2
  go_ret
  exact⟨rfl,bR.alloc nR _⟩
 ·have hs':(side==2)=false:=by simpa using hs
  simp only[if_neg hs]
  clear hs
  go_enter func108,ntmps108
  go_wp2
  go_ret
  exact⟨rfl,bR.alloc nR _⟩
theorem XQ(i:Nat)(B:Nat)(ad:Option Addr)(cp:Nat)(c:List Int)(k n:Int)(s:ByteArray)(w:World)(hi:i<c.length)(hl:c.length<=9223372036854775807)(hc:A2 w ad c)(hb:w.cell? ⟨B,0,none⟩=some (.slice ad c.length cp)):
 Calls Tryz.prog 192 #[.int .i64 i,.agg #[.int .i64 k,.int .i64 n,.string s],.pointer (some ⟨B,0,none⟩)] w fun e w'=>e= .returned (.bool (CI ⟨k,n,s⟩ (c.getD i 0)))/\Bwz w w':=by
 have hBlt:=bLt _ _ hb
 have hBlt':B<w.heap.size:=hBlt
 obtain⟨bc,oc,ec,xc⟩:=hc i hi
 subst ec
 have hclt:=bLt _ _ xc
 have hclt':bc<w.heap.size:=hclt
 have HB:Hid (CI ⟨k,n,s⟩ (c.getD i 0)=decide (k=0\/k=c.getD i 0)):=rfl
 obtain⟨m,hm⟩:=nM c.length
 obtain⟨t,ht⟩:=nM (c.getD i 0)
 rw[hm]at hi hl hb
 rw[ht]at xc HB⊢
 have i1:(0:Int)<=(i:Int):=by omega
 have i2:(i:Int)<(m:Int):=by omega
 clear hm ht hc hBlt hclt
 by_cases hk:k=0
 ·subst hk
  go_enter func192,ntmps192
  go_wp2
  go_quiet (fail)
  go_wp2
  go_ret
  exact⟨Aa (by rw[HB.out];simp),CK (bR.alloc nR _) _⟩
 ·have hk':(k==0)=false:=by simpa using hk
  have HB2:Hid (CI ⟨k,n,s⟩ t=(k==t)):=by show CI ⟨k,n,s⟩ t=_;rw[HB.out];exact Bool.eq_iff_iff.2 (by simp[hk])
  clear hk HB
  go_enter func192,ntmps192
  go_wp2
  go_quiet (fail)
  go_wp2
  go_ret
  exact⟨Aa HB2.out.symm,CK (bR.alloc nR _) _⟩
theorem Ud(a ad:Option Addr)(ca cp:Nat)(r:List Cel)(c:List Int)(w:World)(hl:r.length<=9223372036854775807)(hcl:c.length<=9223372036854775807)(ha:vl.rowAt w a r)(hc:A2 w ad c):
 Calls Tryz.prog 157 #[.slice a r.length ca,.slice ad c.length cp] w fun e w'=>e= .returned (.bool (DU r c))/\Bwz w w':=by
 have K:Hid (∀B w1,Bwz w w1->r.length=c.length->w1.cell? ⟨B,0,none⟩=some (.slice ad c.length cp)->
  Calls Tryz.prog 191 #[.slice a r.length ca,.func (.func 192) #[] #[.pointer (some ⟨B,0,none⟩)]] w1 fun e w'=>e= .returned (.bool (allB r.length (fun i=>CI (r.getD i default) (c.getD i 0))))/\Bwz w1 w'):=by
  intro B w1 hb hlen e0
  exact Nj 192 (enters_of func192 (by kernel_rfl) rfl) #[.pointer (some ⟨B,0,none⟩)] (fun i=>CI (r.getD i default) (c.getD i 0)) a ca r w1 hl (Ac ha hb)
   (fun i w2 hi hb2=>XQ i B ad cp c _ _ _ w2 (by omega) hcl (As (As hc hb) hb2) (cLz hb2 e0))
 have HB:Hid (DU r c=(decide (r.length=c.length)&&allB r.length (fun i=>CI (r.getD i default) (c.getD i 0)))):=rfl
 obtain⟨tb,htb⟩:=nM (allB r.length (fun i=>CI (r.getD i default) (c.getD i 0)))
 rw[htb]at K HB
 obtain⟨m,hm⟩:=nM r.length
 obtain⟨k,hk⟩:=nM c.length
 rw[hm,hk]at K HB
 rw[hm,hk]
 clear hm hk htb ha hc hl hcl
 by_cases he:m=k
 ·subst he
  rw[show decide (m=m)=true by simp]at HB
  have he':((m:Int)==m)=true:=by simp
  go_enter func157,ntmps157
  go_wp2_with (go_at_call 191;refine(K.out _ _ (bR.alloc nR _) (by trivial) (by go_simp)).mono ?_;rintro e w1 ⟨rfl,hb1⟩)
  go_ret
  exact⟨Aa (by rw[HB.out];simp),(bR.alloc nR _).trans (hb1.mono (by simp))⟩
 ·have he':((m:Int)==k)=false:=by simp;omega
  rw[decide_eq_false he]at HB
  clear he
  go_enter func157,ntmps157
  go_wp2
  go_ret
  exact⟨Aa (by rw[HB.out];rfl),bR.alloc nR _⟩
def LH(c:List Int)(r:List Cel):Int:=if r.length≠c.length then 2 else if DU r c=false then 5 else 0
theorem Ws{i:Nat}(hl:r.length=c.length)(hi:i<r.length)(h:CI (r.getD i default) (c.getD i 0)=false):LH c r=5:=by
 unfold LH DU
 rw[if_neg (by simp[hl]),Dc hi h];simp
theorem XR(hl:r.length=c.length)(h:∀i,i<r.length->CI (r.getD i default) (c.getD i 0)=true):LH c r=0:=by
 unfold LH DU
 rw[if_neg (by simp[hl]),A9.2 h,decide_eq_true hl];simp
theorem Mc(a ad:Option Addr)(ca cp:Nat)(r:List Cel)(c:List Int)(w:World)(hl:r.length<=9223372036854775807)(hcl:c.length<=9223372036854775807)(ha:vl.rowAt w a r)(hc:A2 w ad c):
 Calls Tryz.prog 84 #[.slice ad c.length cp,.slice a r.length ca] w fun e w'=>e= .returned (.int .i64 (LH c r))/\Bwz w w':=by
 have HA:Hid (vl.rowAt w a r):=ha
 have HC:Hid (A2 w ad c):=hc
 have HB:Hid (∀i,r.length=c.length->i<r.length->CI (r.getD i default) (c.getD i 0)=false->LH c r=5):=fun i h1 h2 h3=>Ws h1 h2 h3
 have HO:Hid (r.length=c.length->(∀i,i<r.length->CI (r.getD i default) (c.getD i 0)=true)->LH c r=0):=XR
 have HN:Hid (r.length≠c.length->LH c r=2):=fun h=>if_pos h
 obtain⟨fe,hfe⟩:=nM (LH c r)
 rw[hfe]at HB HO HN⊢
 obtain⟨m,hm⟩:=nM r.length
 obtain⟨k,hk⟩:=nM c.length
 have HM:Hid (r.length=m):=hm
 have HK:Hid (c.length=k):=hk
 rw[hm]at hl HB HO HN⊢
 rw[hk]at hcl HB HO HN⊢
 clear hfe hm hk ha hc
 by_cases he:m=k
 ·subst he
  have he':((m:Int) !=m)=false:=by simp
  go_enter func84,ntmps84
  go_wp2
  go_loopw [5] (fun i wr=> ∃j:Nat,j<=m/\i= .int .i64 j/\Bwz w wr/\∀i,i<j->CI (r.getD i default) (c.getD i 0)=true) (fun i _=>m - (intOf i).toNat)
  case atStart=>exact⟨0,Nat.zero_le _,rfl,bR,fun i hi=>absurd hi (Nat.not_lt_zero i)⟩
  case round=>
   obtain⟨j,hj,rfl,hnx,hall⟩:=hrel
   have HAL:Hid (∀i,i<j->CI (r.getD i default) (c.getD i 0)=true):=hall
   clear hall
   by_cases hlt:j<m
   ·obtain⟨b1,o1,e1,x1,x2,x3⟩:=HA.out j (by rw[HM.out];exact hlt)
    obtain⟨b2,o2,e2,y1⟩:=HC.out j (by rw[HK.out];exact hlt)
    subst e1 e2
    have q1:=cLz hnx x1
    have q2:=cLz hnx y1
    have i1:(0:Int)<=(j:Int):=by omega
    have i2:(j:Int)<(m:Int):=by omega
    have HBJ:Hid (CI (r.getD j default) (c.getD j 0)=decide ((r.getD j default).k=0\/(r.getD j default).k=c.getD j 0)):=rfl
    obtain⟨kv,hkv⟩:=nM ((r.getD j default).k)
    obtain⟨tv,htv⟩:=nM (c.getD j 0)
    rw[hkv]at q1 HBJ
    rw[htv]at q2
    have HBK:Hid (CI (r.getD j default) (c.getD j 0)=decide (kv=0\/kv=tv)):=by show CI (r.getD j default) (c.getD j 0)=_;rw[HBJ.out,htv]
    clear hkv htv x1 x2 x3 y1 HBJ
    have HSTEP:Hid (CI (r.getD j default) (c.getD j 0)=true->∀i,i<j+1->CI (r.getD i default) (c.getD i 0)=true):=fun h i hi=>by
     rcases Nat.lt_succ_iff_lt_or_eq.1 hi with h1|h1
     ·exact HAL.out i h1
     ·rw[h1];exact h
    by_cases hk:kv=0
    ·subst hk
     have HX:Hid (CI (r.getD j default) (c.getD j 0)=true):=by show CI (r.getD j default) (c.getD j 0)=true;rw[HBK.out];simp
     go_wp2
     go_quiet (fail)
     go_wp2
     go_roundw
     case rel=>exact⟨j+1,by omega,by go_num,CK hnx _,HSTEP.out HX.out⟩
     case measure=>simp[intOf];omega
    ·have hk':(kv !=0)=true:=by simpa using hk
     by_cases ht:kv=tv
     ·have ht':(kv !=tv)=false:=by simpa using ht
      have HX:Hid (CI (r.getD j default) (c.getD j 0)=true):=by show CI (r.getD j default) (c.getD j 0)=true;rw[HBK.out];exact decide_eq_true (.inr ht)
      clear hk ht
      go_wp2
      go_quiet (fail)
      go_wp2
      go_roundw
      case rel=>exact⟨j+1,by omega,by go_num,CK hnx _,HSTEP.out HX.out⟩
      case measure=>simp[intOf];omega
     ·have ht':(kv !=tv)=true:=by simpa using ht
      have HX:Hid (fe=5):=HB.out j (by trivial) hlt (by rw[HBK.out];exact decide_eq_false (fun h=>h.elim hk ht))
      clear hk ht
      go_wp2
      go_quiet (fail)
      go_wp2
      go_ret
      exact⟨Ad HX.out.symm,CK hnx _⟩
   ·have HX:Hid (fe=0):=HO.out (by trivial) (fun i hi=>HAL.out i (by omega))
    go_wp2
    go_ret
    exact⟨Ad HX.out.symm,hnx⟩
 ·have he':((m:Int) !=k)=true:=by simp;omega
  have HX:Hid (fe=2):=HN.out he
  clear he
  go_enter func84,ntmps84
  go_wp2
  go_ret
  exact⟨Ad HX.out.symm,bR⟩
def FY(sb:Bool)(n m:Nat)(er:Int)(tb:Bool):Int:=if sb=false then 4 else if n≠m then 2 else if er≠0 then er else if tb=false then 5 else 0
theorem Sf(p:Pln)(x:PA)(side:Int)(ar:Option Addr)(cr:Nat)(r:List Cel)(w:World)(hw:wfPlan p)(hp:planAt w p x)(hr:vl.rowAt w ar r)(hwr:BE r)(hlr:r.length<=9223372036854775807):
 Calls Tryz.prog 106 #[Ap p x,.int .i64 side,.slice ar r.length cr] w fun e w'=>e= .returned (.int .i64 (AB p side r))/\Bwz w w':=by
 have K1:=hIz (fun(w1:World) (hb:Bwz w w1)=>DV p x w1 hw (Af hp hb))
 have K2:=hIz (fun(w1:World)=>Jz p x side w1)
 have K3:=hIz (fun(w1:World) (hb:Bwz w w1)=>Ud ar (cA x side) cr (cC x side) r (Aw p side) w1 hlr (JL hw side) (Ac hr hb) (As (Wr hp side) hb))
 have HE:Hid (AB p side r=if Al p=0 then FY (Be side) r.length (Aw p side).length (DN r) (DU r (Aw p side))else Al p):=rfl
 have hcl:=JL hw side
 have HR:Hid (vl.rowAt w ar r):=hr
 obtain⟨pe,hpe⟩:=nM (Al p)
 obtain⟨res,hres⟩:=nM (AB p side r)
 obtain⟨ca,hca⟩:=nM (cA x side)
 obtain⟨cc,hcc⟩:=nM (cC x side)
 obtain⟨ka,hka⟩:=nM (kA x side)
 obtain⟨kc,hkc⟩:=nM (kC x side)
 obtain⟨cn,hcn⟩:=nM ((Aw p side).length)
 obtain⟨kn,hkn⟩:=nM ((keysOf p side).length)
 obtain⟨tb,htb⟩:=nM (DU r (Aw p side))
 rw[hpe]at K1 HE
 rw[hca,hcc,hcn]at K2
 rw[hca,hcc,hcn,htb]at K3
 rw[hres,hcn,htb]at HE
 rw[hcn]at hcl
 rw[hres]
 clear hpe hres hca hcc hka hkc hcn hkn htb hp hw hr
 obtain⟨n,hn⟩:=nM r.length
 have HN:Hid (r.length=n):=hn
 rw[hn]at K3 HE hlr⊢
 clear hn
 obtain⟨kind,mode,low,high,size,limit,left,right,lkeys,rkeys,grouped,group,aggs⟩:=p
 obtain⟨l,lc,rr,rc,lk,lkc,rk,rkc,g,gc,a,ac⟩:=x
 unfold Ap at K1 K2⊢
 dsimp only at K1 K2⊢
 obtain⟨n6,h6⟩:∃n,left.length=n:=⟨_,rfl⟩
 obtain⟨n7,h7⟩:∃n,right.length=n:=⟨_,rfl⟩
 obtain⟨n8,h8⟩:∃n,lkeys.length=n:=⟨_,rfl⟩
 obtain⟨n9,h9⟩:∃n,rkeys.length=n:=⟨_,rfl⟩
 obtain⟨n11,h11⟩:∃n,group.length=n:=⟨_,rfl⟩
 obtain⟨n12,h12⟩:∃n,aggs.length=n:=⟨_,rfl⟩
 rw[h6,h7,h8,h9,h11,h12]at K1 K2
 rw[h6,h7,h8,h9,h11,h12]
 clear h6 h7 h8 h9 h11 h12
 go_enter func106,ntmps106
 go_wp2_with fail
 refine(K1.out _ (bR.alloc nR _)).mono ?_
 rintro e w1 ⟨rfl,hb1⟩
 have hba:=(bR.alloc nR _).trans (hb1.mono (by simp))
 obtain⟨hc1,hf1⟩:=C2 hb1
 by_cases h0:pe=0
 ·subst h0
  rw[if_pos rfl]at HE
  cases hsb:Be side
  ·rw[hsb]at HE
   go_wp2_with (go_at_call 87;refine(Cz _ _).mono ?_;rintro e w' ⟨rfl,hw⟩;subst hw)
   go_ret
   exact⟨Ad (by rw[HE.out];rfl),hba⟩
  rw[hsb]at HE
  go_wp2_with fail
  refine(Cz _ _).mono ?_
  rintro e w' ⟨rfl,hw'⟩
  subst hw'
  rw[hsb]
  go_wp2_with fail
  refine(K2.out _).mono ?_
  rintro e w2 ⟨rfl,hb2⟩
  have hbb:=hba.trans (hb2.mono hba.size)
  clear hc1 hf1 K1 K2 hb1 hb2
  by_cases hnc:n=cn
  ·subst hnc
   have hnc':((n:Int) !=n)=false:=by simp
   go_wp2
   go_loopw [11,30] (fun _ i wr=> ∃j:Nat,j<=n/\i= .int .i64 j/\Bwz w wr/\∀i,i<j->(r.getD i default).ok) (fun _ i _=>n - (intOf i).toNat)
   case atStart=>exact⟨0,Nat.zero_le _,rfl,hbb,fun i hi=>absurd hi (Nat.not_lt_zero i)⟩
   case round=>
    obtain⟨j,hj,rfl,hnx,hall⟩:=hrel
    have HAL:Hid (∀i,i<j->(r.getD i default).ok):=hall
    have hsz:=hnx.size
    clear hall
    by_cases hlt:j<n
    ·obtain⟨b1,o1,e1,x1,x2,x3⟩:=HR.out j (by rw[HN.out];exact hlt)
     subst e1
     have q1:=cLz hnx x1
     have q2:=cLz hnx x2
     have q3:=cLz hnx x3
     have hww:=UI hwr j (by rw[HN.out];exact hlt)
     have HER:Hid (¬(r.getD j default).ok->DN r=chk (r.getD j default).k (r.getD j default).n (r.getD j default).s):=Nb r j (by rw[HN.out];exact hlt) HAL.out
     have HOK:Hid ((r.getD j default).ok↔chk (r.getD j default).k (r.getD j default).n (r.getD j default).s=0):=Iff.rfl
     have HST:Hid ((r.getD j default).ok->∀i,i<j+1->(r.getD i default).ok):=fun h i hi=>by
      rcases Nat.lt_succ_iff_lt_or_eq.1 hi with h1|h1
      ·exact HAL.out i h1
      ·rw[h1];exact h
     obtain⟨OK,hOK⟩:=nM ((r.getD j default).ok)
     rw[hOK]at HER HOK HST
     obtain⟨⟨kv,nv,sv⟩,hcv⟩:∃z,r.getD j default=z:=⟨_,rfl⟩
     rw[hcv]at q1 q2 q3 hww HER HOK
     dsimp only at q1 q2 q3 hww HER HOK
     obtain⟨⟨w1a,w2a⟩,w3a⟩:=hww
     have i1:(0:Int)<=(j:Int):=by omega
     have i2:(j:Int)<(n:Int):=by omega
     clear hOK hcv x1 x2 x3
     by_cases hc:chk kv nv sv=0
     ·have hc':(chk kv nv sv !=0)=false:=by simpa using hc
      have HO:Hid OK:=HOK.out.2 hc
      clear hc
      go_wp2_with (go_at_call 156;refine(vl.Bn _ _ _ _ w3a).mono ?_;rintro e wc ⟨rfl,hbc⟩;have hlow:=(hnx.alloc hsz _).trans (hbc.mono (by simp;omega)))
      go_roundw
      case rel=>exact⟨j+1,by omega,by go_num,hlow,HST.out HO.out⟩
      case measure=>simp[intOf];omega
     ·have hc':(chk kv nv sv !=0)=true:=by simpa using hc
      have HX:Hid (res=chk kv nv sv):=by
       show res=_
       rw[HE.out,HER.out (fun h=>hc (HOK.out.1 h))]
       unfold FY
       rw[if_neg (by decide),if_neg (by simp),if_pos hc]
      clear hc
      go_wp2_with (go_at_call 156;refine(vl.Bn _ _ _ _ w3a).mono ?_;rintro e wc ⟨rfl,hbc⟩;have hlow:=(hnx.alloc hsz _).trans (hbc.mono (by simp;omega)))
      go_ret
      exact⟨Ad HX.out.symm,hlow⟩
    ·have HX:Hid (res=if tb=false then 5 else 0):=by
      show res=_
      rw[HE.out,Kv r j (by rw[HN.out];omega) HAL.out]
      unfold FY
      rw[if_neg (by decide),if_neg (by simp),if_neg (by simp)]
     go_wp2_with fail
     refine(K3.out _ hnx).mono ?_
     rintro e w3 ⟨rfl,hb3⟩
     have hbc:=hnx.trans (hb3.mono hsz)
     cases tb
     all_goals
      go_wp2
      go_ret
      exact⟨Ad HX.out.symm,hbc⟩
  ·have hnc':((n:Int) !=cn)=true:=by simp;omega
   have HX:Hid (res=2):=by
    show res=2
    rw[HE.out]
    unfold FY
    rw[if_neg (by decide),if_pos hnc]
   clear hnc
   go_wp2
   go_ret
   exact⟨Ad HX.out.symm,hbb⟩
 ·have h0':(pe !=0)=true:=by simpa using h0
  have HX:Hid (res=pe):=by show res=pe;rw[HE.out,if_neg h0]
  clear h0
  go_wp2
  go_ret
  exact⟨Ad HX.out.symm,hba⟩
theorem Wt(h:r.length<=8):Au r=DN r:=by unfold Au;rw[if_neg (by omega)]
theorem I7(p:Pln)(x:PA)(side:Int)(ar:Option Addr)(cr:Nat)(r:List Cel)(w:World)(hw:wfPlan p)(hp:planAt w p x)(hm:Al p=0)(hr:vl.rowAt w ar r)(hwr:BE r)(hlr:r.length<=9223372036854775807):
 Calls Tryz.prog 44 #[Ap p x,.int .i64 side,.slice ar r.length cr] w fun e w'=>e= .returned (.int .i64 (Rj p side r))/\Bwz w w':=by
 have hml:=CX (BW hm).2.2.1
 have K1:=hIz (fun(w1:World) (hb:Bwz w w1)=>vl.Cy ar cr r w1 (Ac hr hb) hwr hlr)
 have K2:=hIz (fun(w1:World) (hb:Bwz w w1)=>Mc ar (cA x side) cr (cC x side) r (Aw p side) w1 hlr (JL hw side) (Ac hr hb) (As (Wr hp side) hb))
 have HE:Hid (Rj p side r=FY (Be side) r.length (Aw p side).length (DN r) (DU r (Aw p side))):=rfl
 have HF:Hid (LH (Aw p side) r=if r.length≠(Aw p side).length then 2 else if DU r (Aw p side)=false then 5 else 0):=rfl
 have HKE:Hid (r.length=(Aw p side).length->Au r=DN r):=fun h=>Wt (by rw[h];unfold Aw;split<;>omega)
 have H2:Hid (side=2->cA x side=x.r/\cC x side=x.rc/\(Aw p side).length=p.right.length):=fun h=>by show cA x side=x.r/\cC x side=x.rc/\_;unfold cA cC Aw;simp only[if_pos h];exact⟨trivial,trivial,trivial⟩
 have H1:Hid (¬side=2->cA x side=x.l/\cC x side=x.lc/\(Aw p side).length=p.left.length):=fun h=>by show cA x side=x.l/\cC x side=x.lc/\_;unfold cA cC Aw;simp only[if_neg h];exact⟨trivial,trivial,trivial⟩
 have hcl:=JL hw side
 obtain⟨res,hres⟩:=nM (Rj p side r)
 obtain⟨ca,hca⟩:=nM (cA x side)
 obtain⟨cc,hcc⟩:=nM (cC x side)
 obtain⟨cn,hcn⟩:=nM ((Aw p side).length)
 obtain⟨tb,htb⟩:=nM (DU r (Aw p side))
 obtain⟨ke,hke⟩:=nM (Au r)
 obtain⟨er,her⟩:=nM (DN r)
 obtain⟨fe,hfe⟩:=nM (LH (Aw p side) r)
 rw[hke]at K1 HKE
 rw[hca,hcc,hcn,hfe]at K2
 rw[hres,hcn,htb,her]at HE
 rw[hfe,hcn,htb]at HF
 rw[her,hcn]at HKE
 rw[hca,hcc,hcn]at H1 H2
 rw[hcn]at hcl
 rw[hres]
 clear hres hca hcc hcn htb hke her hfe hp hw hr hm hml
 obtain⟨n,hn⟩:=nM r.length
 rw[hn]at K1 K2 HE HF HKE hlr⊢
 clear hn hwr
 obtain⟨kind,mode,low,high,size,limit,left,right,lkeys,rkeys,grouped,group,aggs⟩:=p
 obtain⟨l,lc,rr,rc,lk,lkc,rk,rkc,g,gc,a,ac⟩:=x
 unfold Ap
 dsimp only at H1 H2⊢
 obtain⟨n6,h6⟩:∃n,left.length=n:=⟨_,rfl⟩
 obtain⟨n7,h7⟩:∃n,right.length=n:=⟨_,rfl⟩
 rw[h6]at H1⊢
 rw[h7]at H2⊢
 clear h6 h7
 cases hsb:Be side
 ·rw[hsb]at HE
  have hns:¬(side=1\/side=2):=of_decide_eq_false hsb
  have s2:(side==2)=false:=by simp;omega
  have s1:(side !=1)=true:=by simp;omega
  clear hns
  go_enter func44,ntmps44
  go_wp2
  go_ret
  exact⟨Ad (by rw[HE.out];rfl),bR.alloc nR _⟩
 rw[hsb]at HE
 have hsd:side=1\/side=2:=of_decide_eq_true hsb
 rcases hsd with rfl|rfl
 ·obtain⟨rfl,rfl,rfl⟩:=H1.out (by decide)
  clear H1 H2 hsb
  by_cases hnc:n=cn
  ·subst hnc
   have hnc':((n:Int) !=n)=false:=by simp
   have hk:=HKE.out (by trivial)
   subst hk
   clear HKE
   go_enter func44,ntmps44
   go_wp2_with fail
   refine(K1.out _ (bR.alloc nR _)).mono ?_
   rintro e w1 ⟨rfl,hb1⟩
   have hba:=(bR.alloc nR _).trans (hb1.mono (by simp))
   by_cases h0:ke=0
   ·subst h0
    have HX:Hid (res=fe):=by
     show res=fe
     rw[HE.out,HF.out]
     unfold FY
     simp
    go_wp2_with fail
    refine(K2.out _ hba).mono ?_
    rintro e w2 ⟨rfl,hb2⟩
    go_wp2
    go_ret
    exact⟨Ad HX.out.symm,hba.trans (hb2.mono hba.size)⟩
   ·have h0':(ke !=0)=true:=by simpa using h0
    have HX:Hid (res=ke):=by
     show res=ke
     rw[HE.out]
     unfold FY
     rw[if_neg (by decide),if_neg (by simp),if_pos h0]
    clear h0
    go_wp2
    go_ret
    exact⟨Ad HX.out.symm,hba⟩
  ·have hnc':((n:Int) !=cn)=true:=by simp;omega
   have HX:Hid (res=2):=by
    show res=2
    rw[HE.out]
    unfold FY
    rw[if_neg (by decide),if_pos hnc]
   clear hnc
   go_enter func44,ntmps44
   go_wp2
   go_ret
   exact⟨Ad HX.out.symm,bR.alloc nR _⟩
 ·obtain⟨rfl,rfl,rfl⟩:=H2.out rfl
  clear H1 H2 hsb
  by_cases hnc:n=cn
  ·subst hnc
   have hnc':((n:Int) !=n)=false:=by simp
   have hk:=HKE.out (by trivial)
   subst hk
   clear HKE
   go_enter func44,ntmps44
   go_wp2_with fail
   refine(K1.out _ (bR.alloc nR _)).mono ?_
   rintro e w1 ⟨rfl,hb1⟩
   have hba:=(bR.alloc nR _).trans (hb1.mono (by simp))
   by_cases h0:ke=0
   ·subst h0
    have HX:Hid (res=fe):=by
     show res=fe
     rw[HE.out,HF.out]
     unfold FY
     simp
    go_wp2_with fail
    refine(K2.out _ hba).mono ?_
    rintro e w2 ⟨rfl,hb2⟩
    go_wp2
    go_ret
    exact⟨Ad HX.out.symm,hba.trans (hb2.mono hba.size)⟩
   ·have h0':(ke !=0)=true:=by simpa using h0
    have HX:Hid (res=ke):=by
     show res=ke
     rw[HE.out]
     unfold FY
     rw[if_neg (by decide),if_neg (by simp),if_pos h0]
    clear h0
    go_wp2
    go_ret
    exact⟨Ad HX.out.symm,hba⟩
  ·have hnc':((n:Int) !=cn)=true:=by simp;omega
   have HX:Hid (res=2):=by
    show res=2
    rw[HE.out]
    unfold FY
    rw[if_neg (by decide),if_pos hnc]
   clear hnc
   go_enter func44,ntmps44
   go_wp2
   go_ret
   exact⟨Ad HX.out.symm,bR.alloc nR _⟩
end pl
end Go.Proofs.YtdohnkkbkfhphaaGreat
