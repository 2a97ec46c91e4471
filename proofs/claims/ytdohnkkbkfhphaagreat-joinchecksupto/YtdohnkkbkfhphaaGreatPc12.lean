import Derived.Test.YtdohnkkbkfhphaaGreatPc11
import Derived.Lib.AppendZerosOnto
set_option linter.all false
set_option maxHeartbeats 4000000
set_option maxRecDepth 100000
namespace Go.Proofs.YtdohnkkbkfhphaaGreat
open Go.Proofs.Tryz
namespace pl
open Go.ChangeShapes Go.WideShapes Go.ChangeAt Go.RowKit
open vl
variable {w : World} {base n : Nat} {l : List Int}
def Y6(w:World)(a:Option Addr)(l:List (Option Addr×Nat×Nat)):Prop:=
 ∀i,i<l.length->∃b off,a=some ⟨b,off,none⟩/\w.cell? ⟨b,off+i,none⟩=some (.slice (l.getD i (none,0,0)).1 (l.getD i (none,0,0)).2.1 (l.getD i (none,0,0)).2.2)
theorem Ie(fn:FuncId)(eg:∀args w,(callFunc fn args).run Tryz.prog w= .ok (.enter fn args) w)(caps:Array Value)(P:Nat->Bool)(a:Option Addr)(cap:Nat)(l:List (Int×Int))(w:World)(hl:l.length<=9223372036854775807)(ha:DT w a l)
 (H:∀i w1,i<l.length->Bwz w w1->Calls Tryz.prog fn (#[.int .i64 (i:Nat),.agg #[.int .i64 (l.getD i (0,0)).1,.int .i64 (l.getD i (0,0)).2]]++caps) w1 fun e w'=>e= .returned (.bool (P i))/\Bwz w1 w'):
 Calls Tryz.prog 167 #[.slice a l.length cap,.func (.func fn) #[] caps] w fun e w'=>e= .returned (.bool (allB l.length P))/\Bwz w w':=by
 have HH:Hid (∀i w1,i<l.length->Bwz w w1->CTz fn (#[.int .i64 (i:Nat),.agg #[.int .i64 (l.getD i (0,0)).1,.int .i64 (l.getD i (0,0)).2]]++caps) w1 fun e w'=>e= .returned (.bool (P i))/\Bwz w1 w'):=H
 clear H
 obtain⟨n,hn⟩:∃n,l.length=n:=⟨_,rfl⟩
 have HN:Hid (l.length=n):=hn
 rw[hn]at hl⊢
 clear hn
 go_enter func167,ntmps167
 go_wp2
 go_loopw [9] (fun i wr=> ∃k:Nat,k<=n/\i= .int .i64 k/\Bwz w wr/\∀i,i<k->P i=true) (fun i _=>n - (intOf i).toNat)
 case atStart=>exact⟨0,Nat.zero_le _,rfl,bR,fun i hi=>absurd hi (Nat.not_lt_zero i)⟩
 case round=>
  obtain⟨k,hk,rfl,hnx,hall⟩:=hrel
  have HA:Hid (∀i,i<k->P i=true):=hall
  clear hall
  by_cases hlt:k<n
  ·obtain⟨b,o,e,x1,x2⟩:=ha k (by rw[HN.out];exact hlt)
   subst e
   have q1:=cLz hnx x1
   have q2:=cLz hnx x2
   clear x1 x2 ha
   have i1:(0:Int)<=(k:Int):=by omega
   have i2:(k:Int)<(n:Int):=by omega
   have KK:Hid (∀w1,Bwz wr w1->CTz fn (#[.int .i64 (k:Nat),.agg #[.int .i64 (l.getD k (0,0)).1,.int .i64 (l.getD k (0,0)).2]]++caps) w1 fun e w'=>e= .returned (.bool (P k))/\Bwz w1 w'):=fun w1 hb=>HH.out k w1 (by rw[HN.out];exact hlt) (hnx.trans (hb.mono hnx.size))
   obtain⟨⟨z1,z2⟩,hz⟩:∃z,l.getD k (0,0)=z:=⟨_,rfl⟩
   rw[hz]at q1 q2 KK
   dsimp only at q1 q2 KK
   clear hz
   have hsz:=hnx.size
   cases hp:P k with
   |true=>
    rw[hp]at KK
    go_wp2_with (go_at_fn fn;refine(KK.out _ (bR.alloc nR _)).mono ?_;rintro e w1 ⟨rfl,hb1⟩;have hbx:=(hnx.alloc hsz _).trans (hb1.mono (by simp;omega)))
    go_roundw
    case rel=>exact⟨k+1,by omega,by go_num,hbx,fun i hi=>by
     rcases Nat.lt_succ_iff_lt_or_eq.1 hi with h|h
     ·exact HA.out i h
     ·rw[h];exact hp⟩
    case measure=>simp[intOf];omega
   |false=>
    have HE:Hid (allB n P=false):=Dc hlt hp
    rw[hp]at KK
    go_wp2_with (go_at_fn fn;refine(KK.out _ (bR.alloc nR _)).mono ?_;rintro e w1 ⟨rfl,hb1⟩;have hbx:=(hnx.alloc hsz _).trans (hb1.mono (by simp;omega)))
    go_ret
    exact⟨Aa HE.out.symm,hbx⟩
  ·have HE:Hid (allB n P=true):=A9.2 (fun i hi=>HA.out i (by omega))
   go_wp2
   go_ret
   exact⟨Aa HE.out.symm,hnx⟩
theorem Ni(fn:FuncId)(eg:∀args w,(callFunc fn args).run Tryz.prog w= .ok (.enter fn args) w)(caps:Array Value)(P:Nat->Bool)(a:Option Addr)(cap:Nat)(l:List (Option Addr×Nat×Nat))(w:World)(hl:l.length<=9223372036854775807)(ha:Y6 w a l)
 (H:∀i w1,i<l.length->Bwz w w1->Calls Tryz.prog fn (#[.int .i64 (i:Nat),.slice (l.getD i (none,0,0)).1 (l.getD i (none,0,0)).2.1 (l.getD i (none,0,0)).2.2]++caps) w1 fun e w'=>e= .returned (.bool (P i))/\Bwz w1 w'):
 Calls Tryz.prog 121 #[.slice a l.length cap,.func (.func fn) #[] caps] w fun e w'=>e= .returned (.bool (allB l.length P))/\Bwz w w':=by
 have HH:Hid (∀i w1,i<l.length->Bwz w w1->CTz fn (#[.int .i64 (i:Nat),.slice (l.getD i (none,0,0)).1 (l.getD i (none,0,0)).2.1 (l.getD i (none,0,0)).2.2]++caps) w1 fun e w'=>e= .returned (.bool (P i))/\Bwz w1 w'):=H
 clear H
 obtain⟨n,hn⟩:∃n,l.length=n:=⟨_,rfl⟩
 have HN:Hid (l.length=n):=hn
 rw[hn]at hl⊢
 clear hn
 go_enter func121,ntmps121
 go_wp2
 go_loopw [9] (fun i wr=> ∃k:Nat,k<=n/\i= .int .i64 k/\Bwz w wr/\∀i,i<k->P i=true) (fun i _=>n - (intOf i).toNat)
 case atStart=>exact⟨0,Nat.zero_le _,rfl,bR,fun i hi=>absurd hi (Nat.not_lt_zero i)⟩
 case round=>
  obtain⟨k,hk,rfl,hnx,hall⟩:=hrel
  have HA:Hid (∀i,i<k->P i=true):=hall
  clear hall
  by_cases hlt:k<n
  ·obtain⟨b,o,e,x1⟩:=ha k (by rw[HN.out];exact hlt)
   subst e
   have q1:=cLz hnx x1
   clear x1 ha
   have i1:(0:Int)<=(k:Int):=by omega
   have i2:(k:Int)<(n:Int):=by omega
   have KK:Hid (CTz fn (#[.int .i64 (k:Nat),.slice (l.getD k (none,0,0)).1 (l.getD k (none,0,0)).2.1 (l.getD k (none,0,0)).2.2]++caps) wr fun e w'=>e= .returned (.bool (P k))/\Bwz wr w'):=HH.out k wr (by rw[HN.out];exact hlt) hnx
   obtain⟨⟨z1,z2,z3⟩,hz⟩:∃z,l.getD k (none,0,0)=z:=⟨_,rfl⟩
   rw[hz]at q1 KK
   dsimp only at q1 KK
   clear hz
   have hsz:=hnx.size
   cases hp:P k with
   |true=>
    rw[hp]at KK
    go_wp2_with (go_at_fn fn;refine KK.out.mono ?_;rintro e w1 ⟨rfl,hb1⟩)
    go_roundw
    case rel=>exact⟨k+1,by omega,by go_num,hnx.trans (hb1.mono hsz),fun i hi=>by
     rcases Nat.lt_succ_iff_lt_or_eq.1 hi with h|h
     ·exact HA.out i h
     ·rw[h];exact hp⟩
    case measure=>simp[intOf];omega
   |false=>
    have HE:Hid (allB n P=false):=Dc hlt hp
    rw[hp]at KK
    go_wp2_with (go_at_fn fn;refine KK.out.mono ?_;rintro e w1 ⟨rfl,hb1⟩)
    go_ret
    exact⟨Aa HE.out.symm,hnx.trans (hb1.mono hsz)⟩
  ·have HE:Hid (allB n P=true):=A9.2 (fun i hi=>HA.out i (by omega))
   go_wp2
   go_ret
   exact⟨Aa HE.out.symm,hnx⟩
theorem Nj(fn:FuncId)(eg:∀args w,(callFunc fn args).run Tryz.prog w= .ok (.enter fn args) w)(caps:Array Value)(P:Nat->Bool)(a:Option Addr)(cap:Nat)(l:List Cel)(w:World)(hl:l.length<=9223372036854775807)(ha:vl.rowAt w a l)
 (H:∀i w1,i<l.length->Bwz w w1->Calls Tryz.prog fn (#[.int .i64 (i:Nat),(l.getD i default).val]++caps) w1 fun e w'=>e= .returned (.bool (P i))/\Bwz w1 w'):
 Calls Tryz.prog 191 #[.slice a l.length cap,.func (.func fn) #[] caps] w fun e w'=>e= .returned (.bool (allB l.length P))/\Bwz w w':=by
 have HH:Hid (∀i w1,i<l.length->Bwz w w1->CTz fn (#[.int .i64 (i:Nat),(l.getD i default).val]++caps) w1 fun e w'=>e= .returned (.bool (P i))/\Bwz w1 w'):=H
 clear H
 obtain⟨n,hn⟩:∃n,l.length=n:=⟨_,rfl⟩
 have HN:Hid (l.length=n):=hn
 rw[hn]at hl⊢
 clear hn
 go_enter func191,ntmps191
 go_wp2
 go_loopw [9] (fun i wr=> ∃k:Nat,k<=n/\i= .int .i64 k/\Bwz w wr/\∀i,i<k->P i=true) (fun i _=>n - (intOf i).toNat)
 case atStart=>exact⟨0,Nat.zero_le _,rfl,bR,fun i hi=>absurd hi (Nat.not_lt_zero i)⟩
 case round=>
  obtain⟨k,hk,rfl,hnx,hall⟩:=hrel
  have HA:Hid (∀i,i<k->P i=true):=hall
  clear hall
  by_cases hlt:k<n
  ·obtain⟨b,o,e,x1,x2,x3⟩:=ha k (by rw[HN.out];exact hlt)
   subst e
   have q1:=cLz hnx x1
   have q2:=cLz hnx x2
   have q3:=cLz hnx x3
   clear x1 x2 x3 ha
   have i1:(0:Int)<=(k:Int):=by omega
   have i2:(k:Int)<(n:Int):=by omega
   have KK:Hid (∀w1,Bwz wr w1->CTz fn (#[.int .i64 (k:Nat),(l.getD k default).val]++caps) w1 fun e w'=>e= .returned (.bool (P k))/\Bwz w1 w'):=fun w1 hb=>HH.out k w1 (by rw[HN.out];exact hlt) (hnx.trans (hb.mono hnx.size))
   obtain⟨⟨ka,na,sa⟩,hz⟩:∃z,l.getD k default=z:=⟨_,rfl⟩
   rw[hz]at q1 q2 q3 KK
   dsimp only at q1 q2 q3 KK
   clear hz
   unfold Cel.val at KK
   dsimp only at KK
   have hsz:=hnx.size
   cases hp:P k with
   |true=>
    rw[hp]at KK
    go_wp2_with (go_at_fn fn;refine(KK.out _ (bR.alloc nR _)).mono ?_;rintro e w1 ⟨rfl,hb1⟩;have hbx:=(hnx.alloc hsz _).trans (hb1.mono (by simp;omega)))
    go_roundw
    case rel=>exact⟨k+1,by omega,by go_num,hbx,fun i hi=>by
     rcases Nat.lt_succ_iff_lt_or_eq.1 hi with h|h
     ·exact HA.out i h
     ·rw[h];exact hp⟩
    case measure=>simp[intOf];omega
   |false=>
    have HE:Hid (allB n P=false):=Dc hlt hp
    rw[hp]at KK
    go_wp2_with (go_at_fn fn;refine(KK.out _ (bR.alloc nR _)).mono ?_;rintro e w1 ⟨rfl,hb1⟩;have hbx:=(hnx.alloc hsz _).trans (hb1.mono (by simp;omega)))
    go_ret
    exact⟨Aa HE.out.symm,hbx⟩
  ·have HE:Hid (allB n P=true):=A9.2 (fun i hi=>HA.out i (by omega))
   go_wp2
   go_ret
   exact⟨Aa HE.out.symm,hnx⟩
theorem CY{a:Bool}{q:Prop} [Decidable q](h:a=true↔q):a=decide q:=by
 by_cases hq:q
 ·rw[decide_eq_true hq];exact h.2 hq
 ·rw[decide_eq_false hq]
  cases a with
  |false=>rfl
  |true=>exact absurd (h.1 rfl) hq
theorem C2{W w1:World}(hb:Bwz W w1):(∀b o,b<W.heap.size->w1.cell? ⟨b,o,none⟩=W.cell? ⟨b,o,none⟩)/\(∀b o,b<W.heap.size->w1.frozen? ⟨b,o,none⟩=W.frozen? ⟨b,o,none⟩):=
 ⟨fun b o h=>hb.cell (p:=⟨b,o,none⟩) h,fun b o h=>hb.frozen (p:=⟨b,o,none⟩) h⟩
def GB(l:List (Int×Int)):Bool:=allB l.length (fun i=>Az (l.getD i (0,0)).1 1 4)
theorem C3{α:Type}{l:List α}{d:α}{i:Nat}(h:i<l.length):l.getD i d∈l:=by simp[gDe,h]
theorem D6{α:Type}{l:List α}{d:α}{Q:α->Prop}:(∀i,i<l.length->Q (l.getD i d))↔ ∀x∈l,Q x:=by
 constructor
 ·intro h x hx
  obtain⟨i,hi,rfl⟩:=List.getElem_of_mem hx
  have:=h i hi
  simpa[gDe,hi]using this
 ·intro h i hi
  exact h _ (C3 hi)
theorem Oz(l:List (Int×Int)):GB l=true↔ ∀a∈l,1<=a.1/\a.1<=4:=by
 unfold GB
 rw[A9]
 simp only[AJ]
 exact D6 (Q:=fun a:Int×Int=>1<=a.1/\a.1<=4)
theorem UT(i:Int)(f c:Int)(w:World):
 Calls Tryz.prog 168 #[.int .i64 i,.agg #[.int .i64 f,.int .i64 c]] w fun e w'=>e= .returned (.bool (Az f 1 4))/\Bwz w w':=by
 go_enter func168,ntmps168
 go_wp2_with (go_at_call 117;refine(BK _ _ _ _).mono ?_;rintro e w' ⟨rfl,hw⟩;subst hw)
 go_ret
 exact⟨rfl,bR.alloc nR _⟩
theorem O0(a:Option Addr)(cap:Nat)(l:List (Int×Int))(w:World)(hl:l.length<=9223372036854775807)(ha:DT w a l):
 Calls Tryz.prog 118 #[.slice a l.length cap] w fun e w'=>e= .returned (.bool (GB l))/\Bwz w w':=by
 have H:=Ie 168 (enters_of func168 (by kernel_rfl) rfl) #[] (fun i=>Az (l.getD i (0,0)).1 1 4) a cap l w hl ha (fun i w1 _ _=>UT i _ _ w1)
 obtain⟨n,hn⟩:∃n,l.length=n:=⟨_,rfl⟩
 have HB:Hid (GB l=allB n (fun i=>Az (l.getD i (0,0)).1 1 4)):=by show GB l=_;unfold GB;rw[hn]
 rw[hn]at H⊢
 clear hn
 go_enter func118,ntmps118
 go_wp2_with (go_at_call 167;refine H.mono ?_;rintro e w1 ⟨rfl,hb1⟩)
 go_ret
 exact⟨Aa HB.out.symm,hb1⟩
theorem K9(p:Pln)(x:PA)(w:World)(hp:planAt w p x)(hw:wfPlan p):
 Calls Tryz.prog 60 #[Ap p x] w fun e w'=>e= .returned (.bool (decide (Ba p)))/\Bwz w w':=by
 have HF:=hIz (fun(w1:World) (hb:Bwz w w1)=>O0 x.a x.ac p.aggs w1 hw.a (CR hp.a hb))
 have HK:Hid (decide (Ba p)=(Az p.kind 1 3&&Az p.mode 1 (if p.kind=3 then 2 else 4)&&(!p.grouped||GB p.aggs))):=by
  refine(CY ?_).symm
  simp only[Bool.and_eq_true,Bool.or_eq_true,AJ,Oz,Ba,Bool.not_eq_true',and_assoc]
  cases p.grouped<;>simp
 obtain⟨kind,mode,low,high,size,limit,left,right,lkeys,rkeys,grouped,group,aggs⟩:=p
 obtain⟨l,lc,r,rc,lk,lkc,rk,rkc,g,gc,a,ac⟩:=x
 unfold Ap
 dsimp only at HF HK⊢
 clear hp hw
 obtain⟨n6,h6⟩:∃n,left.length=n:=⟨_,rfl⟩
 obtain⟨n7,h7⟩:∃n,right.length=n:=⟨_,rfl⟩
 obtain⟨n8,h8⟩:∃n,lkeys.length=n:=⟨_,rfl⟩
 obtain⟨n9,h9⟩:∃n,rkeys.length=n:=⟨_,rfl⟩
 obtain⟨n11,h11⟩:∃n,group.length=n:=⟨_,rfl⟩
 obtain⟨n12,h12⟩:∃n,aggs.length=n:=⟨_,rfl⟩
 rw[h12]at HF
 rw[h6,h7,h8,h9,h11,h12]
 clear h6 h7 h8 h9 h11 h12
 obtain⟨fb,hfb⟩:=nM (GB aggs)
 rw[hfb]at HF HK
 clear hfb
 by_cases hk:kind=3
 ·subst hk
  have HK2:Hid (decide (Ba ⟨3,mode,low,high,size,limit,left,right,lkeys,rkeys,grouped,group,aggs⟩)=(true&&Az mode 1 2&&(!grouped||fb))):=HK.out
  clear HK
  have b0:Az 3 1 3=true:=by decide
  cases hb:Az mode 1 2<;>rw[hb]at HK2<;>cases grouped<;>cases fb
  all_goals
   go_enter func60,ntmps60
   go_wp2_with (first
    |(go_at_call 117;refine(BK _ _ _ _).mono ?_;rintro e w' ⟨rfl,hw⟩;subst hw)
    |(go_at_call 118;refine(HF.out _ (bR.alloc nR _)).mono ?_;rintro e w1 ⟨rfl,hb1⟩))
   go_ret
   refine⟨Aa HK2.out.symm,?_⟩
   first
    |exact(bR.alloc nR _).trans (hb1.mono (by simp))
    |exact bR.alloc nR _
 ·have hk3:(kind==3)=false:=by simpa using hk
  rw[if_neg hk]at HK
  clear hk
  cases h0:Az kind 1 3<;>rw[h0]at HK<;>cases hb:Az mode 1 4<;>rw[hb]at HK<;>cases grouped<;>cases fb
  all_goals
   go_enter func60,ntmps60
   go_wp2_with (first
    |(go_at_call 117;refine(BK _ _ _ _).mono ?_;rintro e w' ⟨rfl,hw⟩;subst hw)
    |(go_at_call 118;refine(HF.out _ (bR.alloc nR _)).mono ?_;rintro e w1 ⟨rfl,hb1⟩))
   go_ret
   refine⟨Aa HK.out.symm,?_⟩
   first
    |exact(bR.alloc nR _).trans (hb1.mono (by simp))
    |exact bR.alloc nR _
def Jm(p:Pln):Bool:=if p.kind=1 then tm.Bb p.low&&tm.Bb p.high else decide (p.low=0)&&decide (p.high=0)
def Jo(p:Pln):Bool:=if p.kind=2 then Az p.size 1 1099511627776 else decide (p.size=0)
theorem KT(p:Pln):decide (Bi p)=(Jm p&&Jo p&&Az p.limit 1 64):=by
 refine(CY ?_).symm
 unfold Bi Jm Jo
 simp only[Bool.and_eq_true,AJ,and_assoc]
 refine and_congr ?_ (and_congr ?_ Iff.rfl)
 ·split
  ·simp only[Bool.and_eq_true,tm.Ij,fit]
  ·simp
 ·split
  ·simp only[AJ]
  ·simp
theorem LN(p:Pln)(x:PA)(w:World):
 Calls Tryz.prog 119 #[Ap p x] w fun e w'=>e= .returned (.bool (Jm p))/\Bwz w w':=by
 have HS:Hid (Jm p=if p.kind=1 then tm.Bb p.low&&tm.Bb p.high else decide (p.low=0)&&decide (p.high=0)):=rfl
 obtain⟨kind,mode,low,high,size,limit,left,right,lkeys,rkeys,grouped,group,aggs⟩:=p
 obtain⟨l,lc,r,rc,lk,lkc,rk,rkc,g,gc,a,ac⟩:=x
 unfold Ap
 dsimp only at HS⊢
 by_cases hk:kind=1
 ·subst hk
  rw[if_pos rfl]at HS
  cases h0:tm.Bb low<;>rw[h0]at HS
  all_goals
   go_enter func119,ntmps119
   go_wp2_with (go_at_call 88;refine(tm.Cr _ _).mono ?_;rintro e w' ⟨rfl,hw⟩;subst hw)
   go_ret
   exact⟨Aa (by rw[HS.out];rfl),bR.alloc nR _⟩
 ·have hk3:(kind==1)=false:=by simpa using hk
  rw[if_neg hk]at HS
  clear hk
  by_cases h0:low=0
  ·subst h0
   go_enter func119,ntmps119
   go_wp2
   go_ret
   exact⟨Aa (by rw[HS.out];exact Bool.eq_iff_iff.2 (by simp)),bR.alloc nR _⟩
  ·have hb:(low==0)=false:=by simpa using h0
   rw[decide_eq_false h0]at HS
   clear h0
   go_enter func119,ntmps119
   go_wp2
   go_ret
   exact⟨Aa (by rw[HS.out];rfl),bR.alloc nR _⟩
theorem LO(p:Pln)(x:PA)(w:World):
 Calls Tryz.prog 120 #[Ap p x] w fun e w'=>e= .returned (.bool (Jo p))/\Bwz w w':=by
 have HS:Hid (Jo p=if p.kind=2 then Az p.size 1 1099511627776 else decide (p.size=0)):=rfl
 obtain⟨kind,mode,low,high,size,limit,left,right,lkeys,rkeys,grouped,group,aggs⟩:=p
 obtain⟨l,lc,r,rc,lk,lkc,rk,rkc,g,gc,a,ac⟩:=x
 unfold Ap
 dsimp only at HS⊢
 by_cases hk:kind=2
 ·subst hk
  rw[if_pos rfl]at HS
  go_enter func120,ntmps120
  go_wp2_with (go_at_call 117;refine(BK _ _ _ _).mono ?_;rintro e w' ⟨rfl,hw⟩;subst hw)
  go_ret
  exact⟨Aa HS.out.symm,bR.alloc nR _⟩
 ·have hk3:(kind==2)=false:=by simpa using hk
  rw[if_neg hk]at HS
  clear hk
  go_enter func120,ntmps120
  go_wp2
  go_ret
  exact⟨Aa (by rw[HS.out];exact Bool.eq_iff_iff.2 (by simp)),bR.alloc nR _⟩
theorem Eb(p:Pln)(x:PA)(w:World):
 Calls Tryz.prog 61 #[Ap p x] w fun e w'=>e= .returned (.bool (decide (Bi p)))/\Bwz w w':=by
 have K1:=hIz (fun(w1:World)=>LN p x w1)
 have K2:=hIz (fun(w1:World)=>LO p x w1)
 have HK:Hid (decide (Bi p)=(Jm p&&Jo p&&Az p.limit 1 64)):=KT p
 obtain⟨b1,h1⟩:=nM (Jm p)
 obtain⟨b2,h2⟩:=nM (Jo p)
 rw[h1]at K1 HK
 rw[h2]at K2 HK
 clear h1 h2
 obtain⟨kind,mode,low,high,size,limit,left,right,lkeys,rkeys,grouped,group,aggs⟩:=p
 obtain⟨l,lc,r,rc,lk,lkc,rk,rkc,g,gc,a,ac⟩:=x
 unfold Ap at K1 K2⊢
 dsimp only at K1 K2 HK⊢
 cases b1<;>cases b2
 all_goals
  go_enter func61,ntmps61
  go_wp2_with (first
   |(go_at_call 119;refine(K1.out _).mono ?_;rintro e w1 ⟨rfl,hb1⟩;have hba:=(bR.alloc nR _).trans (hb1.mono (by simp));obtain⟨hc1,hf1⟩:=C2 hb1)
   |(go_at_call 120;refine(K2.out _).mono ?_;rintro e w2 ⟨rfl,hb2⟩;have hbb:=hba.trans (hb2.mono hba.size);obtain⟨hc2,hf2⟩:=C2 hb2;have hz:w.heap.size<w1.heap.size:=by have:=hb1.size;simp at this;omega)
   |(go_at_call 117;refine(BK _ _ _ _).mono ?_;rintro e w' ⟨rfl,hw⟩;subst hw))
  go_ret
  refine⟨Aa (by rw[HK.out];simp),?_⟩
  first
   |exact hbb
   |exact hba
theorem UU(i:Int)(a:Option Addr)(n c:Nat)(w:World):
 Calls Tryz.prog 122 #[.int .i64 i,.slice a n c] w fun e w'=>e= .returned (.bool (Az n 1 4))/\Bwz w w':=by
 go_enter func122,ntmps122
 go_wp2_with (go_at_call 117;refine(BK _ _ _ _).mono ?_;rintro e w' ⟨rfl,hw⟩;subst hw)
 go_ret
 exact⟨rfl,bR⟩
def GR(a b c d:Nat):Bool:=Az a 1 4&&(Az b 1 4&&(Az c 1 4&&Az d 1 4))
theorem Y7(g:Nat)(h0 h1 h2 h3:Option Addr×Nat×Nat)(w:World)
 (e0:w.cell? ⟨g,0,none⟩=some (.slice h0.1 h0.2.1 h0.2.2)) (e1:w.cell? ⟨g,1,none⟩=some (.slice h1.1 h1.2.1 h1.2.2)) (e2:w.cell? ⟨g,2,none⟩=some (.slice h2.1 h2.2.1 h2.2.2)) (e3:w.cell? ⟨g,3,none⟩=some (.slice h3.1 h3.2.1 h3.2.2)):
 Calls Tryz.prog 121 #[.slice (some ⟨g,0,none⟩) 4 4,.func (.func 122) #[] #[]] w fun e w'=>e= .returned (.bool (GR h0.2.1 h1.2.1 h2.2.1 h3.2.1))/\Bwz w w':=by
 have H:=Ni 122 (enters_of func122 (by kernel_rfl) rfl) #[] (fun i=>Az (([h0,h1,h2,h3]:List (Option Addr×Nat×Nat)).getD i (none,0,0)).2.1 1 4) (some ⟨g,0,none⟩) 4 [h0,h1,h2,h3] w (by simp)
  (fun i hi=>by
   match i,hi with
   |0,_=>exact⟨g,0,rfl,e0⟩
   |1,_=>exact⟨g,0,rfl,e1⟩
   |2,_=>exact⟨g,0,rfl,e2⟩
   |3,_=>exact⟨g,0,rfl,e3⟩) (fun i w1 _ _=>UU i _ _ _ w1)
 refine H.mono fun e w' ⟨he,hb⟩=>⟨he.trans (Aa ?_),hb⟩
 simp[allB,List.range,List.range.loop,GR]
def IR(p:Pln):Bool:=if p.grouped=true then Az p.aggs.length 1 4&&decide ((p.group.length:Int)<=8 - p.aggs.length)else decide (p.group.length=0)&&decide (p.aggs.length=0)
theorem O1(p:Pln):decide (BG p)=(GR p.left.length p.right.length p.lkeys.length p.rkeys.length&&IR p):=by
 refine(CY ?_).symm
 unfold BG GR IR I6
 simp only[Bool.and_eq_true,AJ]
 refine and_congr ?_ ?_
 ·omega
 ·split
  ·simp only[Bool.and_eq_true,AJ,decide_eq_true_eq];omega
  ·simp
theorem Ec(p:Pln)(x:PA)(w:World)(hw:wfPlan p):
 Calls Tryz.prog 62 #[Ap p x] w fun e w'=>e= .returned (.bool (decide (BG p)))/\Bwz w w':=by
 have HK:Hid (decide (BG p)=(GR p.left.length p.right.length p.lkeys.length p.rkeys.length&&IR p)):=O1 p
 have HG:Hid (IR p=if p.grouped=true then Az p.aggs.length 1 4&&decide ((p.group.length:Int)<=8 - p.aggs.length)else decide (p.group.length=0)&&decide (p.aggs.length=0)):=rfl
 have l11:=hw.g
 have l12:=hw.a
 rw[HG.out]at HK
 obtain⟨kind,mode,low,high,size,limit,left,right,lkeys,rkeys,grouped,group,aggs⟩:=p
 obtain⟨l,lc,r,rc,lk,lkc,rk,rkc,g,gc,a,ac⟩:=x
 unfold Ap
 dsimp only at HK l11 l12⊢
 clear HG hw
 obtain⟨n6,h6⟩:∃n,left.length=n:=⟨_,rfl⟩
 obtain⟨n7,h7⟩:∃n,right.length=n:=⟨_,rfl⟩
 obtain⟨n8,h8⟩:∃n,lkeys.length=n:=⟨_,rfl⟩
 obtain⟨n9,h9⟩:∃n,rkeys.length=n:=⟨_,rfl⟩
 obtain⟨n11,h11⟩:∃n,group.length=n:=⟨_,rfl⟩
 obtain⟨n12,h12⟩:∃n,aggs.length=n:=⟨_,rfl⟩
 rw[h11]at l11
 rw[h12]at l12
 rw[h6,h7,h8,h9,h11,h12]at HK
 rw[h6,h7,h8,h9,h11,h12]
 clear h6 h7 h8 h9 h11 h12
 have HE:Hid (∀(g0:Nat) (w1:World),w1.cell? ⟨g0,0,none⟩=some (.slice l n6 lc)->w1.cell? ⟨g0,1,none⟩=some (.slice r n7 rc)->w1.cell? ⟨g0,2,none⟩=some (.slice lk n8 lkc)->w1.cell? ⟨g0,3,none⟩=some (.slice rk n9 rkc)->
  Calls Tryz.prog 121 #[.slice (some ⟨g0,0,none⟩) 4 4,.func (.func 122) #[] #[]] w1 fun e w'=>e= .returned (.bool (GR n6 n7 n8 n9))/\Bwz w1 w'):=
  fun g0 w1 e0 e1 e2 e3=>Y7 g0 (l,n6,lc) (r,n7,rc) (lk,n8,lkc) (rk,n9,rkc) w1 e0 e1 e2 e3
 obtain⟨sb,hsb⟩:=nM (GR n6 n7 n8 n9)
 rw[hsb]at HE HK
 clear hsb
 cases sb
 ·cases grouped
  all_goals
   go_enter func62,ntmps62
   go_wp2_with (first
    |(go_at_call 121;refine(HE.out _ _ (by go_simp) (by go_simp) (by go_simp) (by go_simp)).mono ?_;rintro e w1 ⟨rfl,hb1⟩;have hba:=((bR.alloc nR _).alloc (by simp) _).trans (hb1.mono (by simp;omega));obtain⟨hc1,hf1⟩:=C2 hb1))
   go_ret
   exact⟨Aa (by rw[HK.out];simp),hba⟩
 ·cases grouped
  ·rw[if_neg (by decide)]at HK
   by_cases h0:n11=0
   ·subst h0
    go_enter func62,ntmps62
    go_wp2_with (first
     |(go_at_call 121;refine(HE.out _ _ (by go_simp) (by go_simp) (by go_simp) (by go_simp)).mono ?_;rintro e w1 ⟨rfl,hb1⟩;have hba:=((bR.alloc nR _).alloc (by simp) _).trans (hb1.mono (by simp;omega));obtain⟨hc1,hf1⟩:=C2 hb1))
    go_ret
    exact⟨Aa (by rw[HK.out];exact Bool.eq_iff_iff.2 (by simp)),hba⟩
   ·have hn0:((n11:Int)==0)=false:=by simpa using h0
    rw[decide_eq_false h0]at HK
    clear h0
    go_enter func62,ntmps62
    go_wp2_with (first
     |(go_at_call 121;refine(HE.out _ _ (by go_simp) (by go_simp) (by go_simp) (by go_simp)).mono ?_;rintro e w1 ⟨rfl,hb1⟩;have hba:=((bR.alloc nR _).alloc (by simp) _).trans (hb1.mono (by simp;omega));obtain⟨hc1,hf1⟩:=C2 hb1))
    go_ret
    exact⟨Aa (by rw[HK.out];rfl),hba⟩
  ·rw[if_pos rfl]at HK
   obtain⟨ab,hab⟩:=nM (Az n12 1 4)
   rw[hab]at HK
   cases ab
   ·go_enter func62,ntmps62
    go_wp2_with (first
     |(go_at_call 121;refine(HE.out _ _ (by go_simp) (by go_simp) (by go_simp) (by go_simp)).mono ?_;rintro e w1 ⟨rfl,hb1⟩;have hba:=((bR.alloc nR _).alloc (by simp) _).trans (hb1.mono (by simp;omega));obtain⟨hc1,hf1⟩:=C2 hb1)
     |(go_at_call 117;refine(BK _ _ _ _).mono ?_;rintro e w' ⟨rfl,hw⟩;subst hw))
    go_ret
    exact⟨Aa (by rw[HK.out];rfl),hba⟩
   ·have hn12:=(AJ _ _ _).1 hab
    obtain⟨u1,u2⟩:=hn12
    go_enter func62,ntmps62
    go_wp2_with (first
     |(go_at_call 121;refine(HE.out _ _ (by go_simp) (by go_simp) (by go_simp) (by go_simp)).mono ?_;rintro e w1 ⟨rfl,hb1⟩;have hba:=((bR.alloc nR _).alloc (by simp) _).trans (hb1.mono (by simp;omega));obtain⟨hc1,hf1⟩:=C2 hb1)
     |(go_at_call 117;refine(BK _ _ _ _).mono ?_;rintro e w' ⟨rfl,hw⟩;subst hw))
    go_ret
    exact⟨Aa (by rw[HK.out];simp),hba⟩
theorem Tryz.info3:(Tryz.prog.info? 3).map (fun i=>(i.zero,i.size,i.bytes))=some (some (.int .i64 0),1,8):=by kernel_rfl
def EA(n:Int):Value:=.int .i64 n
def Dh(w:World)(base:Nat)(v:Value)(l:List Int):Prop:=w.ownsRow base 3 1 v l.length (l.map EA)
theorem RG(b off j:Nat):(⟨b,off,none⟩:Addr).add j=⟨b,off+j,none⟩:=by unfold Addr.add;split<;>simp_all
theorem BU{e:TypeId}{size:Nat}{v:Value}{xs:List Value}(h:w.ownsRow base e size v n xs):∃ad cap,v= .slice ad n cap/\(0<n->∃g,ad=some ⟨g,0,none⟩):=by
 rcases h.2 with⟨rfl,h0⟩|⟨g,cap,cur,rfl,_⟩
 ·exact⟨none,0,by rw[h0],fun h=>absurd h0 (by omega)⟩
 ·exact⟨_,_,rfl,fun _=>⟨g,rfl⟩⟩
theorem JD{ad:Option Addr}{cap:Nat}(h:Dh w base (.slice ad n cap) l):A2 w ad l/\n=l.length:=by
 obtain⟨ad',cap',hv,hg⟩:=BU h
 injection hv with ha hn hc
 subst ha hc
 refine⟨fun i hi=>?_,hn⟩
 obtain⟨g,rfl⟩:=hg (by omega)
 have hc:=World.ownsRow.cells h (g:=g) rfl i (EA (l.getD i 0)) (by simp[List.getElem?_map,gDe,hi])
 rw[RG]at hc
 exact⟨g,0,rfl,hc⟩
theorem GG(v:Value)(h:v.cells.size=1)(n:Nat):(Builtin.zeroCells v.cells n).size=n:=by
 simp[Builtin.zeroCells,h]
theorem UV(n:Nat)(w:World)(hn:n<=1000):
 Calls Tryz.prog 207 #[.slice none 0 0,.int .i64 n] w fun e w'=>(∃v,e= .returned v/\Dh w' w.heap.size v [])/\Bwz w w':=by
 obtain⟨i0,hi,hz0,hz1,hz2⟩:=info_parts Tryz.info3
 by_cases h0:n=0
 ·subst h0
  go_enter func207,ntmps207
  go_wp2
  go_ret
  exact⟨⟨_,rfl,World.ownsRow_nil _ _ _ _⟩,bR⟩
 ·have hrz:∀ty,(Builtin.append_ #[22,3] ty #[.slice none 0 0,.int .i64 (n:Int)]).run Tryz.prog w=
   .ok (.slice (some ⟨w.heap.size,0,none⟩) n (grownCap w n 0 3)) (w.drew.alloc (.cells (Builtin.zeroCells (Value.int .i64 0).cells n++Builtin.zeroCells (Value.int .i64 0).cells (grownCap w n 0 3 - n)) 3)):=fun ty=>by
   have h:=Lib.run_append_grow_zeros w 22 3 ty 3 i0 (.int .i64 0) .i64 .i64 underlying22 underlying3 hi hz0 none 0 0 [] (run_firstCells_none w.drew i0.size 0 0 0) n (by omega) (by omega) (by omega) (by omega) (by rw[hz2];omega) (growslice_fits (by omega) (by rw[hz2];omega))
   simpa using h
  have hG1:n<=grownCap w n 0 3:=grownCap_ge w _ _ _
  have hG2:grownCap w n 0 3<=maxLen:=grownCap_le_maxLen w n 0 3 (by unfold maxLen;omega)
  obtain⟨G,hG⟩:∃G,G=grownCap w n 0 3:=⟨_,rfl⟩
  rw[<-hG]at hrz hG1 hG2
  have hsz:(Builtin.zeroCells (Value.int .i64 0).cells n++Builtin.zeroCells (Value.int .i64 0).cells (G - n)).size=G * 1:=by
   rw[Array.size_append,GG _ rfl,GG _ rfl];omega
  obtain⟨cur,hcur⟩:∃c,Builtin.zeroCells (Value.int .i64 0).cells n++Builtin.zeroCells (Value.int .i64 0).cells (G - n)=c:=⟨_,rfl⟩
  rw[hcur]at hrz hsz
  have HO:Hid (Dh (w.drew.alloc (.cells cur 3)) w.heap.size (.slice (some ⟨w.heap.size,0,none⟩) 0 G) []):=World.ownsRow_made (base:=w.heap.size) (e:=3) (size:=1) w.drew cur G nR hG2 hsz
  have hp:0<(n:Int):=by omega
  unfold maxLen at hG2
  clear hcur hG hi hz0 hz1 hz2
  go_enter func207,ntmps207
  go_wp2_with (at_builtin;refine Lib.wpList_append_run _ rfl _ _ _ _ rfl _ _ rfl rfl _ _ (hrz _) ?_)
  go_ret
  exact⟨⟨_,rfl,HO.out⟩,(bR.drew).alloc nR _⟩
theorem Ig(l:List Int):∀u∈l.map EA,u.oneCell'=true:=by
 intro u hu
 obtain⟨n,_,rfl⟩:=List.mem_map.1 hu
 rfl
theorem Fw{b off:Nat}(h:A2 w (some ⟨b,off,none⟩) l):∀j u,(l.map EA)[j]? =some u->w.cell? ((⟨b,off,none⟩:Addr).add j)=some u:=by
 intro j u hu
 rw[List.getElem?_map]at hu
 obtain⟨n,hn,rfl⟩:=Option.map_eq_some_iff.1 hu
 obtain⟨hj,hjn⟩:=List.getElem?_eq_some_iff.1 hn
 obtain⟨b',o',e,x⟩:=h j hj
 cases e
 rw[RG,x]
 simp[gDe,hn,EA]
theorem Qn(g:Nat)(a1 a2:Option Addr)(c1 c2:Nat)(l1 l2:List Int)(w:World)(n1:0<l1.length)(n2:0<l2.length)(m1:l1.length<=400)(m2:l2.length<=400)(h1:A2 w a1 l1)(h2:A2 w a2 l2)
 (e1:w.cell? ⟨g,0,none⟩=some (.slice a1 l1.length c1)) (e2:w.cell? ⟨g,1,none⟩=some (.slice a2 l2.length c2)):
 Calls Tryz.prog 169 #[.slice (some ⟨g,0,none⟩) 2 2] w fun e w'=>(∃ad cap,e= .returned (.slice ad (l1++l2).length cap)/\Dh w' w.heap.size (.slice ad (l1++l2).length cap) (l1++l2))/\Bwz w w':=by
 obtain⟨i0,hi,hz0,hz1,hz2⟩:=info_parts Tryz.info3
 have HI:Hid (Tryz.prog.info? 3=some i0/\i0.zero=some (.int .i64 0)/\i0.size=1/\i0.bytes=8):=⟨hi,hz0,hz1,hz2⟩
 clear hi hz0 hz1 hz2
 obtain⟨b1,o1,rfl,_⟩:=h1 0 n1
 obtain⟨b2,o2,rfl,_⟩:=h2 0 n2
 have HC1:Hid (∀w',Bwz w w'->∀j u,(l1.map EA)[j]? =some u->w'.cell? ((⟨b1,o1,none⟩:Addr).add j)=some u):=fun w' hb=>Fw (As h1 hb)
 have HC2:Hid (∀w',Bwz w w'->∀j u,(l2.map EA)[j]? =some u->w'.cell? ((⟨b2,o2,none⟩:Addr).add j)=some u):=fun w' hb=>Fw (As h2 hb)
 have hp1:Hid ((l1.map EA).length=l1.length):=lMp ..
 have hp2:Hid ((l2.map EA).length=l2.length):=lMp ..
 clear h1 h2
 obtain⟨k1,hk1⟩:∃n,l1.length=n:=⟨_,rfl⟩
 obtain⟨k2,hk2⟩:∃n,l2.length=n:=⟨_,rfl⟩
 have HK1:Hid (l1.length=k1):=hk1
 have HK2:Hid (l2.length=k2):=hk2
 rw[hk1]at n1 m1 e1 hp1
 rw[hk2]at n2 m2 e2 hp2
 rw[lAp,hk1,hk2]
 clear hk1 hk2
 have HG:Hid (∀w1,CTz 207 #[.slice none 0 0,.int .i64 ((k1:Int)+k2)] w1 fun e w'=>(∃v,e= .returned v/\Dh w' w1.heap.size v [])/\Bwz w1 w'):=fun w1=>by
  have h:=UV (k1+k2) w1 (by omega)
  rwa[Int.natCast_add]at h
 go_enter func169,ntmps169
 go_wp2
 go_loop [3,11] (fun s i=>(i= .int .i64 0/\s= .int .i64 0)\/(i= .int .i64 1/\s= .int .i64 k1)\/(i= .int .i64 2/\s= .int .i64 ((k1:Int)+k2))) (fun _ i=>2 - (intOf i).toNat)
 case atStart=>exact .inl ⟨rfl,rfl⟩
 case round=>
  rcases hrel with⟨rfl,rfl⟩|⟨rfl,rfl⟩|⟨rfl,rfl⟩
  ·go_wp2
   go_round
   case rel=>exact .inr (.inl ⟨rfl,rfl⟩)
   case measure=>simp[intOf]
  ·go_wp2
   go_round
   case rel=>exact .inr (.inr ⟨rfl,rfl⟩)
   case measure=>simp[intOf]
  ·go_wp2_with fail
   refine(HG.out _).mono ?_
   rintro e w1 ⟨⟨v,rfl,hown⟩,hb1⟩
   have f1:=cLz hb1 e1
   have f2:=cLz hb1 e2
   have HO:Hid (Dh w1 w.heap.size v []):=hown
   clear hown
   go_wp2
   go_loopw [6,27] (fun x i wr=> ∃l:List Int,((i= .int .i64 0/\l=[])\/(i= .int .i64 1/\l=l1)\/(i= .int .i64 2/\l=l1++l2))/\Dh wr w.heap.size x l/\Bwz w wr) (fun _ i _=>2 - (intOf i).toNat)
   case atStart=>exact⟨[],.inl ⟨rfl,rfl⟩,HO.out,hb1⟩
   case round=>
    obtain⟨l,hl,hol,hbl⟩:=hrel
    have g1:=cLz hbl e1
    have g2:=cLz hbl e2
    have HOL:Hid (Dh wr w.heap.size u6 l):=hol
    have hsz:=hbl.size
    clear hol f1 f2 hb1 HO
    have hl':(u27= .int .i64 0/\[]=l)\/(u27= .int .i64 1/\l1=l)\/(u27= .int .i64 2/\l1++l2=l):=by
     rcases hl with⟨h1,h2⟩|⟨h1,h2⟩|⟨h1,h2⟩
     ·exact .inl ⟨h1,h2.symm⟩
     ·exact .inr (.inl ⟨h1,h2.symm⟩)
     ·exact .inr (.inr ⟨h1,h2.symm⟩)
    clear hl
    rcases hl' with⟨rfl,rfl⟩|⟨rfl,rfl⟩|⟨rfl,rfl⟩
    ·go_wp2_with (at_builtin;refine wpList_append_own _ rfl (.tmp 31) (.tmp 32) 22 rfl w.heap.size 3 i0 (.int .i64 0) 1 8 underlying22 HI.out.1 HI.out.2.1 HI.out.2.2.1 HI.out.2.2.2 rfl (by decide) _ _ _ rfl HOL.out ⟨b1,o1,none⟩ k1 c1 (l1.map EA) rfl (by rw[hp1.out,Nat.mul_one]) (HC1.out _ hbl) (Ig l1) (by unfold maxLen;(simp only[List.length_nil];omega)) (by(simp only[List.length_nil];omega)) hsz ?_;intro v2 w3 hown3 hgrow3 hnil3)
     have HN:Hid (Dh w3 w.heap.size v2 (l1)):=by
      show w3.ownsRow _ _ _ _ (l1).length ((l1).map EA)
      simpa[HK1.out]using hown3
     obtain⟨ad,cp,hv,hg⟩:=BU hown3
     subst hv
     go_roundw
     case rel=>exact⟨l1,.inr (.inl ⟨rfl,rfl⟩),HN.out,hbl.grown hgrow3 hsz (fun b hb=>(World.ownsRow.lt HOL.out b hb).1)⟩
     case measure=>simp[intOf]
    ·go_wp2_with (at_builtin;refine wpList_append_own _ rfl (.tmp 31) (.tmp 32) 22 rfl w.heap.size 3 i0 (.int .i64 0) 1 8 underlying22 HI.out.1 HI.out.2.1 HI.out.2.2.1 HI.out.2.2.2 rfl (by decide) _ _ _ rfl HOL.out ⟨b2,o2,none⟩ k2 c2 (l2.map EA) rfl (by rw[hp2.out,Nat.mul_one]) (HC2.out _ hbl) (Ig l2) (by unfold maxLen;(rw[HK1.out];omega)) (by(rw[HK1.out];omega)) hsz ?_;intro v2 w3 hown3 hgrow3 hnil3)
     have HN:Hid (Dh w3 w.heap.size v2 (l1++l2)):=by
      show w3.ownsRow _ _ _ _ (l1++l2).length ((l1++l2).map EA)
      rw[lAp,List.map_append,HK2.out];exact hown3
     obtain⟨ad,cp,hv,hg⟩:=BU hown3
     subst hv
     go_roundw
     case rel=>exact⟨l1++l2,.inr (.inr ⟨rfl,rfl⟩),HN.out,hbl.grown hgrow3 hsz (fun b hb=>(World.ownsRow.lt HOL.out b hb).1)⟩
     case measure=>simp[intOf]
    ·obtain⟨ad,cp,hv,hg⟩:=BU HOL.out
     have hll:(l1++l2).length=k1+k2:=by rw[lAp,HK1.out,HK2.out]
     rw[hll]at hv
     subst hv
     go_wp2
     go_ret
     exact⟨⟨ad,cp,rfl,HOL.out⟩,hbl⟩
theorem CL(p:Pln)(x:PA)(w:World)(hp:planAt w p x)(n1:0<p.left.length)(n2:0<p.right.length)(m1:p.left.length<=400)(m2:p.right.length<=400):
 Calls Tryz.prog 124 #[Ap p x] w fun e w'=>(∃ad cap,e= .returned (.slice ad (Bj p).length cap)/\Dh w' w.heap.size (.slice ad (Bj p).length cap) (Bj p))/\Bwz w w':=by
 have K:Hid (∀g w1,Bwz w w1->w1.cell? ⟨g,0,none⟩=some (.slice x.l p.left.length x.lc)->w1.cell? ⟨g,1,none⟩=some (.slice x.r p.right.length x.rc)->
  Calls Tryz.prog 169 #[.slice (some ⟨g,0,none⟩) 2 2] w1 fun e w'=>(∃ad cap,e= .returned (.slice ad (Bj p).length cap)/\Dh w' w1.heap.size (.slice ad (Bj p).length cap) (Bj p))/\Bwz w1 w'):=
  fun g w1 hb e1 e2=>Qn g x.l x.r x.lc x.rc p.left p.right w1 n1 n2 m1 m2 (As hp.l hb) (As hp.r hb) e1 e2
 obtain⟨cn,hcn⟩:=nM ((Bj p).length)
 rw[hcn]at K⊢
 clear hcn
 obtain⟨cs,hcs⟩:=nM (Bj p)
 rw[hcs]at K⊢
 clear hcs hp n1 n2 m1 m2
 obtain⟨kind,mode,low,high,size,limit,left,right,lkeys,rkeys,grouped,group,aggs⟩:=p
 obtain⟨l,lc,r,rc,lk,lkc,rk,rkc,g,gc,a,ac⟩:=x
 unfold Ap
 dsimp only at K⊢
 obtain⟨n6,h6⟩:∃n,left.length=n:=⟨_,rfl⟩
 obtain⟨n7,h7⟩:∃n,right.length=n:=⟨_,rfl⟩
 rw[h6,h7]at K
 rw[h6,h7]
 clear h6 h7
 go_enter func124,ntmps124
 go_wp2_with (go_at_call 169;refine(K.out _ _ ((bR.alloc nR _).alloc (by simp) _) (by go_simp) (by go_simp)).mono ?_;rintro e w1 ⟨⟨ad,cap,rfl,ho⟩,hb1⟩)
 go_ret
 exact⟨⟨ad,cap,rfl,⟨ho.1,ho.2.imp id (fun⟨g,c,cur,h1,h2,h3⟩=>⟨g,c,cur,h1,by simp at h2;omega,h3⟩)⟩⟩,((bR.alloc nR _).alloc (by simp) _).trans (hb1.mono (by simp;omega))⟩
theorem UW(i c:Int)(w:World):
 Calls Tryz.prog 125 #[.int .i64 i,.int .i64 c] w fun e w'=>e= .returned (.bool (Az c 1 3))/\Bwz w w':=by
 go_enter func125,ntmps125
 go_wp2_with (go_at_call 117;refine(BK _ _ _ _).mono ?_;rintro e w' ⟨rfl,hw⟩;subst hw)
 go_ret
 exact⟨rfl,bR⟩
theorem IU(p:Pln):decide (Ca p)=allB (Bj p).length (fun i=>Az ((Bj p).getD i 0) 1 3):=by
 refine(CY ?_).symm
 unfold Ca
 rw[A9]
 simp only[AJ]
 exact D6 (Q:=fun c:Int=>1<=c/\c<=3)
theorem KY(p:Pln)(x:PA)(w:World)(hp:planAt w p x)(n1:0<p.left.length)(n2:0<p.right.length)(m1:p.left.length<=400)(m2:p.right.length<=400):
 Calls Tryz.prog 63 #[Ap p x] w fun e w'=>e= .returned (.bool (decide (Ca p)))/\Bwz w w':=by
 have K:Hid (∀w1,Bwz w w1->CTz 124 #[Ap p x] w1 fun e w'=>(∃ad cap,e= .returned (.slice ad (Bj p).length cap)/\Dh w' w1.heap.size (.slice ad (Bj p).length cap) (Bj p))/\Bwz w1 w'):=
  fun w1 hb=>CL p x w1 (Af hp hb) n1 n2 m1 m2
 have hcl:(Bj p).length<=800:=by unfold Bj;rw[lAp];omega
 have HE:Hid (∀ad cap w1,A2 w1 ad (Bj p)->CTz 123 #[.slice ad (Bj p).length cap,.func (.func 125) #[] #[]] w1 fun e w'=>e= .returned (.bool (decide (Ca p)))/\Bwz w1 w'):=by
  intro ad cap w1 hi
  rw[IU]
  exact Fq 125 (enters_of func125 (by kernel_rfl) rfl) #[] (fun i=>Az ((Bj p).getD i 0) 1 3) ad cap (Bj p) w1 (by omega) hi (fun i w2 _ _=>UW i _ w2)
 obtain⟨tb,htb⟩:=nM (decide (Ca p))
 rw[htb]at HE⊢
 obtain⟨cn,hcn⟩:=nM ((Bj p).length)
 rw[hcn]at K HE
 obtain⟨cs,hcs⟩:=nM (Bj p)
 rw[hcs]at K HE
 clear hcs hcl hcn htb hp n1 n2 m1 m2
 obtain⟨kind,mode,low,high,size,limit,left,right,lkeys,rkeys,grouped,group,aggs⟩:=p
 obtain⟨l,lc,r,rc,lk,lkc,rk,rkc,g,gc,a,ac⟩:=x
 unfold Ap at K⊢
 dsimp only at K⊢
 go_enter func63,ntmps63
 go_wp2_with (first
  |(go_at_call 124;refine(K.out _ (bR.alloc nR _)).mono ?_;rintro e w1 ⟨⟨ad,cap,rfl,ho⟩,hb1⟩;have hba:=(bR.alloc nR _).trans (hb1.mono (by simp)))
  |(go_at_call 123;refine(HE.out _ _ _ (JD ho).1).mono ?_;rintro e w2 ⟨rfl,hb2⟩))
 go_ret
 exact⟨rfl,hba.trans (hb2.mono hba.size)⟩
end pl
end Go.Proofs.YtdohnkkbkfhphaaGreat
