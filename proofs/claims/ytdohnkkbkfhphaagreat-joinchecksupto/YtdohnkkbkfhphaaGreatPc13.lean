import Derived.Test.YtdohnkkbkfhphaaGreatPc12
set_option linter.all false
set_option maxHeartbeats 4000000
set_option maxRecDepth 100000
namespace Go.Proofs.YtdohnkkbkfhphaaGreat
open Go.Proofs.Tryz
namespace pl
open Go.ChangeShapes Go.WideShapes Go.ChangeAt Go.RowKit
open vl
variable {l : List Int} {x : Int}
def NN(l:List Int)(x:Int):Int:=if l.findIdx (· ==x)<l.length then((l.findIdx (· ==x):Nat):Int)else -1
theorem Wv{k:Nat}(hk:k<l.length)(h:l.getD k 0=x)(hn:∀i,i<k->l.getD i 0≠x):NN l x=k:=by
 have e:l.findIdx (· ==x)=k:=by
  rw[List.findIdx_eq hk]
  refine⟨by simpa[gDe,hk]using h,fun j hj=>?_⟩
  have:=hn j hj
  simpa[gDe,show j<l.length by omega]using this
 unfold NN
 rw[e,if_pos hk]
theorem Ww(hn:∀i,i<l.length->l.getD i 0≠x):NN l x= -1:=by
 unfold NN
 rw[if_neg]
 intro h
 have h1:=List.findIdx_getElem (w:=h)
 have h2:=hn _ h
 simp only[gDe,gEe h,Option.getD_some]at h2
 exact h2 (by simpa using h1)
theorem Ue(a:Option Addr)(cap:Nat)(l:List Int)(x:Int)(w:World)(hl:l.length<=9223372036854775807)(ha:A2 w a l):
 Calls Tryz.prog 173 #[.slice a l.length cap,.int .i64 x] w fun e w'=>e= .returned (.int .i64 (NN l x))/\w'=w:=by
 obtain⟨n,hn⟩:∃n,l.length=n:=⟨_,rfl⟩
 have HN:Hid (l.length=n):=hn
 rw[hn]at hl⊢
 clear hn
 go_enter func173,ntmps173
 go_wp2
 go_loop [8] (fun i=> ∃k:Nat,k<=n/\i= .int .i64 k/\∀i,i<k->l.getD i 0≠x) (fun i=>n - (intOf i).toNat)
 case atStart=>exact⟨0,Nat.zero_le _,rfl,fun i hi=>absurd hi (Nat.not_lt_zero i)⟩
 case round=>
  obtain⟨k,hk,rfl,hall⟩:=hrel
  have HA:Hid (∀i,i<k->l.getD i 0≠x):=hall
  clear hall
  by_cases hlt:k<n
  ·obtain⟨b,o,e,x1⟩:=ha k (by rw[HN.out];exact hlt)
   subst e
   clear ha
   have i1:(0:Int)<=(k:Int):=by omega
   have i2:(k:Int)<(n:Int):=by omega
   obtain⟨z,hz⟩:=nM (l.getD k 0)
   have HZ:Hid (l.getD k 0=z):=hz
   rw[hz]at x1
   clear hz
   by_cases he:x=z
   ·subst he
    have HE:Hid (NN l x=k):=Wv (by rw[HN.out];exact hlt) HZ.out HA.out
    go_wp2
    go_ret
    exact⟨Ad HE.out.symm,rfl⟩
   ·have hb:(x==z)=false:=by simpa using he
    have HE:Hid (l.getD k 0≠x):=by show l.getD k 0≠x;rw[HZ.out];exact fun h=>he h.symm
    clear he
    go_wp2
    go_round
    case rel=>exact⟨k+1,by omega,by go_num,fun i hi=>by
     rcases Nat.lt_succ_iff_lt_or_eq.1 hi with h|h
     ·exact HA.out i h
     ·rw[h];exact HE.out⟩
    case measure=>simp[intOf];omega
  ·have HE:Hid (NN l x= -1):=Ww (fun i hi=>HA.out i (by rw[HN.out]at hi;omega))
   go_wp2
   go_ret
   exact⟨Ad HE.out.symm,rfl⟩
theorem Ea(x:Int)(a:Option Addr)(n cap:Nat)(w:World)(hn:n<=9223372036854775807):
 Calls Tryz.prog 172 #[.int .i64 x,.slice a n cap] w fun e w'=>e= .returned (.bool (Az x 0 ((n:Int) - 1)))/\w'=w:=by
 go_enter func172,ntmps172
 go_wp2_with (go_at_call 117;refine(BK _ _ _ _).mono ?_;rintro e w' ⟨rfl,hw⟩;subst hw)
 go_ret
 exact⟨rfl,rfl⟩
def LI(l:List Int)(n:Nat)(i:Nat):Bool:=Az (l.getD i 0) 0 ((n:Int) - 1)&&decide (NN l (l.getD i 0)=i)
theorem DE{i:Nat}(h:i<l.length):l.getD i 0=l[i]:=by simp[gDe,h]
theorem Rm(l:List Int)(n:Nat):decide (AP l n)=allB l.length (LI l n):=by
 refine(CY ?_).symm
 rw[A9]
 unfold AP LI
 simp only[Bool.and_eq_true,AJ,decide_eq_true_eq]
 constructor
 ·intro h
  refine⟨(D6 (Q:=fun x:Int=>0<=x/\x<(n:Int))).1 (fun i hi=>⟨(h i hi).1.1,by have:=(h i hi).1.2;omega⟩),?_⟩
  rw[List.pairwise_iff_getElem]
  intro i j hi hj hij e
  have h1:=(h i hi).2
  have h2:=(h j hj).2
  rw[DE hi]at h1
  rw[DE hj,<-e]at h2
  omega
 ·intro ⟨h1,h2⟩ i hi
  have h3:=h1 _ (C3 (d:=0) hi)
  refine⟨⟨h3.1,by omega⟩,Wv hi rfl (fun j hj=>?_)⟩
  rw[List.pairwise_iff_getElem]at h2
  rw[DE hi,DE (by omega)]
  exact h2 j i (by omega) hi hj
theorem XT(i:Nat)(b1 b2:Nat)(a1 a2:Option Addr)(c1 c2 n:Nat)(l:List Int)(w:World)(hl:l.length<=9223372036854775807)(hn:n<=9223372036854775807)(ha:A2 w a1 l)
 (h2:w.cell? ⟨b2,0,none⟩=some (.slice a2 n c2)) (h1:w.cell? ⟨b1,0,none⟩=some (.slice a1 l.length c1)):
 Calls Tryz.prog 171 #[.int .i64 i,.int .i64 (l.getD i 0),.pointer (some ⟨b2,0,none⟩),.pointer (some ⟨b1,0,none⟩)] w fun e w'=>e= .returned (.bool (LI l n i))/\Bwz w w':=by
 have K:=hIz (fun(w1:World) x (h:A2 w1 a1 l)=>Ue a1 c1 l x w1 hl h)
 have HB:Hid (LI l n i=(Az (l.getD i 0) 0 ((n:Int) - 1)&&decide (NN l (l.getD i 0)=i))):=rfl
 obtain⟨z,hz⟩:=nM (l.getD i 0)
 rw[hz]at HB⊢
 obtain⟨m,hm⟩:=nM l.length
 rw[hm]at K h1
 have HA:Hid (A2 w a1 l):=ha
 clear hz hm ha hl
 cases hb:Az z 0 ((n:Int) - 1)<;>rw[hb]at HB
 all_goals
  go_enter func171,ntmps171
  go_wp2_with (first
   |(go_at_call 172;refine(Ea _ _ _ _ _ hn).mono ?_;rintro e w' ⟨rfl,hw⟩;subst hw)
   |(go_at_call 173;refine(K.out _ _ HA.out).mono ?_;rintro e w' ⟨rfl,hw⟩;subst hw))
  go_ret
  exact⟨Aa (by rw[HB.out];exact Bool.eq_iff_iff.2 (by simp)),bR⟩
theorem Ed(a1 a2:Option Addr)(c1 c2 n:Nat)(l:List Int)(w:World)(hl:l.length<=9223372036854775807)(hn:n<=9223372036854775807)(ha:A2 w a1 l):
 Calls Tryz.prog 127 #[.slice a1 l.length c1,.slice a2 n c2] w fun e w'=>e= .returned (.bool (decide (AP l n)))/\Bwz w w':=by
 have K:Hid (∀b1 b2 w1,A2 w1 a1 l->w1.cell? ⟨b2,0,none⟩=some (.slice a2 n c2)->w1.cell? ⟨b1,0,none⟩=some (.slice a1 l.length c1)->
  Calls Tryz.prog 123 #[.slice a1 l.length c1,.func (.func 171) #[] #[.pointer (some ⟨b2,0,none⟩),.pointer (some ⟨b1,0,none⟩)]] w1 fun e w'=>e= .returned (.bool (decide (AP l n)))/\Bwz w1 w'):=by
  intro b1 b2 w1 hi e2 e1
  rw[Rm]
  exact Fq 171 (enters_of func171 (by kernel_rfl) rfl) #[.pointer (some ⟨b2,0,none⟩),.pointer (some ⟨b1,0,none⟩)] (LI l n) a1 c1 l w1 hl hi (fun i w2 _ hb=>XT i b1 b2 a1 a2 c1 c2 n l w2 hl hn (As hi hb) (cLz hb e2) (cLz hb e1))
 obtain⟨m,hm⟩:=nM l.length
 rw[hm]at K⊢
 obtain⟨tb,htb⟩:=nM (decide (AP l n))
 rw[htb]at K⊢
 have HA:Hid (A2 w a1 l):=ha
 clear hm htb ha hl hn
 go_enter func127,ntmps127
 go_wp2_with (go_at_call 123;refine(K.out _ _ _ (As HA.out ((bR.alloc nR _).alloc (by simp) _)) (by go_simp) (by go_simp)).mono ?_;rintro e w1 ⟨rfl,hb1⟩)
 go_ret
 exact⟨rfl,((bR.alloc nR _).alloc (by simp) _).trans (hb1.mono (by simp;omega))⟩
def yes(b:Bool)(P:Prop):Prop:=b=true->P
def P8(p:Pln)(i:Nat):Bool:=decide (p.left.getD (p.lkeys.getD i 0).toNat 0=p.right.getD (p.rkeys.getD i 0).toNat 0)
theorem Uf(p:Pln):decide (EQ p)=allB p.lkeys.length (P8 p):=by
 refine(CY ?_).symm
 rw[A9]
 unfold EQ P8
 simp only[decide_eq_true_eq]
def XU(w:World)(B:Nat)(p:Pln)(x:PA):Prop:=
 w.cell? ⟨B,6,none⟩=some (.slice x.l p.left.length x.lc)/\w.cell? ⟨B,7,none⟩=some (.slice x.r p.right.length x.rc)/\w.cell? ⟨B,9,none⟩=some (.slice x.rk p.rkeys.length x.rkc)
theorem XV(i:Nat)(B:Nat)(p:Pln)(x:PA)(w:World)(hw:wfPlan p)(hb:XU w B p x)(hp:planAt w p x)(hi:i<p.lkeys.length)(hlen:p.lkeys.length=p.rkeys.length)(h1:AP p.lkeys p.left.length)(h2:AP p.rkeys p.right.length):
 Calls Tryz.prog 170 #[.int .i64 i,.int .i64 (p.lkeys.getD i 0),.pointer (some ⟨B,0,none⟩)] w fun e w'=>e= .returned (.bool (P8 p i))/\Bwz w w':=by
 have HB:Hid (P8 p i=decide (p.left.getD (p.lkeys.getD i 0).toNat 0=p.right.getD (p.rkeys.getD i 0).toNat 0)):=rfl
 obtain⟨g1,g2,g3⟩:=hb
 have k1:=h1.1 _ (C3 (d:=0) hi)
 have k2:=h2.1 _ (C3 (d:=0) (show i<p.rkeys.length by omega))
 obtain⟨br,orr,er,xr⟩:=hp.rk i (by omega)
 obtain⟨a1,ha1⟩:=nM (p.lkeys.getD i 0)
 obtain⟨a2,ha2⟩:=nM (p.rkeys.getD i 0)
 rw[ha1]at k1 HB⊢
 rw[ha2]at k2 HB xr
 obtain⟨m1,hm1⟩:=Int.eq_ofNat_of_zero_le k1.1
 obtain⟨m2,hm2⟩:=Int.eq_ofNat_of_zero_le k2.1
 subst hm1 hm2
 rw[Int.toNat_natCast,Int.toNat_natCast]at HB
 obtain⟨bl,ol,el,xl⟩:=hp.l m1 (by omega)
 obtain⟨bq,oq,eq,xq⟩:=hp.r m2 (by omega)
 obtain⟨v1,hv1⟩:=nM (p.left.getD m1 0)
 obtain⟨v2,hv2⟩:=nM (p.right.getD m2 0)
 rw[hv1]at xl HB
 rw[hv2]at xq HB
 rw[el]at g1
 rw[eq]at g2
 rw[er]at g3
 obtain⟨n6,h6⟩:∃n,p.left.length=n:=⟨_,rfl⟩
 obtain⟨n7,h7⟩:∃n,p.right.length=n:=⟨_,rfl⟩
 obtain⟨n9,h9⟩:∃n,p.rkeys.length=n:=⟨_,rfl⟩
 have w6:=hw.l
 have w7:=hw.r
 have w9:=hw.rk
 have hi9:i<n9:=by omega
 rw[h6]at g1 k1 w6
 rw[h7]at g2 k2 w7
 rw[h9]at g3 w9
 obtain⟨k1a,k1b⟩:=k1
 obtain⟨k2a,k2b⟩:=k2
 have i1:(0:Int)<=(i:Int):=by omega
 have i2:(i:Int)<(n9:Int):=by omega
 clear ha1 ha2 hv1 hv2 h6 h7 h9 hw hp h1 h2 hi hlen el eq er
 go_enter func170,ntmps170
 go_wp2
 go_region
 all_goals
  go_wp2
  go_ret
  refine⟨Aa (by rw[HB.out];exact Bool.eq_iff_iff.2 (by simp)),?_⟩
  repeat (first|exact bR|apply Below.drew)
theorem Md(p:Pln)(x:PA)(w:World)(hw:wfPlan p)(hp:planAt w p x):
 Calls Tryz.prog 126 #[Ap p x] w fun e w'=>e= .returned (.bool (decide (FX p)))/\Bwz w w':=by
 have K1:=hIz (fun(w1:World) (hb:Bwz w w1)=>Ed x.lk x.l x.lkc x.lc p.left.length p.lkeys w1 hw.lk hw.l (As hp.lk hb))
 have K2:=hIz (fun(w1:World) (hb:Bwz w w1)=>Ed x.rk x.r x.rkc x.rc p.right.length p.rkeys w1 hw.rk hw.r (As hp.rk hb))
 have K3:Hid (∀B w1,Bwz w w1->p.lkeys.length=p.rkeys.length->AP p.lkeys p.left.length->AP p.rkeys p.right.length->w1.cell? ⟨B,6,none⟩=some (.slice x.l p.left.length x.lc)->w1.cell? ⟨B,7,none⟩=some (.slice x.r p.right.length x.rc)->w1.cell? ⟨B,9,none⟩=some (.slice x.rk p.rkeys.length x.rkc)->
  Calls Tryz.prog 123 #[.slice x.lk p.lkeys.length x.lkc,.func (.func 170) #[] #[.pointer (some ⟨B,0,none⟩)]] w1 fun e w'=>e= .returned (.bool (decide (EQ p)))/\Bwz w1 w'):=by
  intro B w1 hb hlen h1 h2 e6 e7 e9
  rw[Uf]
  exact Fq 170 (enters_of func170 (by kernel_rfl) rfl) #[.pointer (some ⟨B,0,none⟩)] (P8 p) x.lk x.lkc p.lkeys w1 hw.lk (As hp.lk hb)
   (fun i w2 hi hb2=>XV i B p x w2 hw ⟨cLz hb2 e6,cLz hb2 e7,cLz hb2 e9⟩ (Af (Af hp hb) hb2) hi hlen h1 h2)
 have HK:Hid (decide (FX p)=(decide (p.lkeys.length=p.rkeys.length)&&decide (AP p.lkeys p.left.length)&&decide (AP p.rkeys p.right.length)&&decide (EQ p))):=by
  refine(CY ?_).symm
  unfold FX
  simp only[Bool.and_eq_true,decide_eq_true_eq,and_assoc]
 have HP1:yes (decide (AP p.lkeys p.left.length)) (AP p.lkeys p.left.length):=of_decide_eq_true
 have HP2:yes (decide (AP p.rkeys p.right.length)) (AP p.rkeys p.right.length):=of_decide_eq_true
 obtain⟨q1,hq1⟩:=nM (decide (AP p.lkeys p.left.length))
 obtain⟨q2,hq2⟩:=nM (decide (AP p.rkeys p.right.length))
 obtain⟨q3,hq3⟩:=nM (decide (EQ p))
 rw[hq1]at K1 HK HP1
 rw[hq2]at K2 HK HP2
 rw[hq3]at K3 HK
 clear hq1 hq2 hq3 hw hp
 obtain⟨P1,hP1⟩:=nM (AP p.lkeys p.left.length)
 obtain⟨P2,hP2⟩:=nM (AP p.rkeys p.right.length)
 rw[hP1]at K3 HP1
 rw[hP2]at K3 HP2
 clear hP1 hP2
 obtain⟨kind,mode,low,high,size,limit,left,right,lkeys,rkeys,grouped,group,aggs⟩:=p
 obtain⟨l,lc,r,rc,lk,lkc,rk,rkc,g,gc,a,ac⟩:=x
 unfold Ap
 dsimp only at K1 K2 K3 HK⊢
 obtain⟨n6,h6⟩:∃n,left.length=n:=⟨_,rfl⟩
 obtain⟨n7,h7⟩:∃n,right.length=n:=⟨_,rfl⟩
 obtain⟨n8,h8⟩:∃n,lkeys.length=n:=⟨_,rfl⟩
 obtain⟨n9,h9⟩:∃n,rkeys.length=n:=⟨_,rfl⟩
 rw[h6,h8]at K1
 rw[h7,h9]at K2
 rw[h6,h7,h8,h9]at K3
 rw[h8,h9]at HK
 rw[h6,h7,h8,h9]
 clear h6 h7 h8 h9
 by_cases hlen:n8=n9
 ·subst hlen
  have hl8:((n8:Int)==n8)=true:=by simp
  rw[show decide (n8=n8)=true by simp]at HK
  cases q1<;>cases q2<;>cases q3
  all_goals
   go_enter func126,ntmps126
   go_wp2_with (first
    |(go_at_call 127;have tk:=K1;refine(K1.out _ (bR.alloc nR _)).mono ?_;rintro e w1 ⟨rfl,hb1⟩;have hba:=(bR.alloc nR _).trans (hb1.mono (by simp));obtain⟨hc1,hf1⟩:=C2 hb1;have hz1:w.heap.size<w1.heap.size:=(by have:=hb1.size;simp at this;omega);clear K1)
    |(go_at_call 127;have tk:=K2;refine(K2.out _ hba).mono ?_;rintro e w2 ⟨rfl,hb2⟩;have hbb:=hba.trans (hb2.mono hba.size);obtain⟨hc2,hf2⟩:=C2 hb2;have hz2:w.heap.size<w2.heap.size:=(by have:=hb2.size;omega);clear K2)
    |(go_at_call 123;refine(K3.out _ _ hbb (by trivial) (HP1 rfl) (HP2 rfl) (by rw[hc2 _ _ hz1,hc1 _ _ (by simp)];go_simp) (by rw[hc2 _ _ hz1,hc1 _ _ (by simp)];go_simp) (by rw[hc2 _ _ hz1,hc1 _ _ (by simp)];go_simp)).mono ?_;rintro e w3 ⟨rfl,hb3⟩;have hbc:=hbb.trans (hb3.mono hbb.size)))
   go_ret
   refine⟨Aa (by rw[HK.out];rfl),?_⟩
   first
    |exact hbc
    |exact hbb
    |exact hba
 ·have hl8:((n8:Int)==n9)=false:=by simp;omega
  rw[decide_eq_false hlen]at HK
  clear hlen
  go_enter func126,ntmps126
  go_wp2
  go_ret
  exact⟨Aa (by rw[HK.out];rfl),bR.alloc nR _⟩
def LJ(c:List Int)(a:Int×Int):Bool:=decide (Da c a)
theorem XW(i:Int)(B:Nat)(ad:Option Addr)(cp:Nat)(c:List Int)(f k:Int)(w:World)(hl:c.length<=9223372036854775807)(hc:A2 w ad c)(hb:w.cell? ⟨B,0,none⟩=some (.slice ad c.length cp)):
 Calls Tryz.prog 174 #[.int .i64 i,.agg #[.int .i64 f,.int .i64 k],.pointer (some ⟨B,0,none⟩)] w fun e w'=>e= .returned (.bool (LJ c (f,k)))/\Bwz w w':=by
 have hBlt:=bLt _ _ hb
 have HB:Hid (LJ c (f,k)=true↔if f=1 then k=0 else(0<=k/\k<(c.length:Int))/\(f=2->c.getD k.toNat 0=2)):=by show LJ c (f,k)=true↔Da c (f,k);unfold LJ;exact decide_eq_true_iff
 have HC:Hid (A2 w ad c):=hc
 obtain⟨n,hn⟩:∃n,c.length=n:=⟨_,rfl⟩
 have HN:Hid (c.length=n):=hn
 rw[hn]at hl hb HB
 clear hn hc
 have hBlt':B<w.heap.size:=hBlt
 by_cases f1:f=1
 ·subst f1
  rw[if_pos rfl]at HB
  go_enter func174,ntmps174
  go_wp2
  go_ret
  exact⟨Aa (Bool.eq_iff_iff.2 (by rw[HB.out];simp)),bR.alloc nR _⟩
 ·have f1':(f==1)=false:=by simpa using f1
  rw[if_neg f1]at HB
  clear f1
  cases hbt:Az k 0 ((n:Int) - 1)with
  |false=>
   have hno:=(BZ _ _ _).1 hbt
   have HR:Hid (LJ c (f,k)=false):=Bool.eq_false_iff.2 (fun h=>hno ⟨(HB.out.1 h).1.1,by have:=(HB.out.1 h).1.2;omega⟩)
   clear hno HB
   by_cases f2:f=2
   ·subst f2
    go_enter func174,ntmps174
    go_wp2_with (go_at_call 172;refine(Ea _ _ _ _ _ hl).mono ?_;rintro e w' ⟨rfl,hw⟩;subst hw)
    go_ret
    exact⟨Aa HR.out.symm,bR.alloc nR _⟩
   ·have f2':(f==2)=false:=by simpa using f2
    clear f2
    go_enter func174,ntmps174
    go_wp2_with (go_at_call 172;refine(Ea _ _ _ _ _ hl).mono ?_;rintro e w' ⟨rfl,hw⟩;subst hw)
    go_ret
    exact⟨Aa HR.out.symm,bR.alloc nR _⟩
  |true=>
   obtain⟨y1,y2⟩:=(AJ _ _ _).1 hbt
   by_cases f2:f=2
   ·subst f2
    obtain⟨m,rfl⟩:=Int.eq_ofNat_of_zero_le y1
    obtain⟨bc,oc,ec,xc⟩:=HC.out m (by rw[HN.out];omega)
    have HR:Hid (LJ c (2,(m:Int))=decide (c.getD m 0=2)):=by
     show LJ c (2,(m:Int))=_
     refine Bool.eq_iff_iff.2 ?_
     rw[HB.out]
     simp
     omega
    subst ec
    obtain⟨v,hv⟩:=nM (c.getD m 0)
    rw[hv]at xc HR
    have hclt:=bLt _ _ xc
    have hclt':bc<w.heap.size:=hclt
    clear hv HB
    have y3:(m:Int)<(n:Int):=by omega
    go_enter func174,ntmps174
    go_wp2_with (go_at_call 172;refine(Ea _ _ _ _ _ hl).mono ?_;rintro e w' ⟨rfl,hw⟩;subst hw)
    go_ret
    exact⟨Aa (by rw[HR.out];exact Bool.eq_iff_iff.2 (by simp)),bR.alloc nR _⟩
   ·have f2':(f==2)=false:=by simpa using f2
    have HR:Hid (LJ c (f,k)=true):=HB.out.2 ⟨⟨y1,by omega⟩,fun h=>absurd h f2⟩
    clear f2 HB
    go_enter func174,ntmps174
    go_wp2_with (go_at_call 172;refine(Ea _ _ _ _ _ hl).mono ?_;rintro e w' ⟨rfl,hw⟩;subst hw)
    go_ret
    exact⟨Aa HR.out.symm,bR.alloc nR _⟩
def F6(c:List Int)(l:List (Int×Int)):Prop:=∀a∈l,Da c a
instance(c:List Int)(l:List (Int×Int)):Decidable (F6 c l):=by unfold F6;infer_instance
theorem Wx(c:List Int)(l:List (Int×Int)):decide (F6 c l)=allB l.length (fun i=>LJ c (l.getD i (0,0))):=by
 refine(CY ?_).symm
 rw[A9]
 unfold F6 LJ
 simp only[decide_eq_true_eq]
 exact D6 (Q:=fun a:Int×Int=>Da c a)
theorem Me(a ad:Option Addr)(ca cp:Nat)(l:List (Int×Int))(c:List Int)(w:World)(hl:l.length<=9223372036854775807)(hcl:c.length<=9223372036854775807)(ha:DT w a l)(hc:A2 w ad c):
 Calls Tryz.prog 128 #[.slice a l.length ca,.slice ad c.length cp] w fun e w'=>e= .returned (.bool (decide (F6 c l)))/\Bwz w w':=by
 have K:Hid (∀B w1,Bwz w w1->w1.cell? ⟨B,0,none⟩=some (.slice ad c.length cp)->
  Calls Tryz.prog 167 #[.slice a l.length ca,.func (.func 174) #[] #[.pointer (some ⟨B,0,none⟩)]] w1 fun e w'=>e= .returned (.bool (decide (F6 c l)))/\Bwz w1 w'):=by
  intro B w1 hb e0
  rw[Wx]
  exact Ie 174 (enters_of func174 (by kernel_rfl) rfl) #[.pointer (some ⟨B,0,none⟩)] (fun i=>LJ c (l.getD i (0,0))) a ca l w1 hl (CR ha hb)
   (fun i w2 hi hb2=>XW i B ad cp c _ _ w2 hcl (As (As hc hb) hb2) (cLz hb2 e0))
 obtain⟨m,hm⟩:=nM l.length
 obtain⟨k,hk⟩:=nM c.length
 obtain⟨tb,htb⟩:=nM (decide (F6 c l))
 rw[hm,hk,htb]at K
 rw[hm,hk,htb]
 clear hm hk htb ha hc hl hcl
 go_enter func128,ntmps128
 go_wp2_with (go_at_call 167;refine(K.out _ _ (bR.alloc nR _) (by go_simp)).mono ?_;rintro e w1 ⟨rfl,hb1⟩)
 go_ret
 exact⟨rfl,(bR.alloc nR _).trans (hb1.mono (by simp))⟩
end pl
namespace pl
open Go.ChangeShapes Go.WideShapes Go.ChangeAt Go.RowKit
variable {P : Program} {md : Region.Mode} {ops : Array Oper} {Q : Exit -> Act -> World -> Prop} {S : World -> Prop} {fuel : Nat} {listed : Array Bool} {a : Act} {w : World} {oi : Oper} {x y : Int}
theorem YZ(i:Nat)(d:Option Tmp)(hi:ops[i]? =some oi)
 (hs:Region.noSelect ops=true) (hf:Region.free md ops listed i=true) (hr:(Region.ready md ops listed).contains i=true) (hQ:∀c a w,Q (.panic c) (a.put oi.dst undef) w->Q (.panic c) a w) (hd:oi.dst=d)
 (hw:Region.wanted oi (yielded ops a.tmps)=false) (hS:S w) (h:wpAnyH P md ops Q S fuel (listed.setIfInBounds i true) (a.put d undef) w):wpAnyH P md ops Q S (fuel+1) listed a w:=
 wpAnyH_take hi hs hf hr hQ (Or.inr ⟨hw,rfl⟩) hS (by rw[hd];exact h)
theorem Za{v:Value}(i:Nat)(d:Option Tmp)(hi:ops[i]? =some oi)
 (hs:Region.noSelect ops=true) (hf:Region.free md ops listed i=true) (hr:(Region.ready md ops listed).contains i=true) (hQ:∀c a w,Q (.panic c) (a.put oi.dst v) w->Q (.panic c) a w) (hd:oi.dst=d)
 (hw:Region.wanted oi (yielded ops a.tmps)=true) (hy:∀w,S w->(execOp a.eval oi).run P w= .ok (.value v) w) (hS:S w) (h:wpAnyH P md ops Q S fuel (listed.setIfInBounds i true) (a.put d v) w):wpAnyH P md ops Q S (fuel+1) listed a w:=
 wpAnyH_take hi hs hf hr hQ (Or.inl ⟨hw,hy⟩) hS (by rw[hd];exact h)
theorem NO(b:Bool)(h:decide (x<=y)=b):∀t,binOp .leq t (.int .i64 x) (.int .i64 y)=pure (.bool b):=fun t=>by rw[binOp_leq,h]
theorem YX(b:Bool)(h:(x==y)=b):∀t,binOp .eql t (.int .i64 x) (.int .i64 y)=pure (.bool b):=fun t=>by rw[binOp_eql,h]
theorem EZ(b:Bool)(h:decide (x>y)=b):∀t,binOp .gtr t (.int .i64 x) (.int .i64 y)=pure (.bool b):=fun t=>by rw[binOp_gtr,h]
end pl
namespace pl
open Go.ChangeShapes Go.WideShapes Go.ChangeAt Go.RowKit
open vl
def Sg(g:Bool)(l:List (Int×Int))(k:Nat):Prop:=g=true->∀i,i<k->Az (l.getD i (0,0)).1 1 4=true
theorem Gz(p:Pln):decide (Ba p)=(Az p.kind 1 3&&Az p.mode 1 (if p.kind=3 then 2 else 4)&&(!p.grouped||GB p.aggs)):=by
 refine(CY ?_).symm
 simp only[Bool.and_eq_true,Bool.or_eq_true,AJ,Oz,Ba,Bool.not_eq_true',and_assoc]
 cases p.grouped<;>simp
theorem Sh{l:List (Int×Int)}{i:Nat}(hi:i<l.length)(h:Az (l.getD i (0,0)).1 1 4=false):GB l=false:=Dc hi h
theorem P9{l:List (Int×Int)}(h:∀i,i<l.length->Az (l.getD i (0,0)).1 1 4=true):GB l=true:=A9.2 h
theorem XX{mode:Int}(h:Az mode 1 4=true):Az mode 1 2=decide (¬2<mode):=by
 have:=(AJ _ _ _).1 h
 unfold Az
 by_cases h2:2<mode
 ·rw[decide_eq_false (by omega),decide_eq_false (by omega)]
 ·rw[decide_eq_true (by omega),decide_eq_true (by omega)]
theorem Fa(p:Pln)(x:PA)(w:World)(hp:DT w x.a p.aggs)(hl:p.aggs.length<=9223372036854775807):
 Calls Tryz.prog 30 #[Ap p x] w fun e w'=>e= .returned (.bool (!decide (Ba p)))/\Bwz w w':=by
 have HK:Hid ((!decide (Ba p))= !(Az p.kind 1 3&&Az p.mode 1 (if p.kind=3 then 2 else 4)&&(!p.grouped||GB p.aggs))):=by show(!decide (Ba p))=_;rw[Gz]
 obtain⟨res,hres⟩:=nM (!decide (Ba p))
 rw[hres]at HK⊢
 clear hres
 have HF:Hid (∀i,i<p.aggs.length->Az (p.aggs.getD i (0,0)).1 1 4=false->GB p.aggs=false):=fun i hi h=>Sh hi h
 have HT:Hid ((∀i,i<p.aggs.length->Az (p.aggs.getD i (0,0)).1 1 4=true)->GB p.aggs=true):=P9
 obtain⟨kind,mode,low,high,size,limit,left,right,lkeys,rkeys,grouped,group,aggs⟩:=p
 obtain⟨l,lc,r,rc,lk,lkc,rk,rkc,g,gc,a,ac⟩:=x
 unfold Ap
 dsimp only at HK HF HT hp hl⊢
 obtain⟨n12,h12⟩:∃n,aggs.length=n:=⟨_,rfl⟩
 have HN:Hid (aggs.length=n12):=h12
 rw[h12]at HF HT hl⊢
 clear h12
 have HP:Hid (DT w a aggs):=hp
 clear hp
 cases h0:Az kind 1 3 with
 |false=>
  rw[h0]at HK
  go_enter func30,ntmps30
  go_wp2_with
   (go_at_call 29;refine(Ak _ _ _ _).mono ?_;rintro e w' ⟨rfl,hw⟩;subst hw)
  go_ret
  exact⟨Aa (by rw[HK.out];rfl),bR.alloc nR _⟩
 |true=>
  rw[h0]at HK
  cases h1:Az mode 1 4 with
  |false=>
   have HR:Hid (res=true):=by
    show res=true
    rw[HK.out]
    by_cases hk:kind=3
    ·rw[if_pos hk]
     have:Az mode 1 2=false:=(BZ _ _ _).2 (by have:=(BZ _ _ _).1 h1;omega)
     rw[this];rfl
    ·rw[if_neg hk,h1];rfl
   go_enter func30,ntmps30
   go_wp2_with
    (go_at_call 29;refine(Ak _ _ _ _).mono ?_;rintro e w' ⟨rfl,hw⟩;subst hw)
   go_ret
   exact⟨Aa HR.out.symm,bR.alloc nR _⟩
  |true=>
   have HM:=XX h1
   by_cases hbad:kind=3/\2<mode
   ·obtain⟨rfl,hm⟩:=hbad
    rw[if_pos rfl,HM,decide_eq_false (by omega)]at HK
    clear HM
    go_enter func30,ntmps30
    go_wp2_with
     (go_at_call 29;refine(Ak _ _ _ _).mono ?_;rintro e w' ⟨rfl,hw⟩;subst hw)
    go_ret
    exact⟨Aa (by rw[HK.out];rfl),bR.alloc nR _⟩
   ·have HR:Hid (res= !(!grouped||GB aggs)):=by
     show res=_
     rw[HK.out]
     by_cases hk:kind=3
     ·rw[if_pos hk,HM,decide_eq_true (by omega)];rfl
     ·rw[if_neg hk,h1];rfl
    clear HK HM
    have hk3:kind≠3\/mode<=2:=by omega
    clear hbad
    rcases hk3 with hk|hk
    ·have hk':(kind==3)=false:=by simpa using hk
     clear hk
     go_enter func30,ntmps30
     go_wp2_with
      (go_at_call 29;refine(Ak _ _ _ _).mono ?_;rintro e w' ⟨rfl,hw⟩;subst hw)
     go_loop [3] (fun i=> ∃k:Nat,k<=n12/\i= .int .i64 k/\(grouped=true->∀i,i<k->Az (aggs.getD i (0,0)).1 1 4=true)) (fun i=>n12 - (intOf i).toNat)
     case atStart=>exact⟨0,Nat.zero_le _,rfl,fun _ i hi=>absurd hi (Nat.not_lt_zero i)⟩
     case round=>
      obtain⟨k,hk,rfl,hall⟩:=hrel
      have HA:Sg grouped aggs k:=hall
      clear hall
      by_cases hlt:k<n12
      ·obtain⟨b,o,e,x1,x2⟩:=HP.out k (by rw[HN.out];exact hlt)
       subst e
       have hblt:=bLt _ _ x1
       have hblt':b<w.heap.size:=hblt
       have i1:(0:Int)<=(k:Int):=by omega
       have i2:(k:Int)<(n12:Int):=by omega
       obtain⟨z,hz⟩:=nM ((aggs.getD k (0,0)).1)
       have HZ:Hid ((aggs.getD k (0,0)).1=z):=hz
       rw[hz]at x1
       clear x2 hblt hz
       cases grouped with
       |false=>
        go_wp2
        go_round
        case rel=>exact⟨k+1,by omega,by go_num,fun h=>absurd h (by decide)⟩
        case measure=>simp[intOf];omega
       |true=>
        cases hf:Az z 1 4 with
        |true=>
         go_wp2_with
          (go_at_call 29;refine(Ak _ _ _ _).mono ?_;rintro e w' ⟨rfl,hw⟩;subst hw)
         go_round
         case rel=>exact⟨k+1,by omega,by go_num,fun _ i hi=>by
          rcases Nat.lt_succ_iff_lt_or_eq.1 hi with h|h
          ·exact HA rfl i h
          ·rw[h,HZ.out];exact hf⟩
         case measure=>simp[intOf];omega
        |false=>
         have HX:Hid (res=true):=by
          show res=true
          rw[HR.out,HF.out k hlt (by rw[HZ.out];exact hf)];rfl
         go_wp2_with
          (go_at_call 29;refine(Ak _ _ _ _).mono ?_;rintro e w' ⟨rfl,hw⟩;subst hw)
         go_ret
         exact⟨Aa HX.out.symm,bR.alloc nR _⟩
      ·have HX:Hid (res=false):=by
        show res=false
        rw[HR.out]
        cases hg:grouped with
        |false=>rfl
        |true=>rw[HT.out (fun i hi=>HA hg i (by omega))];rfl
       go_wp2
       go_ret
       exact⟨Aa HX.out.symm,bR.alloc nR _⟩
    ·have hk':¬2<mode:=by omega
     have hk4:decide (2<mode)=false:=decide_eq_false hk'
     cases hk3:(kind==3)
     all_goals
      go_enter func30,ntmps30
      go_wp2_with
       (go_at_call 29;refine(Ak _ _ _ _).mono ?_;rintro e w' ⟨rfl,hw⟩;subst hw)
      go_loop [3] (fun i=> ∃k:Nat,k<=n12/\i= .int .i64 k/\(grouped=true->∀i,i<k->Az (aggs.getD i (0,0)).1 1 4=true)) (fun i=>n12 - (intOf i).toNat)
      case atStart=>exact⟨0,Nat.zero_le _,rfl,fun _ i hi=>absurd hi (Nat.not_lt_zero i)⟩
      case round=>
       obtain⟨k,hk,rfl,hall⟩:=hrel
       have HA:Sg grouped aggs k:=hall
       clear hall
       by_cases hlt:k<n12
       ·obtain⟨b,o,e,x1,x2⟩:=HP.out k (by rw[HN.out];exact hlt)
        subst e
        have hblt:=bLt _ _ x1
        have hblt':b<w.heap.size:=hblt
        have i1:(0:Int)<=(k:Int):=by omega
        have i2:(k:Int)<(n12:Int):=by omega
        obtain⟨z,hz⟩:=nM ((aggs.getD k (0,0)).1)
        have HZ:Hid ((aggs.getD k (0,0)).1=z):=hz
        rw[hz]at x1
        clear x2 hblt hz
        cases grouped with
        |false=>
         go_wp2
         go_round
         case rel=>exact⟨k+1,by omega,by go_num,fun h=>absurd h (by decide)⟩
         case measure=>simp[intOf];omega
        |true=>
         cases hf:Az z 1 4 with
         |true=>
          go_wp2_with
           (go_at_call 29;refine(Ak _ _ _ _).mono ?_;rintro e w' ⟨rfl,hw⟩;subst hw)
          go_round
          case rel=>exact⟨k+1,by omega,by go_num,fun _ i hi=>by
           rcases Nat.lt_succ_iff_lt_or_eq.1 hi with h|h
           ·exact HA rfl i h
           ·rw[h,HZ.out];exact hf⟩
          case measure=>simp[intOf];omega
         |false=>
          have HX:Hid (res=true):=by
           show res=true
           rw[HR.out,HF.out k hlt (by rw[HZ.out];exact hf)];rfl
          go_wp2_with
           (go_at_call 29;refine(Ak _ _ _ _).mono ?_;rintro e w' ⟨rfl,hw⟩;subst hw)
          go_ret
          exact⟨Aa HX.out.symm,bR.alloc nR _⟩
       ·have HX:Hid (res=false):=by
         show res=false
         rw[HR.out]
         cases hg:grouped with
         |false=>rfl
         |true=>rw[HT.out (fun i hi=>HA hg i (by omega))];rfl
        go_wp2
        go_ret
        exact⟨Aa HX.out.symm,bR.alloc nR _⟩
theorem Ga(p:Pln)(x:PA)(w:World):
 Calls Tryz.prog 31 #[Ap p x] w fun e w'=>e= .returned (.bool (!decide (Bi p)))/\Bwz w w':=by
 have HK:Hid ((!decide (Bi p))= !(Jm p&&Jo p&&Az p.limit 1 64)):=by show(!decide (Bi p))=_;rw[KT]
 have HP:Hid (Jm p=if p.kind=1 then tm.Bb p.low&&tm.Bb p.high else decide (p.low=0)&&decide (p.high=0)):=rfl
 have HS:Hid (Jo p=if p.kind=2 then Az p.size 1 1099511627776 else decide (p.size=0)):=rfl
 obtain⟨res,hres⟩:=nM (!decide (Bi p))
 rw[hres]at HK⊢
 rw[HP.out,HS.out]at HK
 clear hres HP HS
 obtain⟨kind,mode,low,high,size,limit,left,right,lkeys,rkeys,grouped,group,aggs⟩:=p
 obtain⟨l,lc,r,rc,lk,lkc,rk,rkc,g,gc,a,ac⟩:=x
 unfold Ap
 dsimp only at HK⊢
 by_cases h1:kind=1
 ·subst h1
  rw[if_pos rfl,if_neg (by decide)]at HK
  cases hl:tm.Bb low<;>rw[hl]at HK
  ·go_enter func31,ntmps31
   go_wp2_with
    (first|(go_at_call 29;refine(Ak _ _ _ _).mono ?_;rintro e w' ⟨rfl,hw⟩;subst hw)|(go_at_call 66;refine(tm.Bg _ _).mono ?_;rintro e w' ⟨rfl,hw⟩;subst hw))
   go_ret
   exact⟨Aa (by rw[HK.out];first|rfl|simp),bR.alloc nR _⟩
  ·cases hh:tm.Bb high<;>rw[hh]at HK
   ·go_enter func31,ntmps31
    go_wp2_with
     (first|(go_at_call 29;refine(Ak _ _ _ _).mono ?_;rintro e w' ⟨rfl,hw⟩;subst hw)|(go_at_call 66;refine(tm.Bg _ _).mono ?_;rintro e w' ⟨rfl,hw⟩;subst hw))
    go_ret
    exact⟨Aa (by rw[HK.out];first|rfl|simp),bR.alloc nR _⟩
   ·by_cases hs:size=0
    ·subst hs
     go_enter func31,ntmps31
     go_wp2_with
      (first|(go_at_call 29;refine(Ak _ _ _ _).mono ?_;rintro e w' ⟨rfl,hw⟩;subst hw)|(go_at_call 66;refine(tm.Bg _ _).mono ?_;rintro e w' ⟨rfl,hw⟩;subst hw))
     go_ret
     exact⟨Aa (by rw[HK.out];first|rfl|simp),bR.alloc nR _⟩
    ·have hs':(size !=0)=true:=by simpa using hs
     rw[decide_eq_false hs]at HK
     clear hs
     go_enter func31,ntmps31
     go_wp2_with
      (first|(go_at_call 29;refine(Ak _ _ _ _).mono ?_;rintro e w' ⟨rfl,hw⟩;subst hw)|(go_at_call 66;refine(tm.Bg _ _).mono ?_;rintro e w' ⟨rfl,hw⟩;subst hw))
     go_ret
     exact⟨Aa (by rw[HK.out];first|rfl|simp),bR.alloc nR _⟩
 ·rw[if_neg h1]at HK
  have h1':(kind==1)=false:=by simpa using h1
  have h1'':(kind !=1)=true:=by simpa using h1
  by_cases hl:low=0
  ·subst hl
   rw[show decide ((0:Int)=0)=true by decide]at HK
   by_cases hh:high=0
   ·subst hh
    rw[show decide ((0:Int)=0)=true by decide]at HK
    by_cases h2:kind=2
    ·subst h2
     rw[if_pos rfl]at HK
     cases hs:Az size 1 1099511627776<;>rw[hs]at HK
     all_goals
      go_enter func31,ntmps31
      go_wp2_with
       (first|(go_at_call 29;refine(Ak _ _ _ _).mono ?_;rintro e w' ⟨rfl,hw⟩;subst hw)|(go_at_call 66;refine(tm.Bg _ _).mono ?_;rintro e w' ⟨rfl,hw⟩;subst hw))
      go_ret
      exact⟨Aa (by rw[HK.out];first|rfl|simp),bR.alloc nR _⟩
    ·rw[if_neg h2]at HK
     have h2':(kind==2)=false:=by simpa using h2
     have h2'':(kind !=2)=true:=by simpa using h2
     clear h1 h2
     by_cases hs:size=0
     ·subst hs
      go_enter func31,ntmps31
      go_wp2_with
       (first|(go_at_call 29;refine(Ak _ _ _ _).mono ?_;rintro e w' ⟨rfl,hw⟩;subst hw)|(go_at_call 66;refine(tm.Bg _ _).mono ?_;rintro e w' ⟨rfl,hw⟩;subst hw))
      go_ret
      exact⟨Aa (by rw[HK.out];first|rfl|simp),bR.alloc nR _⟩
     ·have hs':(size !=0)=true:=by simpa using hs
      rw[decide_eq_false hs]at HK
      clear hs
      go_enter func31,ntmps31
      go_wp2_with
       (first|(go_at_call 29;refine(Ak _ _ _ _).mono ?_;rintro e w' ⟨rfl,hw⟩;subst hw)|(go_at_call 66;refine(tm.Bg _ _).mono ?_;rintro e w' ⟨rfl,hw⟩;subst hw))
      go_ret
      exact⟨Aa (by rw[HK.out];first|rfl|simp),bR.alloc nR _⟩
   ·have hh':(high !=0)=true:=by simpa using hh
    rw[decide_eq_false hh]at HK
    clear hh h1
    go_enter func31,ntmps31
    go_wp2_with
     (first|(go_at_call 29;refine(Ak _ _ _ _).mono ?_;rintro e w' ⟨rfl,hw⟩;subst hw)|(go_at_call 66;refine(tm.Bg _ _).mono ?_;rintro e w' ⟨rfl,hw⟩;subst hw))
    go_ret
    exact⟨Aa (by rw[HK.out];first|rfl|simp),bR.alloc nR _⟩
  ·have hl':(low !=0)=true:=by simpa using hl
   rw[decide_eq_false hl]at HK
   clear hl h1
   go_enter func31,ntmps31
   go_wp2_with
    (first|(go_at_call 29;refine(Ak _ _ _ _).mono ?_;rintro e w' ⟨rfl,hw⟩;subst hw)|(go_at_call 66;refine(tm.Bg _ _).mono ?_;rintro e w' ⟨rfl,hw⟩;subst hw))
   go_ret
   exact⟨Aa (by rw[HK.out];first|rfl|simp),bR.alloc nR _⟩
theorem Mf(p:Pln)(x:PA)(w:World)(hw:wfPlan p):
 Calls Tryz.prog 32 #[Ap p x] w fun e w'=>e= .returned (.bool (!decide (BG p)))/\Bwz w w':=by
 have HK:Hid ((!decide (BG p))= !(Az p.left.length 1 4&&(Az p.right.length 1 4&&(Az p.lkeys.length 1 4&&Az p.rkeys.length 1 4))&&IR p)):=by show(!decide (BG p))=_;rw[O1];rfl
 have HG:Hid (IR p=if p.grouped=true then Az p.aggs.length 1 4&&decide ((p.group.length:Int)<=8 - p.aggs.length)else decide (p.group.length=0)&&decide (p.aggs.length=0)):=rfl
 rw[HG.out]at HK
 obtain⟨res,hres⟩:=nM (!decide (BG p))
 rw[hres]at HK⊢
 have l11:=hw.g
 have l12:=hw.a
 clear hres HG hw
 obtain⟨kind,mode,low,high,size,limit,left,right,lkeys,rkeys,grouped,group,aggs⟩:=p
 obtain⟨l,lc,r,rc,lk,lkc,rk,rkc,g,gc,a,ac⟩:=x
 unfold Ap
 dsimp only at HK l11 l12⊢
 obtain⟨n6,h6⟩:∃n,left.length=n:=⟨_,rfl⟩
 obtain⟨n7,h7⟩:∃n,right.length=n:=⟨_,rfl⟩
 obtain⟨n8,h8⟩:∃n,lkeys.length=n:=⟨_,rfl⟩
 obtain⟨n9,h9⟩:∃n,rkeys.length=n:=⟨_,rfl⟩
 obtain⟨n11,h11⟩:∃n,group.length=n:=⟨_,rfl⟩
 obtain⟨n12,h12⟩:∃n,aggs.length=n:=⟨_,rfl⟩
 rw[h6,h7,h8,h9,h11,h12]at HK
 rw[h11]at l11
 rw[h12]at l12
 rw[h6,h7,h8,h9,h11,h12]
 clear h6 h7 h8 h9 h11 h12
 cases b6:Az n6 1 4<;>rw[b6]at HK
 ·go_enter func32,ntmps32
  go_wp2_with
   (first|(go_at_call 29;refine(Ak _ _ _ _).mono ?_;rintro e w' ⟨rfl,hw⟩;subst hw)|(go_at_call 66;refine(tm.Bg _ _).mono ?_;rintro e w' ⟨rfl,hw⟩;subst hw))
  go_ret
  exact⟨Aa (by rw[HK.out];first|rfl|simp),bR.alloc nR _⟩
 cases b7:Az n7 1 4<;>rw[b7]at HK
 ·go_enter func32,ntmps32
  go_wp2_with
   (first|(go_at_call 29;refine(Ak _ _ _ _).mono ?_;rintro e w' ⟨rfl,hw⟩;subst hw)|(go_at_call 66;refine(tm.Bg _ _).mono ?_;rintro e w' ⟨rfl,hw⟩;subst hw))
  go_ret
  exact⟨Aa (by rw[HK.out];first|rfl|simp),bR.alloc nR _⟩
 cases b8:Az n8 1 4<;>rw[b8]at HK
 ·go_enter func32,ntmps32
  go_wp2_with
   (first|(go_at_call 29;refine(Ak _ _ _ _).mono ?_;rintro e w' ⟨rfl,hw⟩;subst hw)|(go_at_call 66;refine(tm.Bg _ _).mono ?_;rintro e w' ⟨rfl,hw⟩;subst hw))
  go_ret
  exact⟨Aa (by rw[HK.out];first|rfl|simp),bR.alloc nR _⟩
 cases b9:Az n9 1 4<;>rw[b9]at HK
 ·go_enter func32,ntmps32
  go_wp2_with
   (first|(go_at_call 29;refine(Ak _ _ _ _).mono ?_;rintro e w' ⟨rfl,hw⟩;subst hw)|(go_at_call 66;refine(tm.Bg _ _).mono ?_;rintro e w' ⟨rfl,hw⟩;subst hw))
  go_ret
  exact⟨Aa (by rw[HK.out];first|rfl|simp),bR.alloc nR _⟩
 cases grouped
 ·rw[if_neg (by decide)]at HK
  by_cases h12:n12=0
  ·subst h12
   go_enter func32,ntmps32
   go_wp2_with
    (first|(go_at_call 29;refine(Ak _ _ _ _).mono ?_;rintro e w' ⟨rfl,hw⟩;subst hw)|(go_at_call 66;refine(tm.Bg _ _).mono ?_;rintro e w' ⟨rfl,hw⟩;subst hw))
   go_ret
   exact⟨Aa (by rw[HK.out];exact Bool.eq_iff_iff.2 (by simp;try omega)),bR.alloc nR _⟩
  ·have h12':(0:Int)<n12:=by omega
   rw[decide_eq_false h12,Bool.and_false]at HK
   clear h12
   go_enter func32,ntmps32
   go_wp2_with
    (first|(go_at_call 29;refine(Ak _ _ _ _).mono ?_;rintro e w' ⟨rfl,hw⟩;subst hw)|(go_at_call 66;refine(tm.Bg _ _).mono ?_;rintro e w' ⟨rfl,hw⟩;subst hw))
   go_ret
   exact⟨Aa (by rw[HK.out];first|rfl|simp),bR.alloc nR _⟩
 ·rw[if_pos rfl]at HK
  cases b12:Az n12 1 4<;>rw[b12]at HK
  ·go_enter func32,ntmps32
   go_wp2_with
    (first|(go_at_call 29;refine(Ak _ _ _ _).mono ?_;rintro e w' ⟨rfl,hw⟩;subst hw)|(go_at_call 66;refine(tm.Bg _ _).mono ?_;rintro e w' ⟨rfl,hw⟩;subst hw))
   go_ret
   exact⟨Aa (by rw[HK.out];first|rfl|simp),bR.alloc nR _⟩
  ·obtain⟨u1,u2⟩:=(AJ _ _ _).1 b12
   go_enter func32,ntmps32
   go_wp2_with
    (first|(go_at_call 29;refine(Ak _ _ _ _).mono ?_;rintro e w' ⟨rfl,hw⟩;subst hw)|(go_at_call 66;refine(tm.Bg _ _).mono ?_;rintro e w' ⟨rfl,hw⟩;subst hw))
   go_ret
   exact⟨Aa (by rw[HK.out];exact Bool.eq_iff_iff.2 (by simp;try omega)),bR.alloc nR _⟩
end pl
end Go.Proofs.YtdohnkkbkfhphaaGreat
