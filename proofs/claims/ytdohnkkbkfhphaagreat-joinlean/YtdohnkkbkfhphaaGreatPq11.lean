import Derived.Test.YtdohnkkbkfhphaaGreatPq10
import Derived.Lib.AppendZerosOnto
set_option linter.all false
set_option maxHeartbeats 4000000
set_option maxRecDepth 100000
namespace Go.Proofs.YtdohnkkbkfhphaaGreat
open Go.Proofs.Tryz
namespace pl
open Go.ChangeShapes Go.WideShapes Go.ChangeAt Go.RowKit
open vl
variable {w : World} {base n : Nat} {l : List Int} {x : Int}
theorem Tryz.info3:(Tryz.prog.info? 3).map (fun i=>(i.zero,i.size,i.bytes))=some (some (.int .i64 0),1,8):=by kernel_rfl
def GF(n:Int):Value:=.int .i64 n
def Dn(w:World)(base:Nat)(v:Value)(l:List Int):Prop:=w.ownsRow base 3 1 v l.length (l.map GF)
theorem Qs(b off j:Nat):(⟨b,off,none⟩:Addr).add j=⟨b,off+j,none⟩:=by unfold Addr.add;split<;>simp_all
theorem C1{e:TypeId}{size:Nat}{v:Value}{xs:List Value}(h:w.ownsRow base e size v n xs):∃ad cap,v= .slice ad n cap/\(0<n->∃g,ad=some ⟨g,0,none⟩):=by
 rcases h.2 with⟨rfl,h0⟩|⟨g,cap,cur,rfl,_⟩
 ·exact⟨none,0,by rw[h0],fun h=>absurd h0 (by omega)⟩
 ·exact⟨_,_,rfl,fun _=>⟨g,rfl⟩⟩
theorem Mz{ad:Option Addr}{cap:Nat}(h:Dn w base (.slice ad n cap) l):A4 w ad l/\n=l.length:=by
 obtain⟨ad',cap',hv,hg⟩:=C1 h
 injection hv with ha hn hc
 subst ha hc
 refine⟨fun i hi=>?_,hn⟩
 obtain⟨g,rfl⟩:=hg (by omega)
 have hc:=World.ownsRow.cells h (g:=g) rfl i (GF (l.getD i 0)) (by simp[List.getElem?_map,gDe,hi])
 rw[Qs]at hc
 exact⟨g,0,rfl,hc⟩
theorem Ge(v:Value)(h:v.cells.size=1)(n:Nat):(Builtin.zeroCells v.cells n).size=n:=by
 simp[Builtin.zeroCells,h]
theorem TT(n:Nat)(w:World)(hn:n<=1000):
 Calls Tryz.prog 207 #[.slice none 0 0,.int .i64 n] w fun e w'=>(∃v,e= .returned v/\Dn w' w.heap.size v [])/\Bwz w w':=by
 obtain⟨i0,hi,hz0,hz1,hz2⟩:=info_parts Tryz.info3
 by_cases h0:n=0
 ·subst h0
  go_enter func207,ntmps207
  go_wp2
  go_ret
  exact⟨⟨_,rfl,World.ownsRow_nil _ _ _ _⟩,bR⟩
 ·have hrz:∀ty,(Builtin.append_ #[22,3] ty #[.slice none 0 0,.int .i64 (n:Int)]).run Tryz.prog w=
   .ok (.slice (some ⟨w.heap.size,0,none⟩) n (grownCap w n 0 3)) (w.drew.alloc (.cells (Builtin.zeroCells (Value.int .i64 0).cells n++Builtin.zeroCells (Value.int .i64 0).cells (grownCap w n 0 3 - n)) 3)):=fun ty=>by
   have h:=Lib.run_append_grow_zeros w 22 3 ty 3 i0 (.int .i64 0) .i64 .i64 underlying22 underlying3 hi hz0 none 0 0 [] (run_firstCells_none w.drew i0.size 0 0 0) n (by omega) (by omega) (by omega) (by omega) (by rw[hz2];omega) (growslice_fits (by omega) (by rw[hz2];omega))
   simpa using h
  have hG1:n<=grownCap w n 0 3:=grownCap_ge w _ _ _
  have hG2:grownCap w n 0 3<=maxLen:=grownCap_le_maxLen w n 0 3 (by unfold maxLen;omega)
  obtain⟨G,hG⟩:∃G,G=grownCap w n 0 3:=⟨_,rfl⟩
  rw[<-hG]at hrz hG1 hG2
  have hsz:(Builtin.zeroCells (Value.int .i64 0).cells n++Builtin.zeroCells (Value.int .i64 0).cells (G - n)).size=G * 1:=by
   rw[Array.size_append,Ge _ rfl,Ge _ rfl];omega
  obtain⟨cur,hcur⟩:∃c,Builtin.zeroCells (Value.int .i64 0).cells n++Builtin.zeroCells (Value.int .i64 0).cells (G - n)=c:=⟨_,rfl⟩
  rw[hcur]at hrz hsz
  have HO:Hid (Dn (w.drew.alloc (.cells cur 3)) w.heap.size (.slice (some ⟨w.heap.size,0,none⟩) 0 G) []):=World.ownsRow_made (base:=w.heap.size) (e:=3) (size:=1) w.drew cur G nR hG2 hsz
  have hp:0<(n:Int):=by omega
  unfold maxLen at hG2
  clear hcur hG hi hz0 hz1 hz2
  go_enter func207,ntmps207
  go_wp2_with (at_builtin;refine Lib.wpList_append_run _ rfl _ _ _ _ rfl _ _ rfl rfl _ _ (hrz _) ?_)
  go_ret
  exact⟨⟨_,rfl,HO.out⟩,(bR.drew).alloc nR _⟩
theorem NR(l:List Int):∀u∈l.map GF,u.oneCell'=true:=by
 intro u hu
 obtain⟨n,_,rfl⟩:=List.mem_map.1 hu
 rfl
theorem Kh{b off:Nat}(h:A4 w (some ⟨b,off,none⟩) l):∀j u,(l.map GF)[j]? =some u->w.cell? ((⟨b,off,none⟩:Addr).add j)=some u:=by
 intro j u hu
 rw[List.getElem?_map]at hu
 obtain⟨n,hn,rfl⟩:=Option.map_eq_some_iff.1 hu
 obtain⟨hj,hjn⟩:=List.getElem?_eq_some_iff.1 hn
 obtain⟨b',o',e,x⟩:=h j hj
 cases e
 rw[Qs,x]
 simp[gDe,hn,GF]
theorem P4(g:Nat)(a1 a2:Option Addr)(c1 c2:Nat)(l1 l2:List Int)(w:World)(n1:0<l1.length)(n2:0<l2.length)(m1:l1.length<=400)(m2:l2.length<=400)(h1:A4 w a1 l1)(h2:A4 w a2 l2)
 (e1:w.cell? ⟨g,0,none⟩=some (.slice a1 l1.length c1)) (e2:w.cell? ⟨g,1,none⟩=some (.slice a2 l2.length c2)):
 Calls Tryz.prog 169 #[.slice (some ⟨g,0,none⟩) 2 2] w fun e w'=>(∃ad cap,e= .returned (.slice ad (l1++l2).length cap)/\Dn w' w.heap.size (.slice ad (l1++l2).length cap) (l1++l2))/\Bwz w w':=by
 obtain⟨i0,hi,hz0,hz1,hz2⟩:=info_parts Tryz.info3
 have HI:Hid (Tryz.prog.info? 3=some i0/\i0.zero=some (.int .i64 0)/\i0.size=1/\i0.bytes=8):=⟨hi,hz0,hz1,hz2⟩
 clear hi hz0 hz1 hz2
 obtain⟨b1,o1,rfl,_⟩:=h1 0 n1
 obtain⟨b2,o2,rfl,_⟩:=h2 0 n2
 have HC1:Hid (∀w',Bwz w w'->∀j u,(l1.map GF)[j]? =some u->w'.cell? ((⟨b1,o1,none⟩:Addr).add j)=some u):=fun w' hb=>Kh (At h1 hb)
 have HC2:Hid (∀w',Bwz w w'->∀j u,(l2.map GF)[j]? =some u->w'.cell? ((⟨b2,o2,none⟩:Addr).add j)=some u):=fun w' hb=>Kh (At h2 hb)
 have hp1:Hid ((l1.map GF).length=l1.length):=lMp ..
 have hp2:Hid ((l2.map GF).length=l2.length):=lMp ..
 clear h1 h2
 obtain⟨k1,hk1⟩:∃n,l1.length=n:=⟨_,rfl⟩
 obtain⟨k2,hk2⟩:∃n,l2.length=n:=⟨_,rfl⟩
 have HK1:Hid (l1.length=k1):=hk1
 have HK2:Hid (l2.length=k2):=hk2
 rw[hk1]at n1 m1 e1 hp1
 rw[hk2]at n2 m2 e2 hp2
 rw[lAp,hk1,hk2]
 clear hk1 hk2
 have HG:Hid (∀w1,Calls Tryz.prog 207 #[.slice none 0 0,.int .i64 ((k1:Int)+k2)] w1 fun e w'=>(∃v,e= .returned v/\Dn w' w1.heap.size v [])/\Bwz w1 w'):=fun w1=>by
  have h:=TT (k1+k2) w1 (by omega)
  rwa[Int.natCast_add]at h
 go_enter func169,ntmps169
 go_wp2
 go_loop [3,11] (fun s i=>(i= .int .i64 0/\s= .int .i64 0)\/(i= .int .i64 1/\s= .int .i64 k1)\/(i= .int .i64 2/\s= .int .i64 ((k1:Int)+k2))) (fun _ i=>2 - (intOf i).toNat)
 case atStart=>exact .inl ⟨rfl,rfl⟩
 case round=>
  rcases hrel with⟨rfl,rfl⟩|⟨rfl,rfl⟩|⟨rfl,rfl⟩
  ·go_wp2
   go_round
   case rel=>exact .inr (.inl ⟨rfl,rfl⟩)
   case measure=>simp[intOf]
  ·go_wp2
   go_round
   case rel=>exact .inr (.inr ⟨rfl,rfl⟩)
   case measure=>simp[intOf]
  ·go_wp2_with fail
   refine(HG.out _).mono ?_
   rintro e w1 ⟨⟨v,rfl,hown⟩,hb1⟩
   have f1:=cLz hb1 e1
   have f2:=cLz hb1 e2
   have HO:Hid (Dn w1 w.heap.size v []):=hown
   clear hown
   go_wp2
   go_loopw [6,27] (fun x i wr=> ∃l:List Int,((i= .int .i64 0/\l=[])\/(i= .int .i64 1/\l=l1)\/(i= .int .i64 2/\l=l1++l2))/\Dn wr w.heap.size x l/\Bwz w wr) (fun _ i _=>2 - (intOf i).toNat)
   case atStart=>exact⟨[],.inl ⟨rfl,rfl⟩,HO.out,hb1⟩
   case round=>
    obtain⟨l,hl,hol,hbl⟩:=hrel
    have g1:=cLz hbl e1
    have g2:=cLz hbl e2
    have HOL:Hid (Dn wr w.heap.size u6 l):=hol
    have hsz:=hbl.size
    clear hol f1 f2 hb1 HO
    have hl':(u27= .int .i64 0/\[]=l)\/(u27= .int .i64 1/\l1=l)\/(u27= .int .i64 2/\l1++l2=l):=by
     rcases hl with⟨h1,h2⟩|⟨h1,h2⟩|⟨h1,h2⟩
     ·exact .inl ⟨h1,h2.symm⟩
     ·exact .inr (.inl ⟨h1,h2.symm⟩)
     ·exact .inr (.inr ⟨h1,h2.symm⟩)
    clear hl
    rcases hl' with⟨rfl,rfl⟩|⟨rfl,rfl⟩|⟨rfl,rfl⟩
    ·go_wp2_with (at_builtin;refine wpList_append_own _ rfl (.tmp 31) (.tmp 32) 22 rfl w.heap.size 3 i0 (.int .i64 0) 1 8 underlying22 HI.out.1 HI.out.2.1 HI.out.2.2.1 HI.out.2.2.2 rfl (by decide) _ _ _ rfl HOL.out ⟨b1,o1,none⟩ k1 c1 (l1.map GF) rfl (by rw[hp1.out,Nat.mul_one]) (HC1.out _ hbl) (NR l1) (by unfold maxLen;(simp only[List.length_nil];omega)) (by(simp only[List.length_nil];omega)) hsz ?_;intro v2 w3 hown3 hgrow3 hnil3)
     have HN:Hid (Dn w3 w.heap.size v2 (l1)):=by
      show w3.ownsRow _ _ _ _ (l1).length ((l1).map GF)
      simpa[HK1.out]using hown3
     obtain⟨ad,cp,hv,hg⟩:=C1 hown3
     subst hv
     go_roundw
     case rel=>exact⟨l1,.inr (.inl ⟨rfl,rfl⟩),HN.out,hbl.grown hgrow3 hsz (fun b hb=>(World.ownsRow.lt HOL.out b hb).1)⟩
     case measure=>simp[intOf]
    ·go_wp2_with (at_builtin;refine wpList_append_own _ rfl (.tmp 31) (.tmp 32) 22 rfl w.heap.size 3 i0 (.int .i64 0) 1 8 underlying22 HI.out.1 HI.out.2.1 HI.out.2.2.1 HI.out.2.2.2 rfl (by decide) _ _ _ rfl HOL.out ⟨b2,o2,none⟩ k2 c2 (l2.map GF) rfl (by rw[hp2.out,Nat.mul_one]) (HC2.out _ hbl) (NR l2) (by unfold maxLen;(rw[HK1.out];omega)) (by(rw[HK1.out];omega)) hsz ?_;intro v2 w3 hown3 hgrow3 hnil3)
     have HN:Hid (Dn w3 w.heap.size v2 (l1++l2)):=by
      show w3.ownsRow _ _ _ _ (l1++l2).length ((l1++l2).map GF)
      rw[lAp,List.map_append,HK2.out];exact hown3
     obtain⟨ad,cp,hv,hg⟩:=C1 hown3
     subst hv
     go_roundw
     case rel=>exact⟨l1++l2,.inr (.inr ⟨rfl,rfl⟩),HN.out,hbl.grown hgrow3 hsz (fun b hb=>(World.ownsRow.lt HOL.out b hb).1)⟩
     case measure=>simp[intOf]
    ·obtain⟨ad,cp,hv,hg⟩:=C1 HOL.out
     have hll:(l1++l2).length=k1+k2:=by rw[lAp,HK1.out,HK2.out]
     rw[hll]at hv
     subst hv
     go_wp2
     go_ret
     exact⟨⟨ad,cp,rfl,HOL.out⟩,hbl⟩
theorem C0(p:Pln)(x:PA)(w:World)(hp:planAt w p x)(n1:0<p.left.length)(n2:0<p.right.length)(m1:p.left.length<=400)(m2:p.right.length<=400):
 Calls Tryz.prog 124 #[As p x] w fun e w'=>(∃ad cap,e= .returned (.slice ad (Cy p).length cap)/\Dn w' w.heap.size (.slice ad (Cy p).length cap) (Cy p))/\Bwz w w':=by
 have K:Hid (∀g w1,Bwz w w1->w1.cell? ⟨g,0,none⟩=some (.slice x.l p.left.length x.lc)->w1.cell? ⟨g,1,none⟩=some (.slice x.r p.right.length x.rc)->
  Calls Tryz.prog 169 #[.slice (some ⟨g,0,none⟩) 2 2] w1 fun e w'=>(∃ad cap,e= .returned (.slice ad (Cy p).length cap)/\Dn w' w1.heap.size (.slice ad (Cy p).length cap) (Cy p))/\Bwz w1 w'):=
  fun g w1 hb e1 e2=>P4 g x.l x.r x.lc x.rc p.left p.right w1 n1 n2 m1 m2 (At hp.l hb) (At hp.r hb) e1 e2
 obtain⟨cn,hcn⟩:=nM ((Cy p).length)
 rw[hcn]at K⊢
 clear hcn
 obtain⟨cs,hcs⟩:=nM (Cy p)
 rw[hcs]at K⊢
 clear hcs hp n1 n2 m1 m2
 obtain⟨kind,mode,low,high,size,limit,left,right,lkeys,rkeys,grouped,group,aggs⟩:=p
 obtain⟨l,lc,r,rc,lk,lkc,rk,rkc,g,gc,a,ac⟩:=x
 unfold As
 dsimp only at K⊢
 obtain⟨n6,h6⟩:∃n,left.length=n:=⟨_,rfl⟩
 obtain⟨n7,h7⟩:∃n,right.length=n:=⟨_,rfl⟩
 rw[h6,h7]at K
 rw[h6,h7]
 clear h6 h7
 go_enter func124,ntmps124
 go_wp2_with (go_at_call 169;refine(K.out _ _ ((bR.alloc nR _).alloc (by simp) _) (by go_simp) (by go_simp)).mono ?_;rintro e w1 ⟨⟨ad,cap,rfl,ho⟩,hb1⟩)
 go_ret
 exact⟨⟨ad,cap,rfl,⟨ho.1,ho.2.imp id (fun⟨g,c,cur,h1,h2,h3⟩=>⟨g,c,cur,h1,by simp at h2;omega,h3⟩)⟩⟩,((bR.alloc nR _).alloc (by simp) _).trans (hb1.mono (by simp;omega))⟩
theorem TU(i c:Int)(w:World):
 Calls Tryz.prog 125 #[.int .i64 i,.int .i64 c] w fun e w'=>e= .returned (.bool (Br c 1 3))/\Bwz w w':=by
 go_enter func125,ntmps125
 go_wp2_with (go_at_call 117;refine(B9 _ _ _ _).mono ?_;rintro e w' ⟨rfl,hw⟩;subst hw)
 go_ret
 exact⟨rfl,bR⟩
theorem RT(p:Pln):decide (Cv p)=allB (Cy p).length (fun i=>Br ((Cy p).getD i 0) 1 3):=by
 refine(Dh ?_).symm
 unfold Cv
 rw[AJ]
 simp only[Bw]
 exact Fp (Q:=fun c:Int=>1<=c/\c<=3)
theorem Ki(p:Pln)(x:PA)(w:World)(hp:planAt w p x)(n1:0<p.left.length)(n2:0<p.right.length)(m1:p.left.length<=400)(m2:p.right.length<=400):
 Calls Tryz.prog 63 #[As p x] w fun e w'=>e= .returned (.bool (decide (Cv p)))/\Bwz w w':=by
 have K:Hid (∀w1,Bwz w w1->Calls Tryz.prog 124 #[As p x] w1 fun e w'=>(∃ad cap,e= .returned (.slice ad (Cy p).length cap)/\Dn w' w1.heap.size (.slice ad (Cy p).length cap) (Cy p))/\Bwz w1 w'):=
  fun w1 hb=>C0 p x w1 (Ah hp hb) n1 n2 m1 m2
 have hcl:(Cy p).length<=800:=by unfold Cy;rw[lAp];omega
 have HE:Hid (∀ad cap w1,A4 w1 ad (Cy p)->Calls Tryz.prog 123 #[.slice ad (Cy p).length cap,.func (.func 125) #[] #[]] w1 fun e w'=>e= .returned (.bool (decide (Cv p)))/\Bwz w1 w'):=by
  intro ad cap w1 hi
  rw[RT]
  exact EZ 125 (enters_of func125 (by kernel_rfl) rfl) #[] (fun i=>Br ((Cy p).getD i 0) 1 3) ad cap (Cy p) w1 (by omega) hi (fun i w2 _ _=>TU i _ w2)
 obtain⟨tb,htb⟩:=nM (decide (Cv p))
 rw[htb]at HE⊢
 obtain⟨cn,hcn⟩:=nM ((Cy p).length)
 rw[hcn]at K HE
 obtain⟨cs,hcs⟩:=nM (Cy p)
 rw[hcs]at K HE
 clear hcs hcl hcn htb hp n1 n2 m1 m2
 obtain⟨kind,mode,low,high,size,limit,left,right,lkeys,rkeys,grouped,group,aggs⟩:=p
 obtain⟨l,lc,r,rc,lk,lkc,rk,rkc,g,gc,a,ac⟩:=x
 unfold As at K⊢
 dsimp only at K⊢
 go_enter func63,ntmps63
 go_wp2_with (first
  |(go_at_call 124;refine(K.out _ (bR.alloc nR _)).mono ?_;rintro e w1 ⟨⟨ad,cap,rfl,ho⟩,hb1⟩;have hba:=(bR.alloc nR _).trans (hb1.mono (by simp)))
  |(go_at_call 123;refine(HE.out _ _ _ (Mz ho).1).mono ?_;rintro e w2 ⟨rfl,hb2⟩))
 go_ret
 exact⟨rfl,hba.trans (hb2.mono hba.size)⟩
def M0(l:List Int)(x:Int):Int:=if l.findIdx (· ==x)<l.length then((l.findIdx (· ==x):Nat):Int)else -1
theorem TV{k:Nat}(hk:k<l.length)(h:l.getD k 0=x)(hn:∀i,i<k->l.getD i 0≠x):M0 l x=k:=by
 have e:l.findIdx (· ==x)=k:=by
  rw[List.findIdx_eq hk]
  refine⟨by simpa[gDe,hk]using h,fun j hj=>?_⟩
  have:=hn j hj
  simpa[gDe,show j<l.length by omega]using this
 unfold M0
 rw[e,if_pos hk]
theorem TW(hn:∀i,i<l.length->l.getD i 0≠x):M0 l x= -1:=by
 unfold M0
 rw[if_neg]
 intro h
 have h1:=List.findIdx_getElem (w:=h)
 have h2:=hn _ h
 simp only[gDe,gEe h,Option.getD_some]at h2
 exact h2 (by simpa using h1)
theorem RU(a:Option Addr)(cap:Nat)(l:List Int)(x:Int)(w:World)(hl:l.length<=9223372036854775807)(ha:A4 w a l):
 Calls Tryz.prog 173 #[.slice a l.length cap,.int .i64 x] w fun e w'=>e= .returned (.int .i64 (M0 l x))/\w'=w:=by
 obtain⟨n,hn⟩:∃n,l.length=n:=⟨_,rfl⟩
 have HN:Hid (l.length=n):=hn
 rw[hn]at hl⊢
 clear hn
 go_enter func173,ntmps173
 go_wp2
 go_loop [8] (fun i=> ∃k:Nat,k<=n/\i= .int .i64 k/\∀i,i<k->l.getD i 0≠x) (fun i=>n - (intOf i).toNat)
 case atStart=>exact⟨0,Nat.zero_le _,rfl,fun i hi=>absurd hi (Nat.not_lt_zero i)⟩
 case round=>
  obtain⟨k,hk,rfl,hall⟩:=hrel
  have HA:Hid (∀i,i<k->l.getD i 0≠x):=hall
  clear hall
  by_cases hlt:k<n
  ·obtain⟨b,o,e,x1⟩:=ha k (by rw[HN.out];exact hlt)
   subst e
   clear ha
   have i1:(0:Int)<=(k:Int):=by omega
   have i2:(k:Int)<(n:Int):=by omega
   obtain⟨z,hz⟩:=nM (l.getD k 0)
   have HZ:Hid (l.getD k 0=z):=hz
   rw[hz]at x1
   clear hz
   by_cases he:x=z
   ·subst he
    have HE:Hid (M0 l x=k):=TV (by rw[HN.out];exact hlt) HZ.out HA.out
    go_wp2
    go_ret
    exact⟨Ao HE.out.symm,rfl⟩
   ·have hb:(x==z)=false:=by simpa using he
    have HE:Hid (l.getD k 0≠x):=by show l.getD k 0≠x;rw[HZ.out];exact fun h=>he h.symm
    clear he
    go_wp2
    go_round
    case rel=>exact⟨k+1,by omega,by go_num,fun i hi=>by
     rcases Nat.lt_succ_iff_lt_or_eq.1 hi with h|h
     ·exact HA.out i h
     ·rw[h];exact HE.out⟩
    case measure=>simp[intOf];omega
  ·have HE:Hid (M0 l x= -1):=TW (fun i hi=>HA.out i (by rw[HN.out]at hi;omega))
   go_wp2
   go_ret
   exact⟨Ao HE.out.symm,rfl⟩
theorem DB(x:Int)(a:Option Addr)(n cap:Nat)(w:World)(hn:n<=9223372036854775807):
 Calls Tryz.prog 172 #[.int .i64 x,.slice a n cap] w fun e w'=>e= .returned (.bool (Br x 0 ((n:Int) - 1)))/\w'=w:=by
 go_enter func172,ntmps172
 go_wp2_with (go_at_call 117;refine(B9 _ _ _ _).mono ?_;rintro e w' ⟨rfl,hw⟩;subst hw)
 go_ret
 exact⟨rfl,rfl⟩
def Kj(l:List Int)(n:Nat)(i:Nat):Bool:=Br (l.getD i 0) 0 ((n:Int) - 1)&&decide (M0 l (l.getD i 0)=i)
theorem FC{i:Nat}(h:i<l.length):l.getD i 0=l[i]:=by simp[gDe,h]
theorem P5(l:List Int)(n:Nat):decide (AF l n)=allB l.length (Kj l n):=by
 refine(Dh ?_).symm
 rw[AJ]
 unfold AF Kj
 simp only[Bool.and_eq_true,Bw,decide_eq_true_eq]
 constructor
 ·intro h
  refine⟨(Fp (Q:=fun x:Int=>0<=x/\x<(n:Int))).1 (fun i hi=>⟨(h i hi).1.1,by have:=(h i hi).1.2;omega⟩),?_⟩
  rw[List.pairwise_iff_getElem]
  intro i j hi hj hij e
  have h1:=(h i hi).2
  have h2:=(h j hj).2
  rw[FC hi]at h1
  rw[FC hj,<-e]at h2
  omega
 ·intro ⟨h1,h2⟩ i hi
  have h3:=h1 _ (DT (d:=0) hi)
  refine⟨⟨h3.1,by omega⟩,TV hi rfl (fun j hj=>?_)⟩
  rw[List.pairwise_iff_getElem]at h2
  rw[FC hi,FC (by omega)]
  exact h2 j i (by omega) hi hj
theorem Vy(i:Nat)(b1 b2:Nat)(a1 a2:Option Addr)(c1 c2 n:Nat)(l:List Int)(w:World)(hl:l.length<=9223372036854775807)(hn:n<=9223372036854775807)(ha:A4 w a1 l)
 (h2:w.cell? ⟨b2,0,none⟩=some (.slice a2 n c2)) (h1:w.cell? ⟨b1,0,none⟩=some (.slice a1 l.length c1)):
 Calls Tryz.prog 171 #[.int .i64 i,.int .i64 (l.getD i 0),.pointer (some ⟨b2,0,none⟩),.pointer (some ⟨b1,0,none⟩)] w fun e w'=>e= .returned (.bool (Kj l n i))/\Bwz w w':=by
 have K:=hIz (fun(w1:World) x (h:A4 w1 a1 l)=>RU a1 c1 l x w1 hl h)
 have HB:Hid (Kj l n i=(Br (l.getD i 0) 0 ((n:Int) - 1)&&decide (M0 l (l.getD i 0)=i))):=rfl
 obtain⟨z,hz⟩:=nM (l.getD i 0)
 rw[hz]at HB⊢
 obtain⟨m,hm⟩:=nM l.length
 rw[hm]at K h1
 have HA:Hid (A4 w a1 l):=ha
 clear hz hm ha hl
 cases hb:Br z 0 ((n:Int) - 1)<;>rw[hb]at HB
 all_goals
  go_enter func171,ntmps171
  go_wp2_with (first
   |(go_at_call 172;refine(DB _ _ _ _ _ hn).mono ?_;rintro e w' ⟨rfl,hw⟩;subst hw)
   |(go_at_call 173;refine(K.out _ _ HA.out).mono ?_;rintro e w' ⟨rfl,hw⟩;subst hw))
  go_ret
  exact⟨Aa (by rw[HB.out];exact Bool.eq_iff_iff.2 (by simp)),bR⟩
theorem DG(a1 a2:Option Addr)(c1 c2 n:Nat)(l:List Int)(w:World)(hl:l.length<=9223372036854775807)(hn:n<=9223372036854775807)(ha:A4 w a1 l):
 Calls Tryz.prog 127 #[.slice a1 l.length c1,.slice a2 n c2] w fun e w'=>e= .returned (.bool (decide (AF l n)))/\Bwz w w':=by
 have K:Hid (∀b1 b2 w1,A4 w1 a1 l->w1.cell? ⟨b2,0,none⟩=some (.slice a2 n c2)->w1.cell? ⟨b1,0,none⟩=some (.slice a1 l.length c1)->
  Calls Tryz.prog 123 #[.slice a1 l.length c1,.func (.func 171) #[] #[.pointer (some ⟨b2,0,none⟩),.pointer (some ⟨b1,0,none⟩)]] w1 fun e w'=>e= .returned (.bool (decide (AF l n)))/\Bwz w1 w'):=by
  intro b1 b2 w1 hi e2 e1
  rw[P5]
  exact EZ 171 (enters_of func171 (by kernel_rfl) rfl) #[.pointer (some ⟨b2,0,none⟩),.pointer (some ⟨b1,0,none⟩)] (Kj l n) a1 c1 l w1 hl hi (fun i w2 _ hb=>Vy i b1 b2 a1 a2 c1 c2 n l w2 hl hn (At hi hb) (cLz hb e2) (cLz hb e1))
 obtain⟨m,hm⟩:=nM l.length
 rw[hm]at K⊢
 obtain⟨tb,htb⟩:=nM (decide (AF l n))
 rw[htb]at K⊢
 have HA:Hid (A4 w a1 l):=ha
 clear hm htb ha hl hn
 go_enter func127,ntmps127
 go_wp2_with (go_at_call 123;refine(K.out _ _ _ (At HA.out ((bR.alloc nR _).alloc (by simp) _)) (by go_simp) (by go_simp)).mono ?_;rintro e w1 ⟨rfl,hb1⟩)
 go_ret
 exact⟨rfl,((bR.alloc nR _).alloc (by simp) _).trans (hb1.mono (by simp;omega))⟩
def yes(b:Bool)(P:Prop):Prop:=b=true->P
def NU(p:Pln)(i:Nat):Bool:=decide (p.left.getD (p.lkeys.getD i 0).toNat 0=p.right.getD (p.rkeys.getD i 0).toNat 0)
theorem RV(p:Pln):decide (En p)=allB p.lkeys.length (NU p):=by
 refine(Dh ?_).symm
 rw[AJ]
 unfold En NU
 simp only[decide_eq_true_eq]
def Vz(w:World)(B:Nat)(p:Pln)(x:PA):Prop:=
 w.cell? ⟨B,6,none⟩=some (.slice x.l p.left.length x.lc)/\w.cell? ⟨B,7,none⟩=some (.slice x.r p.right.length x.rc)/\w.cell? ⟨B,9,none⟩=some (.slice x.rk p.rkeys.length x.rkc)
theorem VA(i:Nat)(B:Nat)(p:Pln)(x:PA)(w:World)(hw:wfPlan p)(hb:Vz w B p x)(hp:planAt w p x)(hi:i<p.lkeys.length)(hlen:p.lkeys.length=p.rkeys.length)(h1:AF p.lkeys p.left.length)(h2:AF p.rkeys p.right.length):
 Calls Tryz.prog 170 #[.int .i64 i,.int .i64 (p.lkeys.getD i 0),.pointer (some ⟨B,0,none⟩)] w fun e w'=>e= .returned (.bool (NU p i))/\Bwz w w':=by
 have HB:Hid (NU p i=decide (p.left.getD (p.lkeys.getD i 0).toNat 0=p.right.getD (p.rkeys.getD i 0).toNat 0)):=rfl
 obtain⟨g1,g2,g3⟩:=hb
 have k1:=h1.1 _ (DT (d:=0) hi)
 have k2:=h2.1 _ (DT (d:=0) (show i<p.rkeys.length by omega))
 obtain⟨br,orr,er,xr⟩:=hp.rk i (by omega)
 obtain⟨a1,ha1⟩:=nM (p.lkeys.getD i 0)
 obtain⟨a2,ha2⟩:=nM (p.rkeys.getD i 0)
 rw[ha1]at k1 HB⊢
 rw[ha2]at k2 HB xr
 obtain⟨m1,hm1⟩:=Int.eq_ofNat_of_zero_le k1.1
 obtain⟨m2,hm2⟩:=Int.eq_ofNat_of_zero_le k2.1
 subst hm1 hm2
 rw[Int.toNat_natCast,Int.toNat_natCast]at HB
 obtain⟨bl,ol,el,xl⟩:=hp.l m1 (by omega)
 obtain⟨bq,oq,eq,xq⟩:=hp.r m2 (by omega)
 obtain⟨v1,hv1⟩:=nM (p.left.getD m1 0)
 obtain⟨v2,hv2⟩:=nM (p.right.getD m2 0)
 rw[hv1]at xl HB
 rw[hv2]at xq HB
 rw[el]at g1
 rw[eq]at g2
 rw[er]at g3
 obtain⟨n6,h6⟩:∃n,p.left.length=n:=⟨_,rfl⟩
 obtain⟨n7,h7⟩:∃n,p.right.length=n:=⟨_,rfl⟩
 obtain⟨n9,h9⟩:∃n,p.rkeys.length=n:=⟨_,rfl⟩
 have w6:=hw.l
 have w7:=hw.r
 have w9:=hw.rk
 have hi9:i<n9:=by omega
 rw[h6]at g1 k1 w6
 rw[h7]at g2 k2 w7
 rw[h9]at g3 w9
 obtain⟨k1a,k1b⟩:=k1
 obtain⟨k2a,k2b⟩:=k2
 have i1:(0:Int)<=(i:Int):=by omega
 have i2:(i:Int)<(n9:Int):=by omega
 clear ha1 ha2 hv1 hv2 h6 h7 h9 hw hp h1 h2 hi hlen el eq er
 go_enter func170,ntmps170
 go_wp2
 go_region
 all_goals
  go_wp2
  go_ret
  refine⟨Aa (by rw[HB.out];exact Bool.eq_iff_iff.2 (by simp)),?_⟩
  repeat (first|exact bR|apply Below.drew)
theorem K8(p:Pln)(x:PA)(w:World)(hw:wfPlan p)(hp:planAt w p x):
 Calls Tryz.prog 126 #[As p x] w fun e w'=>e= .returned (.bool (decide (Fv p)))/\Bwz w w':=by
 have K1:=hIz (fun(w1:World) (hb:Bwz w w1)=>DG x.lk x.l x.lkc x.lc p.left.length p.lkeys w1 hw.lk hw.l (At hp.lk hb))
 have K2:=hIz (fun(w1:World) (hb:Bwz w w1)=>DG x.rk x.r x.rkc x.rc p.right.length p.rkeys w1 hw.rk hw.r (At hp.rk hb))
 have K3:Hid (∀B w1,Bwz w w1->p.lkeys.length=p.rkeys.length->AF p.lkeys p.left.length->AF p.rkeys p.right.length->w1.cell? ⟨B,6,none⟩=some (.slice x.l p.left.length x.lc)->w1.cell? ⟨B,7,none⟩=some (.slice x.r p.right.length x.rc)->w1.cell? ⟨B,9,none⟩=some (.slice x.rk p.rkeys.length x.rkc)->
  Calls Tryz.prog 123 #[.slice x.lk p.lkeys.length x.lkc,.func (.func 170) #[] #[.pointer (some ⟨B,0,none⟩)]] w1 fun e w'=>e= .returned (.bool (decide (En p)))/\Bwz w1 w'):=by
  intro B w1 hb hlen h1 h2 e6 e7 e9
  rw[RV]
  exact EZ 170 (enters_of func170 (by kernel_rfl) rfl) #[.pointer (some ⟨B,0,none⟩)] (NU p) x.lk x.lkc p.lkeys w1 hw.lk (At hp.lk hb)
   (fun i w2 hi hb2=>VA i B p x w2 hw ⟨cLz hb2 e6,cLz hb2 e7,cLz hb2 e9⟩ (Ah (Ah hp hb) hb2) hi hlen h1 h2)
 have HK:Hid (decide (Fv p)=(decide (p.lkeys.length=p.rkeys.length)&&decide (AF p.lkeys p.left.length)&&decide (AF p.rkeys p.right.length)&&decide (En p))):=by
  refine(Dh ?_).symm
  unfold Fv
  simp only[Bool.and_eq_true,decide_eq_true_eq,and_assoc]
 have HP1:yes (decide (AF p.lkeys p.left.length)) (AF p.lkeys p.left.length):=of_decide_eq_true
 have HP2:yes (decide (AF p.rkeys p.right.length)) (AF p.rkeys p.right.length):=of_decide_eq_true
 obtain⟨q1,hq1⟩:=nM (decide (AF p.lkeys p.left.length))
 obtain⟨q2,hq2⟩:=nM (decide (AF p.rkeys p.right.length))
 obtain⟨q3,hq3⟩:=nM (decide (En p))
 rw[hq1]at K1 HK HP1
 rw[hq2]at K2 HK HP2
 rw[hq3]at K3 HK
 clear hq1 hq2 hq3 hw hp
 obtain⟨P1,hP1⟩:=nM (AF p.lkeys p.left.length)
 obtain⟨P2,hP2⟩:=nM (AF p.rkeys p.right.length)
 rw[hP1]at K3 HP1
 rw[hP2]at K3 HP2
 clear hP1 hP2
 obtain⟨kind,mode,low,high,size,limit,left,right,lkeys,rkeys,grouped,group,aggs⟩:=p
 obtain⟨l,lc,r,rc,lk,lkc,rk,rkc,g,gc,a,ac⟩:=x
 unfold As
 dsimp only at K1 K2 K3 HK⊢
 obtain⟨n6,h6⟩:∃n,left.length=n:=⟨_,rfl⟩
 obtain⟨n7,h7⟩:∃n,right.length=n:=⟨_,rfl⟩
 obtain⟨n8,h8⟩:∃n,lkeys.length=n:=⟨_,rfl⟩
 obtain⟨n9,h9⟩:∃n,rkeys.length=n:=⟨_,rfl⟩
 rw[h6,h8]at K1
 rw[h7,h9]at K2
 rw[h6,h7,h8,h9]at K3
 rw[h8,h9]at HK
 rw[h6,h7,h8,h9]
 clear h6 h7 h8 h9
 by_cases hlen:n8=n9
 ·subst hlen
  have hl8:((n8:Int)==n8)=true:=by simp
  rw[show decide (n8=n8)=true by simp]at HK
  cases q1<;>cases q2<;>cases q3
  all_goals
   go_enter func126,ntmps126
   go_wp2_with (first
    |(go_at_call 127;have tk:=K1;refine(K1.out _ (bR.alloc nR _)).mono ?_;rintro e w1 ⟨rfl,hb1⟩;have hba:=(bR.alloc nR _).trans (hb1.mono (by simp));obtain⟨hc1,hf1⟩:=DI hb1;have hz1:w.heap.size<w1.heap.size:=(by have:=hb1.size;simp at this;omega);clear K1)
    |(go_at_call 127;have tk:=K2;refine(K2.out _ hba).mono ?_;rintro e w2 ⟨rfl,hb2⟩;have hbb:=hba.trans (hb2.mono hba.size);obtain⟨hc2,hf2⟩:=DI hb2;have hz2:w.heap.size<w2.heap.size:=(by have:=hb2.size;omega);clear K2)
    |(go_at_call 123;refine(K3.out _ _ hbb (by trivial) (HP1 rfl) (HP2 rfl) (by rw[hc2 _ _ hz1,hc1 _ _ (by simp)];go_simp) (by rw[hc2 _ _ hz1,hc1 _ _ (by simp)];go_simp) (by rw[hc2 _ _ hz1,hc1 _ _ (by simp)];go_simp)).mono ?_;rintro e w3 ⟨rfl,hb3⟩;have hbc:=hbb.trans (hb3.mono hbb.size)))
   go_ret
   refine⟨Aa (by rw[HK.out];rfl),?_⟩
   first
    |exact hbc
    |exact hbb
    |exact hba
 ·have hl8:((n8:Int)==n9)=false:=by simp;omega
  rw[decide_eq_false hlen]at HK
  clear hlen
  go_enter func126,ntmps126
  go_wp2
  go_ret
  exact⟨Aa (by rw[HK.out];rfl),bR.alloc nR _⟩
def Kk(c:List Int)(a:Int×Int):Bool:=decide (J6 c a)
theorem VB(i:Int)(B:Nat)(ad:Option Addr)(cp:Nat)(c:List Int)(f k:Int)(w:World)(hl:c.length<=9223372036854775807)(hc:A4 w ad c)(hb:w.cell? ⟨B,0,none⟩=some (.slice ad c.length cp)):
 Calls Tryz.prog 174 #[.int .i64 i,.agg #[.int .i64 f,.int .i64 k],.pointer (some ⟨B,0,none⟩)] w fun e w'=>e= .returned (.bool (Kk c (f,k)))/\Bwz w w':=by
 have hBlt:=bLt _ _ hb
 have HB:Hid (Kk c (f,k)=true↔if f=1 then k=0 else(0<=k/\k<(c.length:Int))/\(f=2->c.getD k.toNat 0=2)):=by show Kk c (f,k)=true↔J6 c (f,k);unfold Kk;exact decide_eq_true_iff
 have HC:Hid (A4 w ad c):=hc
 obtain⟨n,hn⟩:∃n,c.length=n:=⟨_,rfl⟩
 have HN:Hid (c.length=n):=hn
 rw[hn]at hl hb HB
 clear hn hc
 have hBlt':B<w.heap.size:=hBlt
 by_cases f1:f=1
 ·subst f1
  rw[if_pos rfl]at HB
  go_enter func174,ntmps174
  go_wp2
  go_ret
  exact⟨Aa (Bool.eq_iff_iff.2 (by rw[HB.out];simp)),bR.alloc nR _⟩
 ·have f1':(f==1)=false:=by simpa using f1
  rw[if_neg f1]at HB
  clear f1
  cases hbt:Br k 0 ((n:Int) - 1)with
  |false=>
   have hno:=(El _ _ _).1 hbt
   have HR:Hid (Kk c (f,k)=false):=Bool.eq_false_iff.2 (fun h=>hno ⟨(HB.out.1 h).1.1,by have:=(HB.out.1 h).1.2;omega⟩)
   clear hno HB
   by_cases f2:f=2
   ·subst f2
    go_enter func174,ntmps174
    go_wp2_with (go_at_call 172;refine(DB _ _ _ _ _ hl).mono ?_;rintro e w' ⟨rfl,hw⟩;subst hw)
    go_ret
    exact⟨Aa HR.out.symm,bR.alloc nR _⟩
   ·have f2':(f==2)=false:=by simpa using f2
    clear f2
    go_enter func174,ntmps174
    go_wp2_with (go_at_call 172;refine(DB _ _ _ _ _ hl).mono ?_;rintro e w' ⟨rfl,hw⟩;subst hw)
    go_ret
    exact⟨Aa HR.out.symm,bR.alloc nR _⟩
  |true=>
   obtain⟨y1,y2⟩:=(Bw _ _ _).1 hbt
   by_cases f2:f=2
   ·subst f2
    obtain⟨m,rfl⟩:=Int.eq_ofNat_of_zero_le y1
    obtain⟨bc,oc,ec,xc⟩:=HC.out m (by rw[HN.out];omega)
    have HR:Hid (Kk c (2,(m:Int))=decide (c.getD m 0=2)):=by
     show Kk c (2,(m:Int))=_
     refine Bool.eq_iff_iff.2 ?_
     rw[HB.out]
     simp
     omega
    subst ec
    obtain⟨v,hv⟩:=nM (c.getD m 0)
    rw[hv]at xc HR
    have hclt:=bLt _ _ xc
    have hclt':bc<w.heap.size:=hclt
    clear hv HB
    have y3:(m:Int)<(n:Int):=by omega
    go_enter func174,ntmps174
    go_wp2_with (go_at_call 172;refine(DB _ _ _ _ _ hl).mono ?_;rintro e w' ⟨rfl,hw⟩;subst hw)
    go_ret
    exact⟨Aa (by rw[HR.out];exact Bool.eq_iff_iff.2 (by simp)),bR.alloc nR _⟩
   ·have f2':(f==2)=false:=by simpa using f2
    have HR:Hid (Kk c (f,k)=true):=HB.out.2 ⟨⟨y1,by omega⟩,fun h=>absurd h f2⟩
    clear f2 HB
    go_enter func174,ntmps174
    go_wp2_with (go_at_call 172;refine(DB _ _ _ _ _ hl).mono ?_;rintro e w' ⟨rfl,hw⟩;subst hw)
    go_ret
    exact⟨Aa HR.out.symm,bR.alloc nR _⟩
def Fh(c:List Int)(l:List (Int×Int)):Prop:=∀a∈l,J6 c a
instance(c:List Int)(l:List (Int×Int)):Decidable (Fh c l):=by unfold Fh;infer_instance
theorem TX(c:List Int)(l:List (Int×Int)):decide (Fh c l)=allB l.length (fun i=>Kk c (l.getD i (0,0))):=by
 refine(Dh ?_).symm
 rw[AJ]
 unfold Fh Kk
 simp only[decide_eq_true_eq]
 exact Fp (Q:=fun a:Int×Int=>J6 c a)
theorem K9(a ad:Option Addr)(ca cp:Nat)(l:List (Int×Int))(c:List Int)(w:World)(hl:l.length<=9223372036854775807)(hcl:c.length<=9223372036854775807)(ha:Fa w a l)(hc:A4 w ad c):
 Calls Tryz.prog 128 #[.slice a l.length ca,.slice ad c.length cp] w fun e w'=>e= .returned (.bool (decide (Fh c l)))/\Bwz w w':=by
 have K:Hid (∀B w1,Bwz w w1->w1.cell? ⟨B,0,none⟩=some (.slice ad c.length cp)->
  Calls Tryz.prog 167 #[.slice a l.length ca,.func (.func 174) #[] #[.pointer (some ⟨B,0,none⟩)]] w1 fun e w'=>e= .returned (.bool (decide (Fh c l)))/\Bwz w1 w'):=by
  intro B w1 hb e0
  rw[TX]
  exact Hg 174 (enters_of func174 (by kernel_rfl) rfl) #[.pointer (some ⟨B,0,none⟩)] (fun i=>Kk c (l.getD i (0,0))) a ca l w1 hl (DL ha hb)
   (fun i w2 hi hb2=>VB i B ad cp c _ _ w2 hcl (At (At hc hb) hb2) (cLz hb2 e0))
 obtain⟨m,hm⟩:=nM l.length
 obtain⟨k,hk⟩:=nM c.length
 obtain⟨tb,htb⟩:=nM (decide (Fh c l))
 rw[hm,hk,htb]at K
 rw[hm,hk,htb]
 clear hm hk htb ha hc hl hcl
 go_enter func128,ntmps128
 go_wp2_with (go_at_call 167;refine(K.out _ _ (bR.alloc nR _) (by go_simp)).mono ?_;rintro e w1 ⟨rfl,hb1⟩)
 go_ret
 exact⟨rfl,(bR.alloc nR _).trans (hb1.mono (by simp))⟩
end pl
namespace pl
open Go.ChangeShapes Go.WideShapes Go.ChangeAt Go.RowKit
variable {P : Program} {md : Region.Mode} {ops : Array Oper} {Q : Exit -> Act -> World -> Prop} {S : World -> Prop} {fuel : Nat} {listed : Array Bool} {a : Act} {w : World} {oi : Oper} {x y : Int}
theorem WO(i:Nat)(d:Option Tmp)(hi:ops[i]? =some oi)
 (hs:Region.noSelect ops=true) (hf:Region.free md ops listed i=true) (hr:(Region.ready md ops listed).contains i=true) (hQ:∀c a w,Q (.panic c) (a.put oi.dst undef) w->Q (.panic c) a w) (hd:oi.dst=d)
 (hw:Region.wanted oi (yielded ops a.tmps)=false) (hS:S w) (h:wpAnyH P md ops Q S fuel (listed.setIfInBounds i true) (a.put d undef) w):wpAnyH P md ops Q S (fuel+1) listed a w:=
 wpAnyH_take hi hs hf hr hQ (Or.inr ⟨hw,rfl⟩) hS (by rw[hd];exact h)
theorem WP{v:Value}(i:Nat)(d:Option Tmp)(hi:ops[i]? =some oi)
 (hs:Region.noSelect ops=true) (hf:Region.free md ops listed i=true) (hr:(Region.ready md ops listed).contains i=true) (hQ:∀c a w,Q (.panic c) (a.put oi.dst v) w->Q (.panic c) a w) (hd:oi.dst=d)
 (hw:Region.wanted oi (yielded ops a.tmps)=true) (hy:∀w,S w->(execOp a.eval oi).run P w= .ok (.value v) w) (hS:S w) (h:wpAnyH P md ops Q S fuel (listed.setIfInBounds i true) (a.put d v) w):wpAnyH P md ops Q S (fuel+1) listed a w:=
 wpAnyH_take hi hs hf hr hQ (Or.inl ⟨hw,hy⟩) hS (by rw[hd];exact h)
theorem M3(b:Bool)(h:decide (x<=y)=b):∀t,binOp .leq t (.int .i64 x) (.int .i64 y)=pure (.bool b):=fun t=>by rw[binOp_leq,h]
theorem WJ(b:Bool)(h:(x==y)=b):∀t,binOp .eql t (.int .i64 x) (.int .i64 y)=pure (.bool b):=fun t=>by rw[binOp_eql,h]
theorem EA(b:Bool)(h:decide (x>y)=b):∀t,binOp .gtr t (.int .i64 x) (.int .i64 y)=pure (.bool b):=fun t=>by rw[binOp_gtr,h]
end pl
namespace pl
open Go.ChangeShapes Go.WideShapes Go.ChangeAt Go.RowKit
open vl
theorem NV{B:Nat}{a w:World}(h:Below B a w)(q:Nat):Below B a (w.drewN q):=⟨h.os,h.tape,h.output,h.size,h.block⟩
end pl
end Go.Proofs.YtdohnkkbkfhphaaGreat
