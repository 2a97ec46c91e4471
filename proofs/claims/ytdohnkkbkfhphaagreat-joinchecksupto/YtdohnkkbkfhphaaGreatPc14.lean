import Derived.Test.YtdohnkkbkfhphaaGreatPc13
set_option linter.all false
set_option maxHeartbeats 16000000
set_option maxRecDepth 100000
namespace Go.Proofs.YtdohnkkbkfhphaaGreat
open Go.Proofs.Tryz
namespace pl
open Go.ChangeShapes Go.WideShapes Go.ChangeAt Go.RowKit
open vl
variable {l : List Int} {p : Pln}
theorem JS(p:Pln)(x:PA)(w:World)(hp:planAt w p x)(n1:0<p.left.length)(n2:0<p.right.length)(m1:p.left.length<=400)(m2:p.right.length<=400):
 Calls Tryz.prog 33 #[Ap p x] w fun e w'=>(∃ad cap,e= .returned (.slice ad (Bj p).length cap)/\Dh w' w.heap.size (.slice ad (Bj p).length cap) (Bj p))/\Bwz w w':=by
 obtain⟨i0,hi,hz0,hz1,hz2⟩:=info_parts Tryz.info3
 have HI:Hid (Tryz.prog.info? 3=some i0/\i0.zero=some (.int .i64 0)/\i0.size=1/\i0.bytes=8):=⟨hi,hz0,hz1,hz2⟩
 clear hi hz0 hz1 hz2
 obtain⟨b1,o1,e1,_⟩:=hp.l 0 n1
 obtain⟨b2,o2,e2,_⟩:=hp.r 0 n2
 have HC1:Hid (∀w',Bwz w w'->∀j u,(p.left.map EA)[j]? =some u->w'.cell? ((⟨b1,o1,none⟩:Addr).add j)=some u):=fun w' hb=>by
  have h:=As hp.l hb;rw[e1]at h;exact Fw h
 have HC2:Hid (∀w',Bwz w w'->∀j u,(p.right.map EA)[j]? =some u->w'.cell? ((⟨b2,o2,none⟩:Addr).add j)=some u):=fun w' hb=>by
  have h:=As hp.r hb;rw[e2]at h;exact Fw h
 have hp1:Hid ((p.left.map EA).length=p.left.length):=lMp ..
 have hp2:Hid ((p.right.map EA).length=p.right.length):=lMp ..
 have HCO:Hid (Bj p=p.left++p.right):=rfl
 obtain⟨cs,hcs⟩:=nM (Bj p)
 rw[hcs]at HCO⊢
 clear hcs hp
 obtain⟨kind,mode,low,high,size,limit,left,right,lkeys,rkeys,grouped,group,aggs⟩:=p
 obtain⟨l,lc,r,rc,lk,lkc,rk,rkc,g,gc,a,ac⟩:=x
 unfold Ap
 dsimp only at e1 e2 n1 n2 m1 m2 HC1 HC2 hp1 hp2 HCO⊢
 subst e1 e2
 obtain⟨n6,h6⟩:∃n,left.length=n:=⟨_,rfl⟩
 obtain⟨n7,h7⟩:∃n,right.length=n:=⟨_,rfl⟩
 have HCL:Hid (cs.length=n6+n7):=by show cs.length=n6+n7;rw[HCO.out,lAp,h6,h7]
 have H6:Hid (left.length=n6):=h6
 have H7:Hid (right.length=n7):=h7
 rw[h6]at n1 m1 hp1
 rw[h7]at n2 m2 hp2
 rw[HCL.out,h6,h7]
 clear h6 h7
 go_enter func33,ntmps33
 go_wp2
 refine wp_region_held_drew (S:=(fun w'=>w'.cell? ⟨w.heap.size,6,none⟩=some (.slice (some ⟨b1,o1,none⟩) n6 lc)/\w'.cell? ⟨w.heap.size,7,none⟩=some (.slice (some ⟨b2,o2,none⟩) n7 rc))) (by kernel_rfl) ⟨by go_simp,by go_simp⟩ (fun hHz=>?_)
 refine tkz 1 4 hHz ?_;refine tkz 2 5 hHz ?_;refine tkz 4 7 hHz ?_;refine tkz 5 8 hHz ?_
 refine wpAnyH_ready (rs:=[0]) (by kernel_rfl) (by simp) ?_
 refine AllReadyH.cons rfl (fun K hK=>?_) AllReadyH.nil
 go_simp
 refine hK.out _ _ ⟨by go_simp,by go_simp⟩ (fun hHz=>?_)
 clear hK K
 try simp only[Act.put,sI,sZ,sSz]
 have HOW:((w.alloc (.cells #[.int .i64 kind,.int .i64 mode,.int .i64 low,.int .i64 high,.int .i64 size,.int .i64 limit,.slice (some ⟨b1,o1,none⟩) n6 lc,.slice (some ⟨b2,o2,none⟩) n7 rc,.slice lk lkeys.length lkc,.slice rk rkeys.length rkc,.bool grouped,.slice g group.length gc,.slice a aggs.length ac] 25)).alloc (.cells #[] 3)).drew.ownsRow w.heap.size 3 1 (.slice (some ⟨w.heap.size+1,0,none⟩) 0 0) 0 []:=by
  have h:=World.ownsRow_made (base:=w.heap.size) (e:=3) (size:=1) (w.alloc (.cells #[.int .i64 kind,.int .i64 mode,.int .i64 low,.int .i64 high,.int .i64 size,.int .i64 limit,.slice (some ⟨b1,o1,none⟩) n6 lc,.slice (some ⟨b2,o2,none⟩) n7 rc,.slice lk lkeys.length lkc,.slice rk rkeys.length rkc,.bool grouped,.slice g group.length gc,.slice a aggs.length ac] 25)) #[] 0 (by simp) (Nat.zero_le _) rfl
  have h2:=World.ownsRow.drew h
  simpa using h2
 have hb0:Bwz w ((w.alloc (.cells #[.int .i64 kind,.int .i64 mode,.int .i64 low,.int .i64 high,.int .i64 size,.int .i64 limit,.slice (some ⟨b1,o1,none⟩) n6 lc,.slice (some ⟨b2,o2,none⟩) n7 rc,.slice lk lkeys.length lkc,.slice rk rkeys.length rkc,.bool grouped,.slice g group.length gc,.slice a aggs.length ac] 25)).alloc (.cells #[] 3)).drew:=((bR.alloc nR _).alloc (by simp) _).drew
 have hs0:((w.alloc (.cells #[.int .i64 kind,.int .i64 mode,.int .i64 low,.int .i64 high,.int .i64 size,.int .i64 limit,.slice (some ⟨b1,o1,none⟩) n6 lc,.slice (some ⟨b2,o2,none⟩) n7 rc,.slice lk lkeys.length lkc,.slice rk rkeys.length rkc,.bool grouped,.slice g group.length gc,.slice a aggs.length ac] 25)).alloc (.cells #[] 3)).drew.heap.size=w.heap.size+2:=by simp
 obtain⟨W,hW⟩:∃x,((w.alloc (.cells #[.int .i64 kind,.int .i64 mode,.int .i64 low,.int .i64 high,.int .i64 size,.int .i64 limit,.slice (some ⟨b1,o1,none⟩) n6 lc,.slice (some ⟨b2,o2,none⟩) n7 rc,.slice lk lkeys.length lkc,.slice rk rkeys.length rkc,.bool grouped,.slice g group.length gc,.slice a aggs.length ac] 25)).alloc (.cells #[] 3)).drew=x:=⟨_,rfl⟩
 rw[hW]at HOW hb0 hs0 hHz⊢
 clear hW
 refine wpAnyH_ready (rs:=[3]) (by kernel_rfl) (by simp) ?_
 refine AllReadyH.cons rfl (fun K hK=>?_) AllReadyH.nil
 refine step_append_lies W rfl (.tmp 3) (.tmp 5) 22 rfl w.heap.size 3 i0 (.int .i64 0) 1 8 underlying22 HI.out.1 HI.out.2.1 HI.out.2.2.1 HI.out.2.2.2 rfl (by decide) (.slice (some ⟨w.heap.size+1,0,none⟩) 0 0) 0 [] rfl HOW ⟨b1,o1,none⟩ n6 lc (left.map EA) rfl (by rw[hp1.out,Nat.mul_one]) (HC1.out _ hb0) (Ig left) n1 (by unfold maxLen;omega) (by omega) (by omega) (w.heap.size+2) hs0 ?_
 intro g1 cap1 w2 hown2 hgrow2 hat2 hlt2
 have hb2:Bwz w w2:=hb0.grown hgrow2 (by omega) (fun b hb=>by cases hb;simp)
 have hs2:w.heap.size+2<=w2.heap.size:=by have:=hgrow2.size;omega
 have hg1:w.heap.size+1<=g1:=by
  rcases hat2 with h|h
  ·cases h;simp
  ·omega
 refine hK.out _ _ ⟨hgrow2.cell hHz.1 (fun h=>by simp[Value.ownBlock]at h),hgrow2.cell hHz.2 (fun h=>by simp[Value.ownBlock]at h)⟩ (fun hHz=>?_)
 clear hK K
 try simp only[Act.put,sI,sZ,sSz]
 refine wpAnyH_ready (rs:=[6]) (by kernel_rfl) (by simp) ?_
 refine AllReadyH.cons rfl (fun K hK=>?_) AllReadyH.nil
 refine step_append_lies w2 rfl (.tmp 6) (.tmp 8) 22 rfl w.heap.size 3 i0 (.int .i64 0) 1 8 underlying22 HI.out.1 HI.out.2.1 HI.out.2.2.1 HI.out.2.2.2 rfl (by decide) (.slice (some ⟨g1,0,none⟩) (0+n6) cap1) (0+n6) ([]++left.map EA) rfl hown2 ⟨b2,o2,none⟩ n7 rc (right.map EA) rfl (by rw[hp2.out,Nat.mul_one]) (HC2.out _ hb2) (Ig right) n2 (by unfold maxLen;omega) (by omega) (by omega) w2.heap.size rfl ?_
 intro g2 cap2 w3 hown3 hgrow3 hat3 hlt3
 have hb3:Bwz w w3:=hb2.grown hgrow3 (by omega) (fun b hb=>by cases hb;show w.heap.size<=g1;omega)
 refine hK.out _ _ ⟨hgrow3.cell hHz.1 (fun h=>by simp[Value.ownBlock]at h;omega),hgrow3.cell hHz.2 (fun h=>by simp[Value.ownBlock]at h;omega)⟩ (fun hHz=>?_)
 clear hK K
 simp only[Act.put,List.getElem_toArray,List.getElem_cons_succ,List.getElem_cons_zero,sI,sZ,sSz]
 refine tkz 7 2 hHz ?_
 refine wpAnyH_done (by kernel_rfl) ?_ _
 rw[Nat.zero_add,List.nil_append]at hown3
 rw[Nat.zero_add]
 have HO:Hid (Dh w3 w.heap.size (.slice (some ⟨g2,0,none⟩) (n6+n7) cap2) cs):=by
  show w3.ownsRow _ _ _ _ cs.length (cs.map EA)
  rw[HCL.out,HCO.out,List.map_append];exact hown3
 clear hown3 hown2
 go_wp2
 go_ret
 exact⟨⟨_,_,rfl,HO.out⟩,hb3⟩
theorem NX(l:List Int)(k:Nat):(l.take k).Pairwise (· ≠ ·)↔ ∀i j,i<j->j<k->j<l.length->l.getD i 0≠l.getD j 0:=by
 rw[List.pairwise_iff_getElem]
 constructor
 ·intro h i j hij hjk hj
  have:=h i j (by rw[List.length_take];omega) (by rw[List.length_take];omega) hij
  rw[List.getElem_take,List.getElem_take]at this
  rw[DE (by omega),DE hj];exact this
 ·intro h i j hi hj hij
  rw[List.length_take]at hi hj
  have:=h i j hij (by omega) (by omega)
  rw[DE (by omega),DE (by omega)]at this
  rw[List.getElem_take,List.getElem_take];exact this
def BJ(l:List Int):Bool:=decide (l.Pairwise (· ≠ ·))
theorem Sn(h:∀i j,i<j->j<l.length->l.getD i 0≠l.getD j 0):BJ l=true:=by
 have:=(NX l l.length).2 (fun i j h1 h2 _=>h i j h1 h2)
 rw[List.take_length]at this
 exact decide_eq_true this
theorem Ur{i j:Nat}(hij:i<j)(hj:j<l.length)(h:l.getD i 0=l.getD j 0):BJ l=false:=by
 refine decide_eq_false (fun hp=>?_)
 have:=(NX l l.length).1 (by rw[List.take_length];exact hp) i j hij hj hj
 exact this h
theorem JT(a:Option Addr)(cap:Nat)(l:List Int)(w:World)(hl:l.length<=9223372036854775807)(ha:A2 w a l):
 Calls Tryz.prog 67 #[.slice a l.length cap] w fun e w'=>e= .returned (.bool (BJ l))/\Bwz w w':=by
 obtain⟨n,hn⟩:∃n,l.length=n:=⟨_,rfl⟩
 have HN:Hid (l.length=n):=hn
 rw[hn]at hl⊢
 clear hn
 go_enter func67,ntmps67
 go_wp2
 go_loopw [3,4] (fun i _ wr=> ∃k:Nat,k<=n/\i= .int .i64 k/\Bwz w wr/\∀i j,i<j->j<k->l.getD i 0≠l.getD j 0) (fun i _ _=>n - (intOf i).toNat)
 case atStart=>exact⟨0,Nat.zero_le _,rfl,bR,fun i j h1 h2=>absurd h2 (Nat.not_lt_zero j)⟩
 case round=>
  obtain⟨k,hk,rfl,hnx,hall⟩:=hrel
  have HA:Hid (∀i j,i<j->j<k->l.getD i 0≠l.getD j 0):=hall
  clear hall
  by_cases hlt:k<n
  ·obtain⟨b,o,e,x1⟩:=ha k (by rw[HN.out];exact hlt)
   subst e
   have i1:(0:Int)<=(k:Int):=by omega
   have i2:(k:Int)<(n:Int):=by omega
   obtain⟨z,hz⟩:=nM (l.getD k 0)
   have HZ:Hid (l.getD k 0=z):=hz
   rw[hz]at x1
   clear hz
   go_wp2
   go_loopw [4] (fun i wr2=> ∃m:Nat,m<=k/\i= .int .i64 m/\Bwz w wr2/\∀i,i<m->l.getD i 0≠z) (fun i _=>k - (intOf i).toNat)
   case atStart=>exact⟨0,Nat.zero_le _,rfl,hnx,fun i h=>absurd h (Nat.not_lt_zero i)⟩
   case round=>
    obtain⟨m,hm,rfl,hnx2,hall2⟩:=hrel
    have HA2:Hid (∀i,i<m->l.getD i 0≠z):=hall2
    clear hall2
    by_cases hmk:m<k
    ·obtain⟨b',o',e',x2⟩:=ha m (by rw[HN.out];omega)
     cases e'
     have j1:(0:Int)<=(m:Int):=by omega
     have j2:(m:Int)<(n:Int):=by omega
     have q1:=cLz hnx2 x1
     have q2:=cLz hnx2 x2
     obtain⟨y,hy⟩:∃y,l.getD m 0=y:=⟨_,rfl⟩
     have HY:Hid (l.getD m 0=y):=hy
     rw[hy]at q2
     clear hy x2 ha
     by_cases he:z=y
     ·subst he
      have HE:Hid (BJ l=false):=Ur hmk (by rw[HN.out];exact hlt) (by rw[HY.out,HZ.out])
      go_wp2
      go_region
      all_goals
       go_wp2
       go_ret
       refine⟨Aa HE.out.symm,?_⟩
       repeat (first|exact hnx2|apply Below.drew)
     ·have hb:(z==y)=false:=by simpa using he
      have HE:Hid (l.getD m 0≠z):=by show l.getD m 0≠z;rw[HY.out];exact fun h=>he h.symm
      clear he
      go_wp2
      go_region
      all_goals
       go_wp2
       go_roundw
       case rel=>exact⟨m+1,by omega,by go_num,by(repeat (first|exact hnx2|apply Below.drew)),fun i hi=>by
        rcases Nat.lt_succ_iff_lt_or_eq.1 hi with h|h
        ·exact HA2.out i h
        ·rw[h];exact HE.out⟩
       case measure=>simp[intOf];omega
    ·go_wp2
     go_roundw
     case rel=>exact⟨k+1,by omega,by go_num,hnx2,fun i j h1 h2=>by
      rcases Nat.lt_succ_iff_lt_or_eq.1 h2 with h|h
      ·exact HA.out i j h1 h
      ·rw[h,HZ.out];exact HA2.out i (by omega)⟩
     case measure=>simp[intOf];omega
  ·have HE:Hid (BJ l=true):=Sn (fun i j h1 h2=>HA.out i j h1 (by rw[HN.out]at h2;omega))
   go_wp2
   go_ret
   exact⟨Aa HE.out.symm,hnx⟩
def Mm(p:Pln)(j:Nat):Prop:=(0<=p.lkeys.getD j 0/\p.lkeys.getD j 0<(p.left.length:Int))/\(0<=p.rkeys.getD j 0/\p.rkeys.getD j 0<(p.right.length:Int))/\p.left.getD (p.lkeys.getD j 0).toNat 0=p.right.getD (p.rkeys.getD j 0).toNat 0
theorem W6(h1:p.low<=p.high)(h2:p.lkeys.length=p.rkeys.length)(o1:BJ p.lkeys=true)(o2:BJ p.rkeys=true)(o3:BJ p.group=true)(hk:∀j,j<p.lkeys.length->Mm p j)
 (hg:∀j,j<p.group.length->0<=p.group.getD j 0/\p.group.getD j 0<((Bj p).length:Int)) (ha:∀j,j<p.aggs.length->Da (Bj p) (p.aggs.getD j (0,0))):AG p:=by
 refine⟨h1,⟨h2,⟨?_,of_decide_eq_true o1⟩,⟨?_,of_decide_eq_true o2⟩,fun i hi=>(hk i hi).2.2⟩,⟨?_,of_decide_eq_true o3⟩,?_⟩
 ·exact(D6 (d:=0) (Q:=fun x:Int=>0<=x/\x<(p.left.length:Int))).1 (fun i hi=>(hk i hi).1)
 ·exact(D6 (d:=0) (Q:=fun x:Int=>0<=x/\x<(p.right.length:Int))).1 (fun i hi=>(hk i (by omega)).2.1)
 ·exact(D6 (d:=0) (Q:=fun x:Int=>0<=x/\x<((Bj p).length:Int))).1 hg
 ·exact(D6 (d:=(0,0)) (Q:=fun a:Int×Int=>Da (Bj p) a)).1 ha
theorem So(h:AG p):BJ p.lkeys=true/\BJ p.rkeys=true/\BJ p.group=true:=
 ⟨decide_eq_true h.2.1.2.1.2,decide_eq_true h.2.1.2.2.1.2,decide_eq_true h.2.2.1.2⟩
theorem Yp(h:AG p)(j:Nat)(hj:j<p.lkeys.length):Mm p j:=by
 obtain⟨h1,⟨h2,h3,h4,h5⟩,h6,h7⟩:=h
 exact⟨h3.1 _ (C3 hj),h4.1 _ (C3 (by omega)),h5 j hj⟩
theorem Yq(h:AG p)(j:Nat)(hj:j<p.group.length):0<=p.group.getD j 0/\p.group.getD j 0<((Bj p).length:Int):=h.2.2.1.1 _ (C3 hj)
theorem Yr(h:AG p)(j:Nat)(hj:j<p.aggs.length):Da (Bj p) (p.aggs.getD j (0,0)):=h.2.2.2 _ (C3 hj)
theorem CK{B:Nat}{a w:World}(h:Below B a w)(q:Nat):Below B a (w.drewN q):=⟨h.os,h.tape,h.output,h.size,h.block⟩
theorem LK(p:Pln)(x:PA)(w:World)(hw:wfPlan p)(hp:planAt w p x)(n1:0<p.left.length)(n2:0<p.right.length)(m1:p.left.length<=400)(m2:p.right.length<=400):
 Calls Tryz.prog 34 #[Ap p x] w fun e w'=>e= .returned (.bool (!decide (AG p)))/\Bwz w w':=by
 have HT:Hid (¬AG p->(!decide (AG p))=true):=fun h=>by show(!decide (AG p))=true;rw[decide_eq_false h];rfl
 have HF:Hid (AG p->(!decide (AG p))=false):=fun h=>by show(!decide (AG p))=false;rw[decide_eq_true h];rfl
 obtain⟨res,hres⟩:=nM (!decide (AG p))
 rw[hres]at HT HF⊢
 clear hres
 have hcl:(Bj p).length=p.left.length+p.right.length:=by unfold Bj;rw[lAp]
 have K1:=hIz (fun(w1:World) (hb:Bwz w w1)=>JT x.lk x.lkc p.lkeys w1 hw.lk (As hp.lk hb))
 have K2:=hIz (fun(w1:World) (hb:Bwz w w1)=>JT x.rk x.rkc p.rkeys w1 hw.rk (As hp.rk hb))
 have K3:=hIz (fun(w1:World) (hb:Bwz w w1)=>JT x.g x.gc p.group w1 hw.g (As hp.g hb))
 have K4:=hIz (fun(w1:World) (hb:Bwz w w1)=>JS p x w1 (Af hp hb) n1 n2 m1 m2)
 have HMK:Hid (p.low<=p.high->p.lkeys.length=p.rkeys.length->BJ p.lkeys=true->BJ p.rkeys=true->BJ p.group=true->(∀j,j<p.lkeys.length->Mm p j)->(∀j,j<p.group.length->0<=p.group.getD j 0/\p.group.getD j 0<((Bj p).length:Int))->(∀j,j<p.aggs.length->Da (Bj p) (p.aggs.getD j (0,0)))->AG p):=W6
 have HO:Hid (AG p->BJ p.lkeys=true/\BJ p.rkeys=true/\BJ p.group=true):=So
 have HKK:Hid (AG p->∀j,j<p.lkeys.length->Mm p j):=Yp
 have HKG:Hid (AG p->∀j,j<p.group.length->0<=p.group.getD j 0/\p.group.getD j 0<((Bj p).length:Int)):=Yq
 have HKA:Hid (AG p->∀j,j<p.aggs.length->Da (Bj p) (p.aggs.getD j (0,0))):=Yr
 have HLH:Hid (AG p->p.low<=p.high/\p.lkeys.length=p.rkeys.length):=fun h=>⟨h.1,h.2.1.1⟩
 have HGD:Hid (∀j,Mm p j↔(0<=p.lkeys.getD j 0/\p.lkeys.getD j 0<(p.left.length:Int))/\(0<=p.rkeys.getD j 0/\p.rkeys.getD j 0<(p.right.length:Int))/\p.left.getD (p.lkeys.getD j 0).toNat 0=p.right.getD (p.rkeys.getD j 0).toNat 0):=fun j=>Iff.rfl
 have HP:planAt w p x:=hp
 obtain⟨G,hG⟩:=nM (Mm p)
 rw[hG]at HMK HKK HGD
 obtain⟨FO,hFO⟩:=nM (AG p)
 rw[hFO]at HT HF HMK HO HKK HKG HKA HLH
 obtain⟨q1,hq1⟩:=nM (BJ p.lkeys)
 obtain⟨q2,hq2⟩:=nM (BJ p.rkeys)
 obtain⟨q3,hq3⟩:=nM (BJ p.group)
 rw[hq1]at K1 HMK HO
 rw[hq2]at K2 HMK HO
 rw[hq3]at K3 HMK HO
 obtain⟨cs,hcs⟩:=nM (Bj p)
 rw[hcs]at K4 HMK HKG HKA hcl
 clear hG hFO hq1 hq2 hq3 hcs hp
 obtain⟨hpl,hpr,hplk,hprk,hpg,hpa⟩:=HP
 obtain⟨hw2,hw3,hw6,hw7,hw8,hw9,hw11,hw12⟩:=hw
 obtain⟨kind,mode,low,high,size,limit,left,right,lkeys,rkeys,grouped,group,aggs⟩:=p
 obtain⟨l,lc,r,rc,lk,lkc,rk,rkc,g,gc,a,ac⟩:=x
 unfold Ap at K4⊢
 dsimp only at K1 K2 K3 K4 HMK HO HKK HKG HKA HLH HGD hcl n1 n2 m1 m2 hpl hpr hplk hprk hpg hpa hw6 hw7 hw8 hw9 hw11 hw12⊢
 have HPL:Hid (A2 w l left):=hpl
 have HPR:Hid (A2 w r right):=hpr
 have HPLK:Hid (A2 w lk lkeys):=hplk
 have HPRK:Hid (A2 w rk rkeys):=hprk
 have HPG:Hid (A2 w g group):=hpg
 have HPA:Hid (DT w a aggs):=hpa
 clear hpl hpr hplk hprk hpg hpa hw2 hw3
 obtain⟨n6,h6⟩:∃n,left.length=n:=⟨_,rfl⟩
 obtain⟨n7,h7⟩:∃n,right.length=n:=⟨_,rfl⟩
 obtain⟨n8,h8⟩:∃n,lkeys.length=n:=⟨_,rfl⟩
 obtain⟨n9,h9⟩:∃n,rkeys.length=n:=⟨_,rfl⟩
 obtain⟨n11,h11⟩:∃n,group.length=n:=⟨_,rfl⟩
 obtain⟨n12,h12⟩:∃n,aggs.length=n:=⟨_,rfl⟩
 obtain⟨cn,hcn⟩:∃n,cs.length=n:=⟨_,rfl⟩
 have H6:Hid (left.length=n6):=h6
 have H7:Hid (right.length=n7):=h7
 have H8:Hid (lkeys.length=n8):=h8
 have H9:Hid (rkeys.length=n9):=h9
 have H11:Hid (group.length=n11):=h11
 have H12:Hid (aggs.length=n12):=h12
 have HCN:Hid (cs.length=cn):=hcn
 rw[h8]at K1 HMK HLH HKK hw8
 rw[h9]at K2 HMK HLH hw9
 rw[h11]at K3 HMK HKG hw11
 rw[h12]at HMK HKA hw12
 rw[hcn]at HMK HKG hcl
 rw[h6,h7,h8,h9,h11,h12,hcn]at K4
 rw[h6]at n1 m1 HGD hw6 hcl
 rw[h7]at n2 m2 HGD hw7 hcl
 rw[h6,h7,h8,h9,h11,h12]
 have hcn1:0<cn:=by omega
 have hcn2:cn<=800:=by omega
 clear h6 h7 h8 h9 h11 h12 hcn hcl
 by_cases hlh:low<=high
 ·have hlh':¬high<low:=by omega
  by_cases hln:n8=n9
  ·subst hln
   have hl8:((n8:Int) !=n8)=false:=by simp
   cases q1
   ·have HX:Hid (res=true):=HT.out (fun h=>absurd (HO.out h).1 (by decide))
    go_enter func34,ntmps34
    go_wp2_with fail
    refine(K1.out _ (bR.alloc nR _)).mono ?_
    rintro e w1 ⟨rfl,hb1⟩
    go_wp2
    go_ret
    exact⟨Aa HX.out.symm,(bR.alloc nR _).trans (hb1.mono (by simp))⟩
   go_enter func34,ntmps34
   go_wp2_with fail
   refine(K1.out _ (bR.alloc nR _)).mono ?_
   rintro e w1 ⟨rfl,hb1⟩
   have hba:=(bR.alloc nR _).trans (hb1.mono (by simp))
   obtain⟨hc1,hf1⟩:=C2 hb1
   have hz1:w.heap.size<w1.heap.size:=(by have:=hb1.size;simp at this;omega)
   go_wp2_with fail
   refine(K2.out _ hba).mono ?_
   rintro e w2 ⟨rfl,hb2⟩
   have hbb:=hba.trans (hb2.mono hba.size)
   obtain⟨hc2,hf2⟩:=C2 hb2
   have hz2:w.heap.size<w2.heap.size:=(by have:=hb2.size;omega)
   cases q2
   ·have HX:Hid (res=true):=HT.out (fun h=>absurd (HO.out h).2.1 (by decide))
    go_wp2
    go_ret
    exact⟨Aa HX.out.symm,hbb⟩
   go_wp2_with fail
   refine(K3.out _ hbb).mono ?_
   rintro e w3 ⟨rfl,hb3⟩
   have hbc:=hbb.trans (hb3.mono hbb.size)
   have hz3:w.heap.size<w3.heap.size:=(by have:=hb3.size;omega)
   obtain⟨hc3,hf3⟩:=C2 hb3
   cases q3
   ·have HX:Hid (res=true):=HT.out (fun h=>absurd (HO.out h).2.2 (by decide))
    go_wp2
    go_ret
    exact⟨Aa HX.out.symm,hbc⟩
   have s0:w3.cell? ⟨w.heap.size,0,none⟩=some (.int .i64 kind):=by rw[hc3 _ _ hz2,hc2 _ _ hz1,hc1 _ _ (by simp)];go_simp
   have s1:w3.cell? ⟨w.heap.size,1,none⟩=some (.int .i64 mode):=by rw[hc3 _ _ hz2,hc2 _ _ hz1,hc1 _ _ (by simp)];go_simp
   have s2:w3.cell? ⟨w.heap.size,2,none⟩=some (.int .i64 low):=by rw[hc3 _ _ hz2,hc2 _ _ hz1,hc1 _ _ (by simp)];go_simp
   have s3:w3.cell? ⟨w.heap.size,3,none⟩=some (.int .i64 high):=by rw[hc3 _ _ hz2,hc2 _ _ hz1,hc1 _ _ (by simp)];go_simp
   have s4:w3.cell? ⟨w.heap.size,4,none⟩=some (.int .i64 size):=by rw[hc3 _ _ hz2,hc2 _ _ hz1,hc1 _ _ (by simp)];go_simp
   have s5:w3.cell? ⟨w.heap.size,5,none⟩=some (.int .i64 limit):=by rw[hc3 _ _ hz2,hc2 _ _ hz1,hc1 _ _ (by simp)];go_simp
   have s6:w3.cell? ⟨w.heap.size,6,none⟩=some (.slice l n6 lc):=by rw[hc3 _ _ hz2,hc2 _ _ hz1,hc1 _ _ (by simp)];go_simp
   have s7:w3.cell? ⟨w.heap.size,7,none⟩=some (.slice r n7 rc):=by rw[hc3 _ _ hz2,hc2 _ _ hz1,hc1 _ _ (by simp)];go_simp
   have s8:w3.cell? ⟨w.heap.size,8,none⟩=some (.slice lk n8 lkc):=by rw[hc3 _ _ hz2,hc2 _ _ hz1,hc1 _ _ (by simp)];go_simp
   have s9:w3.cell? ⟨w.heap.size,9,none⟩=some (.slice rk n8 rkc):=by rw[hc3 _ _ hz2,hc2 _ _ hz1,hc1 _ _ (by simp)];go_simp
   have s10:w3.cell? ⟨w.heap.size,10,none⟩=some (.bool grouped):=by rw[hc3 _ _ hz2,hc2 _ _ hz1,hc1 _ _ (by simp)];go_simp
   have s11:w3.cell? ⟨w.heap.size,11,none⟩=some (.slice g n11 gc):=by rw[hc3 _ _ hz2,hc2 _ _ hz1,hc1 _ _ (by simp)];go_simp
   have s12:w3.cell? ⟨w.heap.size,12,none⟩=some (.slice a n12 ac):=by rw[hc3 _ _ hz2,hc2 _ _ hz1,hc1 _ _ (by simp)];go_simp
   clear hc1 hf1 hc2 hf2 hc3 hf3 hb1 hb2 hb3 hba hbb K1 K2 K3 HO
   have HGO:Hid ((∀j,j<n8->G j)->(∀j,j<n11->0<=group.getD j 0/\group.getD j 0<(cn:Int))->(∀j,j<n12->Da cs (aggs.getD j (0,0)))->FO):=fun h1 h2 h3=>HMK.out (by trivial) (by trivial) (by trivial) (by trivial) (by trivial) h1 h2 h3
   clear HMK
   go_wp2
   go_loopw [3,4,5] (fun i _ _ wr=> ∃k:Nat,k<=n8/\i= .int .i64 k/\Bwz w3 wr/\∀j,j<k->G j) (fun i _ _ _=>n8 - (intOf i).toNat)
   case atStart=>exact⟨0,Nat.zero_le _,rfl,bR,fun i hi=>absurd hi (Nat.not_lt_zero i)⟩
   case round=>
    obtain⟨k,hk,rfl,hnx,hall⟩:=hrel
    have HA:Hid (∀j,j<k->G j):=hall
    clear hall
    have c0:=cLz hnx s0
    have c1:=cLz hnx s1
    have c2:=cLz hnx s2
    have c3:=cLz hnx s3
    have c4:=cLz hnx s4
    have c5:=cLz hnx s5
    have c6:=cLz hnx s6
    have c7:=cLz hnx s7
    have c8:=cLz hnx s8
    have c9:=cLz hnx s9
    have c10:=cLz hnx s10
    have c11:=cLz hnx s11
    have c12:=cLz hnx s12
    have hbr:=hbc.trans (hnx.mono hbc.size)
    have hszr:=hbr.size
    by_cases hlt:k<n8
    ·obtain⟨bk,ok,ek,xk⟩:=HPLK.out k (by rw[H8.out];exact hlt)
     obtain⟨bq,oq,eq,xq⟩:=HPRK.out k (by rw[H9.out];exact hlt)
     subst ek eq
     have yk:=cLz hbr xk
     have yq:=cLz hbr xq
     have i1:(0:Int)<=(k:Int):=by omega
     have i2:(k:Int)<(n8:Int):=by omega
     have HGK:=HGD.out k
     obtain⟨av,hav⟩:=nM (lkeys.getD k 0)
     obtain⟨bv,hbv⟩:=nM (rkeys.getD k 0)
     rw[hav]at yk HGK
     rw[hbv]at yq HGK
     have HG2:Hid (G k↔(0<=av/\av<(n6:Int))/\(0<=bv/\bv<(n7:Int))/\left.getD av.toNat 0=right.getD bv.toNat 0):=HGK
     have HBK:Hid (¬G k->res=true):=fun h=>HT.out (fun hf=>h (HKK.out hf k hlt))
     clear hav hbv HGK xk xq
     go_wp2
     go_quiet (fail)
     have hnq:=CK hnx nq
     have hbq:=CK hbr nq
     have hzq:(wr.drewN nq).heap.size=wr.heap.size:=rfl
     obtain⟨wq,hwq⟩:∃x,wr.drewN nq=x:=⟨_,rfl⟩
     have d6:wq.cell? ⟨w.heap.size,6,none⟩=some (.slice l n6 lc):=by rw[<-hwq];exact c6
     have d7:wq.cell? ⟨w.heap.size,7,none⟩=some (.slice r n7 rc):=by rw[<-hwq];exact c7
     rw[hwq]at hnq hbq hzq⊢
     clear hwq
     cases pa:Az av 0 ((n6:Int) - 1)with
     |false=>
      have HX:Hid (res=true):=HBK.out (fun h=>(BZ _ _ _).1 pa ⟨(HG2.out.1 h).1.1,by have:=(HG2.out.1 h).1.2;omega⟩)
      go_wp2
      go_quiet (
       (go_at_call 29;exact Calls.quiet_of_same (Ak _ _ _ _))
       )
      go_wp2
      go_ret
      exact⟨Aa HX.out.symm,CK hbq _⟩
     |true=>
      cases pb:Az bv 0 ((n7:Int) - 1)with
      |false=>
       have HX:Hid (res=true):=HBK.out (fun h=>(BZ _ _ _).1 pb ⟨(HG2.out.1 h).2.1.1,by have:=(HG2.out.1 h).2.1.2;omega⟩)
       go_wp2
       go_quiet (
        (go_at_call 29;exact Calls.quiet_of_same (Ak _ _ _ _))
        )
       go_wp2
       go_ret
       exact⟨Aa HX.out.symm,CK hbq _⟩
      |true=>
       obtain⟨a1,a2⟩:=(AJ _ _ _).1 pa
       obtain⟨b1,b2⟩:=(AJ _ _ _).1 pb
       obtain⟨ma,rfl⟩:=Int.eq_ofNat_of_zero_le a1
       obtain⟨mb,rfl⟩:=Int.eq_ofNat_of_zero_le b1
       obtain⟨bl,ol,el,xl⟩:=HPL.out ma (by rw[H6.out];omega)
       obtain⟨br,orr,er,xr⟩:=HPR.out mb (by rw[H7.out];omega)
       subst el er
       have yl:=cLz hbq xl
       have yr:=cLz hbq xr
       have HG3:Hid (G k↔left.getD ma 0=right.getD mb 0):=by
        show G k↔_
        rw[HG2.out,Int.toNat_natCast,Int.toNat_natCast]
        constructor
        ·exact fun h=>h.2.2
        ·exact fun h=>⟨⟨by omega,by omega⟩,⟨by omega,by omega⟩,h⟩
       obtain⟨vl,hvl⟩:=nM (left.getD ma 0)
       obtain⟨vr,hvr⟩:=nM (right.getD mb 0)
       rw[hvl]at yl HG3
       rw[hvr]at yr HG3
       have a3:(ma:Int)<(n6:Int):=by omega
       have b3:(mb:Int)<(n7:Int):=by omega
       clear hvl hvr xl xr HG2
       by_cases he:vl=vr
       ·have HGK:Hid (G k):=HG3.out.2 he
        have hne:(vl !=vr)=false:=by simpa using he
        clear he
        go_wp2
        go_quiet (
         (go_at_call 29;exact Calls.quiet_of_same (Ak _ _ _ _))
         )
        go_wp2
        go_roundw
        case rel=>exact⟨k+1,by omega,by go_num,CK hnq _,fun j hj=>by
         rcases Nat.lt_succ_iff_lt_or_eq.1 hj with h|h
         ·exact HA.out j h
         ·rw[h];exact HGK.out⟩
        case measure=>simp[intOf];omega
       ·have HX:Hid (res=true):=HBK.out (fun h=>he (HG3.out.1 h))
        have hne:(vl !=vr)=true:=by simpa using he
        clear he
        go_wp2
        go_quiet (
         (go_at_call 29;exact Calls.quiet_of_same (Ak _ _ _ _))
         )
        go_wp2
        go_ret
        exact⟨Aa HX.out.symm,CK hbq _⟩
    ·have HAL:Hid (∀j,j<n8->G j):=fun j hj=>HA.out j (by omega)
     clear HKK HGD HA
     go_wp2_with fail
     refine(K4.out _ hbr).mono ?_
     rintro e w4 ⟨⟨ad,cap,rfl,ho⟩,hb4⟩
     have HIC:Hid (A2 w4 ad cs):=(JD ho).1
     have hbd:=hbr.trans (hb4.mono hbr.size)
     have e0:=cLz hb4 c0
     have e1:=cLz hb4 c1
     have e2:=cLz hb4 c2
     have e3:=cLz hb4 c3
     have e4:=cLz hb4 c4
     have e5:=cLz hb4 c5
     have e6:=cLz hb4 c6
     have e7:=cLz hb4 c7
     have e8:=cLz hb4 c8
     have e9:=cLz hb4 c9
     have e10:=cLz hb4 c10
     have e11:=cLz hb4 c11
     have e12:=cLz hb4 c12
     clear ho hb4 hnx hbr hszr K4 c0 c1 c2 c3 c4 c5 c6 c7 c8 c9 c10 c11 c12 s0 s1 s2 s3 s4 s5 s6 s7 s8 s9 s10 s11 s12
     go_wp2
     go_loopw [7] (fun i wr2=> ∃m:Nat,m<=n11/\i= .int .i64 m/\Bwz w4 wr2/\∀j,j<m->0<=group.getD j 0/\group.getD j 0<(cn:Int)) (fun i _=>n11 - (intOf i).toNat)
     case atStart=>exact⟨0,Nat.zero_le _,rfl,bR,fun i hi=>absurd hi (Nat.not_lt_zero i)⟩
     case round=>
      obtain⟨m,hm,rfl,hnx2,hall2⟩:=hrel
      have HA2:Hid (∀j,j<m->0<=group.getD j 0/\group.getD j 0<(cn:Int)):=hall2
      clear hall2
      have f10:=cLz hnx2 e10
      have f11:=cLz hnx2 e11
      have f12:=cLz hnx2 e12
      have hbs:=hbd.trans (hnx2.mono hbd.size)
      by_cases hlt2:m<n11
      ·obtain⟨bg,og,eg,xg⟩:=HPG.out m (by rw[H11.out];exact hlt2)
       subst eg
       have yg:=cLz hbs xg
       have i1:(0:Int)<=(m:Int):=by omega
       have i2:(m:Int)<(n11:Int):=by omega
       have HBG:Hid (¬(0<=group.getD m 0/\group.getD m 0<(cn:Int))->res=true):=fun h=>HT.out (fun hf=>h (HKG.out hf m hlt2))
       obtain⟨gv,hgv⟩:=nM (group.getD m 0)
       have HGV:Hid (group.getD m 0=gv):=hgv
       rw[hgv]at yg HBG
       clear hgv xg
       cases pg:Az gv 0 ((cn:Int) - 1)with
       |false=>
        have HX:Hid (res=true):=HBG.out (fun h=>(BZ _ _ _).1 pg ⟨h.1,by omega⟩)
        go_wp2_with
         (go_at_call 29;refine(Ak _ _ _ _).mono ?_;rintro e w' ⟨rfl,hw⟩;subst hw)
        go_ret
        exact⟨Aa HX.out.symm,hbs⟩
       |true=>
        have HY:Hid (0<=group.getD m 0/\group.getD m 0<(cn:Int)):=by
         show 0<=group.getD m 0/\group.getD m 0<(cn:Int)
         have:=(AJ _ _ _).1 pg
         rw[HGV.out];omega
        go_wp2_with
         (go_at_call 29;refine(Ak _ _ _ _).mono ?_;rintro e w' ⟨rfl,hw⟩;subst hw)
        go_roundw
        case rel=>exact⟨m+1,by omega,by go_num,hnx2,fun j hj=>by
         rcases Nat.lt_succ_iff_lt_or_eq.1 hj with h|h
         ·exact HA2.out j h
         ·rw[h];exact HY.out⟩
        case measure=>simp[intOf];omega
      ·have HAG:Hid (∀j,j<n11->0<=group.getD j 0/\group.getD j 0<(cn:Int)):=fun j hj=>HA2.out j (by omega)
       obtain⟨W2,rfl⟩:∃x,x=wr:=⟨_,rfl⟩
       have HIC2:Hid (A2 W2 ad cs):=As HIC.out hnx2
       clear HA2 HKG HIC hnx2 hbd e0 e1 e2 e3 e4 e5 e6 e7 e8 e9 e10 e11 e12
       go_wp2
       go_loopw [8,9] (fun i _ wr3=> ∃m:Nat,m<=n12/\i= .int .i64 m/\Bwz W2 wr3/\∀j,j<m->Da cs (aggs.getD j (0,0))) (fun i _ _=>n12 - (intOf i).toNat)
       case atStart=>exact⟨0,Nat.zero_le _,rfl,bR,fun i hi=>absurd hi (Nat.not_lt_zero i)⟩
       case round=>
        obtain⟨q,hq,rfl,hnx3,hall3⟩:=hrel
        have HA3:Hid (∀j,j<q->Da cs (aggs.getD j (0,0))):=hall3
        clear hall3
        have g12:=cLz hnx3 f12
        have hbt:=hbs.trans (hnx3.mono hbs.size)
        have hs3:=hnx3.size
        by_cases hlt3:q<n12
        ·obtain⟨ba,oa,ea,xa,xb⟩:=HPA.out q (by rw[H12.out];exact hlt3)
         subst ea
         have ya:=cLz hbt xa
         have yb:=cLz hbt xb
         have i1:(0:Int)<=(q:Int):=by omega
         have i2:(q:Int)<(n12:Int):=by omega
         have HBA:Hid (¬Da cs (aggs.getD q (0,0))->res=true):=fun h=>HT.out (fun hf=>h (HKA.out hf q hlt3))
         have HST:Hid (Da cs (aggs.getD q (0,0))->∀j,j<q+1->Da cs (aggs.getD j (0,0))):=fun h j hj=>by
          rcases Nat.lt_succ_iff_lt_or_eq.1 hj with h1|h1
          ·exact HA3.out j h1
          ·rw[h1];exact h
         have HDE:Hid (Da cs (aggs.getD q (0,0))↔if (aggs.getD q (0,0)).1=1 then(aggs.getD q (0,0)).2=0 else(0<=(aggs.getD q (0,0)).2/\(aggs.getD q (0,0)).2<(cn:Int))/\((aggs.getD q (0,0)).1=2->cs.getD (aggs.getD q (0,0)).2.toNat 0=2)):=by
          show Da cs (aggs.getD q (0,0))↔_
          rw[<-HCN.out];exact Iff.rfl
         obtain⟨AO,hAO⟩:=nM (Da cs (aggs.getD q (0,0)))
         rw[hAO]at HBA HST HDE
         obtain⟨⟨fv,cv⟩,hfc⟩:∃z,aggs.getD q (0,0)=z:=⟨_,rfl⟩
         rw[hfc]at ya yb HDE
         dsimp only at ya yb HDE
         clear hfc hAO xa xb
         by_cases f1:fv=1
         ·subst f1
          rw[if_pos rfl]at HDE
          by_cases k0:cv=0
          ·subst k0
           have HOK:Hid AO:=HDE.out.2 rfl
           go_wp2_with
            (go_at_call 29;refine(Ak _ _ _ _).mono ?_;rintro e w' ⟨rfl,hw⟩;subst hw)
           go_roundw
           case rel=>exact⟨q+1,by omega,by go_num,(hnx3.alloc hs3 _),HST.out HOK.out⟩
           case measure=>simp[intOf];omega
          ·have k0':(cv !=0)=true:=by simpa using k0
           have HX:Hid (res=true):=HBA.out (fun h=>k0 (HDE.out.1 h))
           clear k0
           go_wp2_with
            (go_at_call 29;refine(Ak _ _ _ _).mono ?_;rintro e w' ⟨rfl,hw⟩;subst hw)
           go_ret
           exact⟨Aa HX.out.symm,hbt.alloc hbt.size _⟩
         ·rw[if_neg f1]at HDE
          have f1':(fv==1)=false:=by simpa using f1
          have f1'':(fv !=1)=true:=by simpa using f1
          clear f1
          cases pc:Az cv 0 ((cn:Int) - 1)with
          |false=>
           have HX:Hid (res=true):=HBA.out (fun h=>(BZ _ _ _).1 pc ⟨(HDE.out.1 h).1.1,by have:=(HDE.out.1 h).1.2;omega⟩)
           go_wp2_with
            (go_at_call 29;refine(Ak _ _ _ _).mono ?_;rintro e w' ⟨rfl,hw⟩;subst hw)
           go_ret
           exact⟨Aa HX.out.symm,hbt.alloc hbt.size _⟩
          |true=>
           obtain⟨y1,y2⟩:=(AJ _ _ _).1 pc
           by_cases f2:fv=2
           ·subst f2
            obtain⟨mc,rfl⟩:=Int.eq_ofNat_of_zero_le y1
            obtain⟨bc,oc,ec,xc⟩:=HIC2.out mc (by rw[HCN.out];omega)
            subst ec
            have yc:=cLz hnx3 xc
            have hyc:=bLt _ _ yc
            have hyc':bc<wr.heap.size:=hyc
            have y3:(mc:Int)<(cn:Int):=by omega
            have HD2:Hid (AO↔cs.getD mc 0=2):=by
             show AO↔_
             rw[HDE.out,Int.toNat_natCast]
             exact⟨fun h=>h.2 rfl,fun h=>⟨⟨by omega,by omega⟩,fun _=>h⟩⟩
            obtain⟨vc,hvc⟩:=nM (cs.getD mc 0)
            rw[hvc]at yc HD2
            clear hvc xc HDE hyc
            by_cases v2:vc=2
            ·subst v2
             have HOK:Hid AO:=HD2.out.2 rfl
             go_wp2_with
              (go_at_call 29;refine(Ak _ _ _ _).mono ?_;rintro e w' ⟨rfl,hw⟩;subst hw)
             go_roundw
             case rel=>exact⟨q+1,by omega,by go_num,(hnx3.alloc hs3 _),HST.out HOK.out⟩
             case measure=>simp[intOf];omega
            ·have v2':(vc !=2)=true:=by simpa using v2
             have HX:Hid (res=true):=HBA.out (fun h=>v2 (HD2.out.1 h))
             clear v2
             go_wp2_with
              (go_at_call 29;refine(Ak _ _ _ _).mono ?_;rintro e w' ⟨rfl,hw⟩;subst hw)
             go_ret
             exact⟨Aa HX.out.symm,hbt.alloc hbt.size _⟩
           ·have f2':(fv==2)=false:=by simpa using f2
            have HOK:Hid AO:=HDE.out.2 ⟨⟨y1,by omega⟩,fun h=>absurd h f2⟩
            clear f2
            go_wp2_with
             (go_at_call 29;refine(Ak _ _ _ _).mono ?_;rintro e w' ⟨rfl,hw⟩;subst hw)
            go_roundw
            case rel=>exact⟨q+1,by omega,by go_num,(hnx3.alloc hs3 _),HST.out HOK.out⟩
            case measure=>simp[intOf];omega
        ·have HX:Hid (res=false):=HF.out (HGO.out HAL.out HAG.out (fun j hj=>HA3.out j (by omega)))
         go_wp2
         go_ret
         exact⟨Aa HX.out.symm,hbt⟩
  ·have HX:Hid (res=true):=HT.out (fun h=>hln (HLH.out h).2)
   have hl8:((n8:Int) !=n9)=true:=by simp;omega
   go_enter func34,ntmps34
   go_wp2
   go_ret
   exact⟨Aa HX.out.symm,bR.alloc nR _⟩
 ·have HX:Hid (res=true):=HT.out (fun h=>hlh (HLH.out h).1)
  have hlh':high<low:=by omega
  go_enter func34,ntmps34
  go_wp2
  go_ret
  exact⟨Aa HX.out.symm,bR.alloc nR _⟩
end pl
end Go.Proofs.YtdohnkkbkfhphaaGreat
