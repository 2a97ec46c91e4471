import Derived.Test.YtdohnkkbkfhphaaGreatPq11
set_option linter.all false
set_option maxHeartbeats 8000000
set_option maxRecDepth 100000
namespace Go.Proofs.YtdohnkkbkfhphaaGreat
open Go.Proofs.Tryz
namespace pl
open Go.ChangeShapes Go.WideShapes Go.ChangeAt Go.RowKit
open vl
variable {p : Pln} {t : Int} {w : World} {x : PA}
theorem CD(p:Pln)(x:PA)(w:World)(hw:wfPlan p)(hp:planAt w p x)(n1:0<p.left.length)(n2:0<p.right.length)(m1:p.left.length<=400)(m2:p.right.length<=400):
 Calls Tryz.prog 64 #[As p x] w fun e w'=>e= .returned (.bool (decide (Cg p)))/\Bwz w w':=by
 have hcl:(Cy p).length<=800:=by unfold Cy;rw[lAp];omega
 have K1:=hIz (fun(w1:World) (hb:Bwz w w1)=>K8 p x w1 hw (Ah hp hb))
 have K2:=hIz (fun(w1:World) (hb:Bwz w w1)=>C0 p x w1 (Ah hp hb) n1 n2 m1 m2)
 have K3:=hIz (fun ad cap (w1:World) (hb:Bwz w w1)=>DG x.g ad x.gc cap (Cy p).length p.group w1 hw.g (by omega) (At hp.g hb))
 have K4:=hIz (fun ad cap (w1:World) (hb:Bwz w w1) (hi:A4 w1 ad (Cy p))=>K9 x.a ad x.ac cap p.aggs (Cy p) w1 hw.a (by omega) (DL hp.a hb) hi)
 have HK:Hid (decide (Cg p)=(decide (p.low<=p.high)&&decide (Fv p)&&decide (AF p.group (Cy p).length)&&decide (Fh (Cy p) p.aggs))):=by
  refine(Dh ?_).symm
  unfold Cg
  simp only[Bool.and_eq_true,decide_eq_true_eq,and_assoc]
  exact Iff.rfl
 obtain⟨q1,hq1⟩:=nM (decide (Fv p))
 obtain⟨q2,hq2⟩:=nM (decide (AF p.group (Cy p).length))
 obtain⟨q3,hq3⟩:=nM (decide (Fh (Cy p) p.aggs))
 rw[hq1]at K1 HK
 rw[hq2]at K3 HK
 rw[hq3]at K4 HK
 obtain⟨cn,hcn⟩:=nM ((Cy p).length)
 rw[hcn]at K2 K3 K4
 obtain⟨cs,hcs⟩:=nM (Cy p)
 rw[hcs]at K2 K4
 clear hq1 hq2 hq3 hcn hcs hcl hw hp n1 n2 m1 m2
 obtain⟨kind,mode,low,high,size,limit,left,right,lkeys,rkeys,grouped,group,aggs⟩:=p
 obtain⟨l,lc,r,rc,lk,lkc,rk,rkc,g,gc,a,ac⟩:=x
 unfold As at K1 K2⊢
 dsimp only at K1 K2 K3 K4 HK⊢
 obtain⟨n6,h6⟩:∃n,left.length=n:=⟨_,rfl⟩
 obtain⟨n7,h7⟩:∃n,right.length=n:=⟨_,rfl⟩
 obtain⟨n8,h8⟩:∃n,lkeys.length=n:=⟨_,rfl⟩
 obtain⟨n9,h9⟩:∃n,rkeys.length=n:=⟨_,rfl⟩
 obtain⟨n11,h11⟩:∃n,group.length=n:=⟨_,rfl⟩
 obtain⟨n12,h12⟩:∃n,aggs.length=n:=⟨_,rfl⟩
 rw[h6,h7,h8,h9,h11,h12]at K1 K2
 rw[h11]at K3
 rw[h12]at K4
 rw[h6,h7,h8,h9,h11,h12]
 clear h6 h7 h8 h9 h11 h12
 by_cases hlh:low<=high
 ·have t0:=M3 (x:=low) (y:=high) true (decide_eq_true hlh)
  rw[decide_eq_true hlh]at HK
  clear hlh
  cases q1
  ·clear K2 K3 K4
   go_enter func64,ntmps64
   go_wp2
   refine wp_region_held_drew (S:=(fun w'=>w'.cell? ⟨w.heap.size,0,none⟩=some (.int .i64 kind)/\w'.cell? ⟨w.heap.size,1,none⟩=some (.int .i64 mode)/\w'.cell? ⟨w.heap.size,2,none⟩=some (.int .i64 low)/\w'.cell? ⟨w.heap.size,3,none⟩=some (.int .i64 high)/\w'.cell? ⟨w.heap.size,4,none⟩=some (.int .i64 size)/\w'.cell? ⟨w.heap.size,5,none⟩=some (.int .i64 limit)/\w'.cell? ⟨w.heap.size,6,none⟩=some (.slice l n6 lc)/\w'.cell? ⟨w.heap.size,7,none⟩=some (.slice r n7 rc)/\w'.cell? ⟨w.heap.size,8,none⟩=some (.slice lk n8 lkc)/\w'.cell? ⟨w.heap.size,9,none⟩=some (.slice rk n9 rkc)/\w'.cell? ⟨w.heap.size,10,none⟩=some (.bool grouped)/\w'.cell? ⟨w.heap.size,11,none⟩=some (.slice g n11 gc)/\w'.cell? ⟨w.heap.size,12,none⟩=some (.slice a n12 ac))) (by kernel_rfl) ⟨by go_simp,by go_simp,by go_simp,by go_simp,by go_simp,by go_simp,by go_simp,by go_simp,by go_simp,by go_simp,by go_simp,by go_simp,by go_simp⟩ (fun hHz=>?_)
   refine tkz 0 3 hHz ?_;refine tkz 1 4 hHz ?_;refine tkz 2 5 hHz ?_;refine tkz 3 6 hHz ?_;refine tkz 4 7 hHz ?_;refine tkz 5 8 hHz ?_;refine tkz 6 9 hHz ?_
   refine wpAnyH_ready (rs:=[7]) (by kernel_rfl) (by simp) ?_
   refine AllReadyH.cons rfl (fun K hK=>?_) AllReadyH.nil
   go_simp
   refine(K1.out _ (by first|exact(bR.alloc nR _).drew|exact bR.alloc nR _)).mono ?_;rintro e wa ⟨rfl,hba⟩;have hb1:Bwz w wa:=(by first|exact((bR.alloc nR _).drew).trans (hba.mono (by simp))|exact(bR.alloc nR _).trans (hba.mono (by simp)))
   go_wp2_with fail
   refine hK.out _ _ (by obtain⟨a0,a1,a2,a3,a4,a5,a6,a7,a8,a9,a10,a11,a12⟩:=hHz;exact⟨cLz hba a0,cLz hba a1,cLz hba a2,cLz hba a3,cLz hba a4,cLz hba a5,cLz hba a6,cLz hba a7,cLz hba a8,cLz hba a9,cLz hba a10,cLz hba a11,cLz hba a12⟩) (fun hHz=>?_)
   clear hK K
   try simp only[Act.put,sI,sZ,sS]
   refine tkz 8 11 hHz ?_;refine tkz 9 12 hHz ?_;refine sk 10 13 hHz ?_;refine sk 11 14 hHz ?_;refine sk 12 15 hHz ?_;refine sk 13 16 hHz ?_;refine sk 14 17 hHz ?_;refine tkz 15 18 hHz ?_;refine tkz 16 19 hHz ?_;refine sk 17 20 hHz ?_;refine sk 18 21 hHz ?_;refine sk 19 22 hHz ?_;refine sk 20 23 hHz ?_;refine sk 21 24 hHz ?_;refine tkz 22 25 hHz ?_;refine tkz 23 2 hHz ?_
   refine wpAnyH_done (by kernel_rfl) ?_ _
   go_wp2
   go_ret
   exact⟨Aa (by rw[HK.out];first|rfl|simp),by first|exact hb1|exact((bR.alloc nR _).drew)|exact bR.alloc nR _⟩
  ·cases q2
   ·clear K4
    go_enter func64,ntmps64
    go_wp2
    refine wp_region_held_drew (S:=(fun w'=>w'.cell? ⟨w.heap.size,0,none⟩=some (.int .i64 kind)/\w'.cell? ⟨w.heap.size,1,none⟩=some (.int .i64 mode)/\w'.cell? ⟨w.heap.size,2,none⟩=some (.int .i64 low)/\w'.cell? ⟨w.heap.size,3,none⟩=some (.int .i64 high)/\w'.cell? ⟨w.heap.size,4,none⟩=some (.int .i64 size)/\w'.cell? ⟨w.heap.size,5,none⟩=some (.int .i64 limit)/\w'.cell? ⟨w.heap.size,6,none⟩=some (.slice l n6 lc)/\w'.cell? ⟨w.heap.size,7,none⟩=some (.slice r n7 rc)/\w'.cell? ⟨w.heap.size,8,none⟩=some (.slice lk n8 lkc)/\w'.cell? ⟨w.heap.size,9,none⟩=some (.slice rk n9 rkc)/\w'.cell? ⟨w.heap.size,10,none⟩=some (.bool grouped)/\w'.cell? ⟨w.heap.size,11,none⟩=some (.slice g n11 gc)/\w'.cell? ⟨w.heap.size,12,none⟩=some (.slice a n12 ac))) (by kernel_rfl) ⟨by go_simp,by go_simp,by go_simp,by go_simp,by go_simp,by go_simp,by go_simp,by go_simp,by go_simp,by go_simp,by go_simp,by go_simp,by go_simp⟩ (fun hHz=>?_)
    refine tkz 0 3 hHz ?_;refine tkz 1 4 hHz ?_;refine tkz 2 5 hHz ?_;refine tkz 3 6 hHz ?_;refine tkz 4 7 hHz ?_;refine tkz 5 8 hHz ?_;refine tkz 6 9 hHz ?_
    refine wpAnyH_ready (rs:=[7]) (by kernel_rfl) (by simp) ?_
    refine AllReadyH.cons rfl (fun K hK=>?_) AllReadyH.nil
    go_simp
    refine(K1.out _ (by first|exact(bR.alloc nR _).drew|exact bR.alloc nR _)).mono ?_;rintro e wa ⟨rfl,hba⟩;have hb1:Bwz w wa:=(by first|exact((bR.alloc nR _).drew).trans (hba.mono (by simp))|exact(bR.alloc nR _).trans (hba.mono (by simp)))
    go_wp2_with fail
    refine hK.out _ _ (by obtain⟨a0,a1,a2,a3,a4,a5,a6,a7,a8,a9,a10,a11,a12⟩:=hHz;exact⟨cLz hba a0,cLz hba a1,cLz hba a2,cLz hba a3,cLz hba a4,cLz hba a5,cLz hba a6,cLz hba a7,cLz hba a8,cLz hba a9,cLz hba a10,cLz hba a11,cLz hba a12⟩) (fun hHz=>?_)
    clear hK K
    try simp only[Act.put,sI,sZ,sS]
    refine tkz 8 11 hHz ?_;refine tkz 9 12 hHz ?_;refine tkz 10 13 hHz ?_;refine tkz 11 14 hHz ?_;refine tkz 12 15 hHz ?_
    refine wpAnyH_ready (rs:=[13]) (by kernel_rfl) (by simp) ?_
    refine AllReadyH.cons rfl (fun K hK=>?_) AllReadyH.nil
    go_simp
    refine(K2.out _ hb1).mono ?_;rintro e wb ⟨⟨ad,cap,rfl,ho⟩,hbb⟩;have hb2:=hb1.trans (hbb.mono hb1.size)
    go_wp2_with fail
    refine hK.out _ _ (by obtain⟨a0,a1,a2,a3,a4,a5,a6,a7,a8,a9,a10,a11,a12⟩:=hHz;exact⟨cLz hbb a0,cLz hbb a1,cLz hbb a2,cLz hbb a3,cLz hbb a4,cLz hbb a5,cLz hbb a6,cLz hbb a7,cLz hbb a8,cLz hbb a9,cLz hbb a10,cLz hbb a11,cLz hbb a12⟩) (fun hHz=>?_)
    clear hK K
    try simp only[Act.put,sI,sZ,sS]
    refine wpAnyH_ready (rs:=[14]) (by kernel_rfl) (by simp) ?_
    refine AllReadyH.cons rfl (fun K hK=>?_) AllReadyH.nil
    go_simp
    refine(K3.out _ _ _ hb2).mono ?_;rintro e wc ⟨rfl,hbc⟩;have hb3:=hb2.trans (hbc.mono hb2.size)
    go_wp2_with fail
    refine hK.out _ _ (by obtain⟨a0,a1,a2,a3,a4,a5,a6,a7,a8,a9,a10,a11,a12⟩:=hHz;exact⟨cLz hbc a0,cLz hbc a1,cLz hbc a2,cLz hbc a3,cLz hbc a4,cLz hbc a5,cLz hbc a6,cLz hbc a7,cLz hbc a8,cLz hbc a9,cLz hbc a10,cLz hbc a11,cLz hbc a12⟩) (fun hHz=>?_)
    clear hK K
    try simp only[Act.put,sI,sZ,sS]
    refine tkz 15 18 hHz ?_;refine tkz 16 19 hHz ?_;refine sk 17 20 hHz ?_;refine sk 18 21 hHz ?_;refine sk 19 22 hHz ?_;refine sk 20 23 hHz ?_;refine sk 21 24 hHz ?_;refine tkz 22 25 hHz ?_;refine tkz 23 2 hHz ?_
    refine wpAnyH_done (by kernel_rfl) ?_ _
    go_wp2
    go_ret
    exact⟨Aa (by rw[HK.out];first|rfl|simp),by first|exact hb3|exact((bR.alloc nR _).drew)|exact bR.alloc nR _⟩
   ·cases q3
    all_goals
     go_enter func64,ntmps64
     go_wp2
     refine wp_region_held_drew (S:=(fun w'=>w'.cell? ⟨w.heap.size,0,none⟩=some (.int .i64 kind)/\w'.cell? ⟨w.heap.size,1,none⟩=some (.int .i64 mode)/\w'.cell? ⟨w.heap.size,2,none⟩=some (.int .i64 low)/\w'.cell? ⟨w.heap.size,3,none⟩=some (.int .i64 high)/\w'.cell? ⟨w.heap.size,4,none⟩=some (.int .i64 size)/\w'.cell? ⟨w.heap.size,5,none⟩=some (.int .i64 limit)/\w'.cell? ⟨w.heap.size,6,none⟩=some (.slice l n6 lc)/\w'.cell? ⟨w.heap.size,7,none⟩=some (.slice r n7 rc)/\w'.cell? ⟨w.heap.size,8,none⟩=some (.slice lk n8 lkc)/\w'.cell? ⟨w.heap.size,9,none⟩=some (.slice rk n9 rkc)/\w'.cell? ⟨w.heap.size,10,none⟩=some (.bool grouped)/\w'.cell? ⟨w.heap.size,11,none⟩=some (.slice g n11 gc)/\w'.cell? ⟨w.heap.size,12,none⟩=some (.slice a n12 ac))) (by kernel_rfl) ⟨by go_simp,by go_simp,by go_simp,by go_simp,by go_simp,by go_simp,by go_simp,by go_simp,by go_simp,by go_simp,by go_simp,by go_simp,by go_simp⟩ (fun hHz=>?_)
     refine tkz 0 3 hHz ?_;refine tkz 1 4 hHz ?_;refine tkz 2 5 hHz ?_;refine tkz 3 6 hHz ?_;refine tkz 4 7 hHz ?_;refine tkz 5 8 hHz ?_;refine tkz 6 9 hHz ?_
     refine wpAnyH_ready (rs:=[7]) (by kernel_rfl) (by simp) ?_
     refine AllReadyH.cons rfl (fun K hK=>?_) AllReadyH.nil
     go_simp
     refine(K1.out _ (by first|exact(bR.alloc nR _).drew|exact bR.alloc nR _)).mono ?_;rintro e wa ⟨rfl,hba⟩;have hb1:Bwz w wa:=(by first|exact((bR.alloc nR _).drew).trans (hba.mono (by simp))|exact(bR.alloc nR _).trans (hba.mono (by simp)))
     go_wp2_with fail
     refine hK.out _ _ (by obtain⟨a0,a1,a2,a3,a4,a5,a6,a7,a8,a9,a10,a11,a12⟩:=hHz;exact⟨cLz hba a0,cLz hba a1,cLz hba a2,cLz hba a3,cLz hba a4,cLz hba a5,cLz hba a6,cLz hba a7,cLz hba a8,cLz hba a9,cLz hba a10,cLz hba a11,cLz hba a12⟩) (fun hHz=>?_)
     clear hK K
     try simp only[Act.put,sI,sZ,sS]
     refine tkz 8 11 hHz ?_;refine tkz 9 12 hHz ?_;refine tkz 10 13 hHz ?_;refine tkz 11 14 hHz ?_;refine tkz 12 15 hHz ?_
     refine wpAnyH_ready (rs:=[13]) (by kernel_rfl) (by simp) ?_
     refine AllReadyH.cons rfl (fun K hK=>?_) AllReadyH.nil
     go_simp
     refine(K2.out _ hb1).mono ?_;rintro e wb ⟨⟨ad,cap,rfl,ho⟩,hbb⟩;have hb2:=hb1.trans (hbb.mono hb1.size)
     go_wp2_with fail
     refine hK.out _ _ (by obtain⟨a0,a1,a2,a3,a4,a5,a6,a7,a8,a9,a10,a11,a12⟩:=hHz;exact⟨cLz hbb a0,cLz hbb a1,cLz hbb a2,cLz hbb a3,cLz hbb a4,cLz hbb a5,cLz hbb a6,cLz hbb a7,cLz hbb a8,cLz hbb a9,cLz hbb a10,cLz hbb a11,cLz hbb a12⟩) (fun hHz=>?_)
     clear hK K
     try simp only[Act.put,sI,sZ,sS]
     refine wpAnyH_ready (rs:=[14]) (by kernel_rfl) (by simp) ?_
     refine AllReadyH.cons rfl (fun K hK=>?_) AllReadyH.nil
     go_simp
     refine(K3.out _ _ _ hb2).mono ?_;rintro e wc ⟨rfl,hbc⟩;have hb3:=hb2.trans (hbc.mono hb2.size)
     go_wp2_with fail
     refine hK.out _ _ (by obtain⟨a0,a1,a2,a3,a4,a5,a6,a7,a8,a9,a10,a11,a12⟩:=hHz;exact⟨cLz hbc a0,cLz hbc a1,cLz hbc a2,cLz hbc a3,cLz hbc a4,cLz hbc a5,cLz hbc a6,cLz hbc a7,cLz hbc a8,cLz hbc a9,cLz hbc a10,cLz hbc a11,cLz hbc a12⟩) (fun hHz=>?_)
     clear hK K
     try simp only[Act.put,sI,sZ,sS]
     refine tkz 15 18 hHz ?_;refine tkz 16 19 hHz ?_;refine tkz 17 20 hHz ?_;refine tkz 18 21 hHz ?_;refine tkz 19 22 hHz ?_
     refine wpAnyH_ready (rs:=[20]) (by kernel_rfl) (by simp) ?_
     refine AllReadyH.cons rfl (fun K hK=>?_) AllReadyH.nil
     go_simp
     refine(K2.out _ hb3).mono ?_;rintro e wd ⟨⟨ad2,cap2,rfl,ho2⟩,hbd⟩;have hb4:=hb3.trans (hbd.mono hb3.size)
     go_wp2_with fail
     refine hK.out _ _ (by obtain⟨a0,a1,a2,a3,a4,a5,a6,a7,a8,a9,a10,a11,a12⟩:=hHz;exact⟨cLz hbd a0,cLz hbd a1,cLz hbd a2,cLz hbd a3,cLz hbd a4,cLz hbd a5,cLz hbd a6,cLz hbd a7,cLz hbd a8,cLz hbd a9,cLz hbd a10,cLz hbd a11,cLz hbd a12⟩) (fun hHz=>?_)
     clear hK K
     try simp only[Act.put,sI,sZ,sS]
     refine wpAnyH_ready (rs:=[21]) (by kernel_rfl) (by simp) ?_
     refine AllReadyH.cons rfl (fun K hK=>?_) AllReadyH.nil
     go_simp
     refine(K4.out _ _ _ hb4 (Mz ho2).1).mono ?_;rintro e we ⟨rfl,hbe⟩;have hb5:=hb4.trans (hbe.mono hb4.size)
     go_wp2_with fail
     refine hK.out _ _ (by obtain⟨a0,a1,a2,a3,a4,a5,a6,a7,a8,a9,a10,a11,a12⟩:=hHz;exact⟨cLz hbe a0,cLz hbe a1,cLz hbe a2,cLz hbe a3,cLz hbe a4,cLz hbe a5,cLz hbe a6,cLz hbe a7,cLz hbe a8,cLz hbe a9,cLz hbe a10,cLz hbe a11,cLz hbe a12⟩) (fun hHz=>?_)
     clear hK K
     try simp only[Act.put,sI,sZ,sS]
     refine tkz 22 25 hHz ?_;refine tkz 23 2 hHz ?_
     refine wpAnyH_done (by kernel_rfl) ?_ _
     go_wp2
     go_ret
     exact⟨Aa (by rw[HK.out];first|rfl|simp),by first|exact hb5|exact((bR.alloc nR _).drew)|exact bR.alloc nR _⟩
 ·have t0:=M3 (x:=low) (y:=high) false (decide_eq_false hlh)
  rw[decide_eq_false hlh]at HK
  clear hlh K1 K2 K3 K4
  go_enter func64,ntmps64
  go_wp2
  refine wp_region_held_drew (S:=(fun w'=>w'.cell? ⟨w.heap.size,0,none⟩=some (.int .i64 kind)/\w'.cell? ⟨w.heap.size,1,none⟩=some (.int .i64 mode)/\w'.cell? ⟨w.heap.size,2,none⟩=some (.int .i64 low)/\w'.cell? ⟨w.heap.size,3,none⟩=some (.int .i64 high)/\w'.cell? ⟨w.heap.size,4,none⟩=some (.int .i64 size)/\w'.cell? ⟨w.heap.size,5,none⟩=some (.int .i64 limit)/\w'.cell? ⟨w.heap.size,6,none⟩=some (.slice l n6 lc)/\w'.cell? ⟨w.heap.size,7,none⟩=some (.slice r n7 rc)/\w'.cell? ⟨w.heap.size,8,none⟩=some (.slice lk n8 lkc)/\w'.cell? ⟨w.heap.size,9,none⟩=some (.slice rk n9 rkc)/\w'.cell? ⟨w.heap.size,10,none⟩=some (.bool grouped)/\w'.cell? ⟨w.heap.size,11,none⟩=some (.slice g n11 gc)/\w'.cell? ⟨w.heap.size,12,none⟩=some (.slice a n12 ac))) (by kernel_rfl) ⟨by go_simp,by go_simp,by go_simp,by go_simp,by go_simp,by go_simp,by go_simp,by go_simp,by go_simp,by go_simp,by go_simp,by go_simp,by go_simp⟩ (fun hHz=>?_)
  refine tkz 0 3 hHz ?_;refine tkz 1 4 hHz ?_;refine tkz 2 5 hHz ?_;refine tkz 3 6 hHz ?_;refine tkz 4 7 hHz ?_;refine tkz 5 8 hHz ?_;refine sk 6 9 hHz ?_;refine sk 7 10 hHz ?_;refine tkz 8 11 hHz ?_;refine tkz 9 12 hHz ?_;refine sk 10 13 hHz ?_;refine sk 11 14 hHz ?_;refine sk 12 15 hHz ?_;refine sk 13 16 hHz ?_;refine sk 14 17 hHz ?_;refine tkz 15 18 hHz ?_;refine tkz 16 19 hHz ?_;refine sk 17 20 hHz ?_;refine sk 18 21 hHz ?_;refine sk 19 22 hHz ?_;refine sk 20 23 hHz ?_;refine sk 21 24 hHz ?_;refine tkz 22 25 hHz ?_;refine tkz 23 2 hHz ?_
  refine wpAnyH_done (by kernel_rfl) ?_ _
  go_wp2
  go_ret
  exact⟨Aa (by rw[HK.out];first|rfl|simp),by first|exact hb1|exact((bR.alloc nR _).drew)|exact bR.alloc nR _⟩
def Wz(a b c d e:Bool):Int:=if a=false then 4 else if b=false then 3 else if c=false then 2 else if d=false then 5 else if e=false then 1 else 0
theorem R6(p:Pln):Ai p=Wz (decide (CJ p)) (decide (Cn p)) (decide (CQ p)) (decide (Cv p)) (decide (Cg p)):=by
 unfold Ai Wz
 simp only[decide_eq_false_iff_not]
theorem F5(h:CQ p):(0<p.left.length/\p.left.length<=4)/\(0<p.right.length/\p.right.length<=4)/\(0<p.lkeys.length/\p.lkeys.length<=4)/\(0<p.rkeys.length/\p.rkeys.length<=4)/\p.aggs.length<=4/\p.group.length<=8:=by
 obtain⟨⟨h1,h2,h3,h4⟩,h5⟩:=h
 unfold Hj at h1 h2 h3 h4 h5
 split at h5
 ·omega
 ·omega
theorem D6(p:Pln)(x:PA)(w:World)(hw:wfPlan p)(hp:planAt w p x):
 Calls Tryz.prog 27 #[As p x] w fun e w'=>e= .returned (.int .i64 (Ai p))/\Bwz w w':=by
 have K1:=hIz (fun(w1:World) (hb:Bwz w w1)=>Jz p x w1 (Ah hp hb) hw)
 have K2:=hIz (fun(w1:World) (hb:Bwz w w1)=>DE p x w1)
 have K3:=hIz (fun(w1:World) (hb:Bwz w w1)=>DD p x w1 hw)
 have K4:Hid (∀w1,Bwz w w1->yes (decide (CQ p)) (Calls Tryz.prog 63 #[As p x] w1 fun e w'=>e= .returned (.bool (decide (Cv p)))/\Bwz w1 w')):=fun w1 hb hm=>by
  have hm':=F5 (of_decide_eq_true hm)
  exact Ki p x w1 (Ah hp hb) (by omega) (by omega) (by omega) (by omega)
 have K5:Hid (∀w1,Bwz w w1->yes (decide (CQ p)) (Calls Tryz.prog 64 #[As p x] w1 fun e w'=>e= .returned (.bool (decide (Cg p)))/\Bwz w1 w')):=fun w1 hb hm=>by
  have hm':=F5 (of_decide_eq_true hm)
  exact CD p x w1 hw (Ah hp hb) (by omega) (by omega) (by omega) (by omega)
 have HK:Hid (Ai p=Wz (decide (CJ p)) (decide (Cn p)) (decide (CQ p)) (decide (Cv p)) (decide (Cg p))):=R6 p
 obtain⟨q1,hq1⟩:=nM (decide (CJ p))
 obtain⟨q2,hq2⟩:=nM (decide (Cn p))
 obtain⟨q3,hq3⟩:=nM (decide (CQ p))
 obtain⟨q4,hq4⟩:=nM (decide (Cv p))
 obtain⟨q5,hq5⟩:=nM (decide (Cg p))
 rw[hq1]at K1 HK
 rw[hq2]at K2 HK
 rw[hq3]at K3 K4 K5 HK
 rw[hq4]at K4 HK
 rw[hq5]at K5 HK
 clear hq1 hq2 hq3 hq4 hq5 hw hp
 obtain⟨kind,mode,low,high,size,limit,left,right,lkeys,rkeys,grouped,group,aggs⟩:=p
 obtain⟨l,lc,r,rc,lk,lkc,rk,rkc,g,gc,a,ac⟩:=x
 unfold As at K1 K2 K3 K4 K5⊢
 dsimp only at K1 K2 K3 K4 K5⊢
 obtain⟨n6,h6⟩:∃n,left.length=n:=⟨_,rfl⟩
 obtain⟨n7,h7⟩:∃n,right.length=n:=⟨_,rfl⟩
 obtain⟨n8,h8⟩:∃n,lkeys.length=n:=⟨_,rfl⟩
 obtain⟨n9,h9⟩:∃n,rkeys.length=n:=⟨_,rfl⟩
 obtain⟨n11,h11⟩:∃n,group.length=n:=⟨_,rfl⟩
 obtain⟨n12,h12⟩:∃n,aggs.length=n:=⟨_,rfl⟩
 rw[h6,h7,h8,h9,h11,h12]at K1 K2 K3 K4 K5
 rw[h6,h7,h8,h9,h11,h12]
 clear h6 h7 h8 h9 h11 h12
 obtain⟨pe,hpe⟩:=nM (Ai ⟨kind,mode,low,high,size,limit,left,right,lkeys,rkeys,grouped,group,aggs⟩)
 rw[hpe]at HK⊢
 clear hpe
 go_enter func27,ntmps27
 go_wp2_with fail
 refine(K1.out _ (bR.alloc nR _)).mono ?_
 rintro e w1 ⟨rfl,hb1⟩
 have hba:=(bR.alloc nR _).trans (hb1.mono (by simp))
 obtain⟨hc1,hf1⟩:=DI hb1
 have hz1:w.heap.size<w1.heap.size:=(by have:=hb1.size;simp at this;omega)
 cases q1
 ·go_wp2
  go_ret
  exact⟨Ao HK.out.symm,hba⟩
 go_wp2_with fail
 refine(K2.out _ hba).mono ?_
 rintro e w2 ⟨rfl,hb2⟩
 have hbb:=hba.trans (hb2.mono hba.size)
 obtain⟨hc2,hf2⟩:=DI hb2
 have hz2:w.heap.size<w2.heap.size:=(by have:=hb2.size;omega)
 cases q2
 ·go_wp2
  go_ret
  exact⟨Ao HK.out.symm,hbb⟩
 go_wp2_with fail
 refine(K3.out _ hbb).mono ?_
 rintro e w3 ⟨rfl,hb3⟩
 have hbc:=hbb.trans (hb3.mono hbb.size)
 obtain⟨hc3,hf3⟩:=DI hb3
 have hz3:w.heap.size<w3.heap.size:=(by have:=hb3.size;omega)
 cases q3
 ·go_wp2
  go_ret
  exact⟨Ao HK.out.symm,hbc⟩
 go_wp2_with fail
 refine(K4.out _ hbc rfl).mono ?_
 rintro e w4 ⟨rfl,hb4⟩
 have hbd:=hbc.trans (hb4.mono hbc.size)
 obtain⟨hc4,hf4⟩:=DI hb4
 have hz4:w.heap.size<w4.heap.size:=(by have:=hb4.size;omega)
 cases q4
 ·go_wp2
  go_ret
  exact⟨Ao HK.out.symm,hbd⟩
 go_wp2_with fail
 refine(K5.out _ hbd rfl).mono ?_
 rintro e w5 ⟨rfl,hb5⟩
 have hbe:=hbd.trans (hb5.mono hbd.size)
 cases q5
 all_goals
  go_wp2
  go_ret
  exact⟨Ao HK.out.symm,hbe⟩
theorem NC:fit t↔tm.AP t=true:=by rw[tm.CI];exact Iff.rfl
theorem JN(h:fit t):tm.AP t=true:=NC.1 h
def Gy(m s:Int):Int:=if m=1099511627776 then 1099511627776 else m - s
theorem Dk{a b c d:Int}(h1:a=c)(h2:b=d):Ending.returned (.tuple #[.int .i64 a,.int .i64 b])= .returned (.tuple #[.int .i64 c,.int .i64 d]):=by rw[h1,h2]
theorem UY(m s:Int)(w:World)(hm:fit m)(hs:fit s):
 Calls Tryz.prog 110 #[.int .i64 m,.int .i64 s] w fun e w'=>e= .returned (.tuple #[.int .i64 (Gy m s),.int .i64 0])/\Bwz w w':=by
 have h:tm.UH m s=true:=by unfold tm.UH;rw[JN hm,JN hs];rfl
 obtain⟨b1,b2⟩:=hm
 obtain⟨b3,b4⟩:=hs
 by_cases e:m=1099511627776
 ·subst e
  have HU:Hid (Gy 1099511627776 s=1099511627776):=rfl
  go_enter func110,ntmps110
  go_wp2_with (go_at_call 159;refine(tm.PX _ 1099511627776 s _ (by go_simp) (by go_simp)).mono ?_;rintro e w' ⟨rfl,hw⟩;subst hw)
  go_ret2
  refine⟨Dk HU.out.symm rfl,?_⟩
  repeat (first|exact bR|apply Below.drew|(refine Below.alloc ?_ (by simp<;>omega) _))
 ·have hm':(m==1099511627776)=false:=by simpa using e
  have HU:Hid (Gy m s=m - s):=if_neg e
  clear e
  go_enter func110,ntmps110
  go_wp2_with (go_at_call 159;refine(tm.PX _ m s _ (by go_simp) (by go_simp)).mono ?_;rintro e w' ⟨rfl,hw⟩;subst hw)
  go_ret2
  refine⟨Dk HU.out.symm rfl,?_⟩
  repeat (first|exact bR|apply Below.drew|(refine Below.alloc ?_ (by simp<;>omega) _))
def Pi(mark size:Int):Int:=if mark=1099511627776 then 1099511627776 else tm.start (mark+1) size - 1
def Dx(p:Pln)(side mark:Int):Int:=
 if p.kind=1 then Gy mark (if side=2 then -p.low else p.high)else if p.kind=2 then Pi mark p.size else if side=2 then -1099511627777 else mark
def A0(side:Int):Bool:=decide (side=1\/side=2)
def Et(p:Pln)(side mark:Int):Int:=if Ai p=0 then(if A0 side=true then(if tm.AP mark=true then 0 else 3)else 4)else Ai p
def F6(p:Pln)(side mark:Int):Int:=if Et p side mark=0 then Dx p side mark else 0
theorem Ck(side:Int)(w:World):Calls Tryz.prog 87 #[.int .i64 side] w fun e w'=>e= .returned (.bool (A0 side))/\w'=w:=by
 by_cases h1:side=1
 ·subst h1
  go_enter func87,ntmps87
  go_wp2
  go_ret
  exact⟨rfl,rfl⟩
 ·have h1':(side==1)=false:=by simpa using h1
  have HS:Hid (A0 side=(side==2)):=by show A0 side=_;unfold A0;exact Bool.eq_iff_iff.2 (by simp[h1])
  clear h1
  go_enter func87,ntmps87
  go_wp2
  go_ret
  exact⟨Aa HS.out.symm,rfl⟩
theorem R7(p:Pln)(x:PA)(side:Int)(w:World)(hl:fit p.low):
 Calls Tryz.prog 111 #[As p x,.int .i64 side] w fun e w'=>e= .returned (.int .i64 (if side=2 then -p.low else p.high))/\Bwz w w':=by
 obtain⟨kind,mode,low,high,size,limit,left,right,lkeys,rkeys,grouped,group,aggs⟩:=p
 obtain⟨l,lc,r,rc,lk,lkc,rk,rkc,g,gc,a,ac⟩:=x
 unfold As
 dsimp only at hl⊢
 obtain⟨h1,h2⟩:=hl
 by_cases hs:side=2
 ·subst hs
  rw[if_pos rfl]
  go_enter func111,ntmps111
  go_wp2
  go_ret
  exact⟨Ao (by first|rfl|omega),bR.alloc nR _⟩
 ·have hs':(side==2)=false:=by simpa using hs
  rw[if_neg hs]
  clear hs
  go_enter func111,ntmps111
  go_wp2
  go_ret
  exact⟨rfl,bR.alloc nR _⟩
theorem ND(mark size:Int)(w:World)(hm:fit mark)(h1:1<=size)(h2:size<=1099511627776):
 Calls Tryz.prog 112 #[.int .i64 mark,.int .i64 size] w fun e w'=>e= .returned (.tuple #[.int .i64 (Pi mark size),.int .i64 0])/\Bwz w w':=by
 obtain⟨b1,b2⟩:=hm
 by_cases e:mark=1099511627776
 ·subst e
  have HU:Hid (Pi 1099511627776 size=1099511627776):=rfl
  go_enter func112,ntmps112
  go_wp2
  go_ret2
  exact⟨Dk HU.out.symm rfl,bR⟩
 ·have hm':(mark==1099511627776)=false:=by simpa using e
  have hf:tm.AP (mark+1)=true:=JN ⟨by omega,by omega⟩
  have HU:Hid (Pi mark size=tm.start (mark+1) size - 1):=if_neg e
  have sb:=tm.Ti (mark+1) size (by omega)
  obtain⟨sb1,sb2⟩:=sb
  clear e
  have K:Hid (∀w1,Calls Tryz.prog 160 #[.int .i64 (mark+1),.int .i64 size] w1 fun e w'=>e= .returned (.tuple #[.int .i64 (tm.start (mark+1) size),.int .i64 (tm.start (mark+1) size+size),.int .i64 0])/\w'=w1):=fun w1=>tm.J5 (mark+1) size w1 hf h1 h2
  obtain⟨sv,hsv⟩:=nM (tm.start (mark+1) size)
  rw[hsv]at K HU sb1 sb2
  clear hsv
  go_enter func112,ntmps112
  go_wp2_with (go_at_call 160;refine(K.out _).mono ?_;rintro e w' ⟨rfl,hw⟩;subst hw)
  go_ret2
  exact⟨Dk HU.out.symm rfl,bR⟩
theorem WZ(h:Ai p=0)(hk:p.kind=1):fit p.low/\fit p.high:=by
 have:=(BG h).2.1.1
 rw[if_pos hk]at this;exact this
theorem ok_2(h:Ai p=0)(hk:p.kind=2):1<=p.size/\p.size<=1099511627776:=by
 have:=(BG h).2.1.2.1
 rw[if_pos hk]at this;exact this
theorem UZ(h:fit t):fit (-t):=by unfold fit at *;omega
def W0(pe:Int)(sb fb:Bool):Int:=if pe=0 then(if sb=true then(if fb=true then 0 else 3)else 4)else pe
theorem Fq(p:Pln)(x:PA)(side mark:Int)(w:World)(hw:wfPlan p)(hp:planAt w p x):
 Calls Tryz.prog 57 #[As p x,.int .i64 side,.int .i64 mark] w fun e w'=>e= .returned (.tuple #[.int .i64 (F6 p side mark),.int .i64 (Et p side mark)])/\Bwz w w':=by
 have K1:=hIz (fun(w1:World) (hb:Bwz w w1)=>D6 p x w1 hw (Ah hp hb))
 have HE:Hid (Et p side mark=W0 (Ai p) (A0 side) (tm.AP mark)):=rfl
 have HV:Hid (F6 p side mark=if W0 (Ai p) (A0 side) (tm.AP mark)=0 then Dx p side mark else 0):=rfl
 have K2:=hIz (fun(w1:World) (h:Ai p=0) (hk:p.kind=1)=>R7 p x side w1 (WZ h hk).1)
 have HF:Hid (Ai p=0->p.kind=1->fit (if side=2 then -p.low else p.high)):=fun h hk=>by
  have:=WZ h hk
  split
  ·exact UZ this.1
  ·exact this.2
 have HS:Hid (Ai p=0->p.kind=2->1<=p.size/\p.size<=1099511627776):=fun h hk=>ok_2 h hk
 have HG1:Hid (p.kind=1->Dx p side mark=Gy mark (if side=2 then -p.low else p.high)):=fun h=>if_pos h
 have HG2:Hid (p.kind=2->Dx p side mark=Pi mark p.size):=fun h=>by show Dx p side mark=_;unfold Dx;rw[if_neg (by omega),if_pos h]
 have HG3:Hid (¬p.kind=1->¬p.kind=2->Dx p side mark=if side=2 then -1099511627777 else mark):=fun h1 h2=>by show Dx p side mark=_;unfold Dx;rw[if_neg h1,if_neg h2]
 obtain⟨pe,hpe⟩:=nM (Ai p)
 rw[hpe]at K1 HE HV K2 HF HS
 obtain⟨rv,hrv⟩:=nM (if side=2 then -p.low else p.high)
 rw[hrv]at K2 HF HG1
 obtain⟨gv,hgv⟩:=nM (F6 p side mark)
 obtain⟨ge,hge⟩:=nM (Et p side mark)
 obtain⟨ga,hga⟩:=nM (Dx p side mark)
 rw[hgv]at HV⊢
 rw[hge]at HE⊢
 rw[hga]at HV HG1 HG2 HG3
 clear hpe hrv hgv hge hga hw hp
 obtain⟨kind,mode,low,high,size,limit,left,right,lkeys,rkeys,grouped,group,aggs⟩:=p
 obtain⟨l,lc,r,rc,lk,lkc,rk,rkc,g,gc,a,ac⟩:=x
 unfold As at K1 K2⊢
 dsimp only at K1 K2 HF HS HG1 HG2 HG3⊢
 obtain⟨n6,h6⟩:∃n,left.length=n:=⟨_,rfl⟩
 obtain⟨n7,h7⟩:∃n,right.length=n:=⟨_,rfl⟩
 obtain⟨n8,h8⟩:∃n,lkeys.length=n:=⟨_,rfl⟩
 obtain⟨n9,h9⟩:∃n,rkeys.length=n:=⟨_,rfl⟩
 obtain⟨n11,h11⟩:∃n,group.length=n:=⟨_,rfl⟩
 obtain⟨n12,h12⟩:∃n,aggs.length=n:=⟨_,rfl⟩
 rw[h6,h7,h8,h9,h11,h12]at K1 K2
 rw[h6,h7,h8,h9,h11,h12]
 clear h6 h7 h8 h9 h11 h12
 go_enter func57,ntmps57
 go_wp2_with fail
 refine(K1.out _ (bR.alloc nR _)).mono ?_
 rintro e w1 ⟨rfl,hb1⟩
 have hba:=(bR.alloc nR _).trans (hb1.mono (by simp))
 obtain⟨hc1,hf1⟩:=DI hb1
 have hz1:w.heap.size<w1.heap.size:=(by have:=hb1.size;simp at this;omega)
 by_cases h0:pe=0
 ·subst h0
  cases hsb:A0 side
  ·rw[hsb]at HE HV
   go_wp2_with (go_at_call 87;refine(Ck _ _).mono ?_;rintro e w' ⟨rfl,hw⟩;subst hw)
   go_ret2
   exact⟨Dk (by rw[HV.out];rfl) (by rw[HE.out];rfl),hba⟩
  rw[hsb]at HE HV
  cases hfb:tm.AP mark
  ·rw[hfb]at HE HV
   go_wp2_with (first
    |(go_at_call 87;refine(Ck _ _).mono ?_;rintro e w' ⟨rfl,hw⟩;subst hw)
    |(go_at_call 88;refine(tm.Ca _ _).mono ?_;rintro e w' ⟨rfl,hw⟩;subst hw))
   go_ret2
   exact⟨Dk (by rw[HV.out];rfl) (by rw[HE.out];rfl),hba⟩
  rw[hfb]at HE HV
  have HFM:Hid (fit mark):=NC.2 hfb
  have HV':Hid (gv=ga):=HV.out
  have HE':Hid (ge=0):=HE.out
  clear HV HE
  by_cases k1:kind=1
  ·subst k1
   have HG:=HG1.out rfl
   have HGG:Hid (ga=Gy mark rv):=HG
   have KR:Hid (∀w1,Calls Tryz.prog 111 #[.agg #[.int .i64 1,.int .i64 mode,.int .i64 low,.int .i64 high,.int .i64 size,.int .i64 limit,.slice l n6 lc,.slice r n7 rc,.slice lk n8 lkc,.slice rk n9 rkc,.bool grouped,.slice g n11 gc,.slice a n12 ac],.int .i64 side] w1 fun e w'=>e= .returned (.int .i64 rv)/\Bwz w1 w'):=fun w1=>K2.out w1 rfl rfl
   have HFR:Hid (fit rv):=HF.out rfl rfl
   clear HG K2 HF HG1 HG2 HG3 HS
   go_wp2_with (first
    |(go_at_call 87;refine(Ck _ _).mono ?_;rintro e w' ⟨rfl,hw⟩;subst hw)
    |(go_at_call 88;refine(tm.Ca _ _).mono ?_;rintro e w' ⟨rfl,hw⟩;subst hw)
    |(go_at_call 111;refine(KR.out _).mono ?_;rintro e w2 ⟨rfl,hb2⟩;have hbb:=hba.trans (hb2.mono hba.size))
    |(go_at_call 110;refine(UY _ _ _ HFM.out HFR.out).mono ?_;rintro e w3 ⟨rfl,hb3⟩;have hbc:=hbb.trans (hb3.mono hbb.size)))
   go_ret2
   exact⟨Dk (by rw[HV'.out,HGG.out]) HE'.out.symm,hbc⟩
  ·have k1':(kind==1)=false:=by simpa using k1
   by_cases k2:kind=2
   ·subst k2
    have HGG:Hid (ga=Pi mark size):=HG2.out rfl
    have HSS:=HS.out rfl rfl
    obtain⟨s1,s2⟩:=HSS
    clear K2 HF HG1 HG2 HG3 HS k1
    go_wp2_with (first
     |(go_at_call 87;refine(Ck _ _).mono ?_;rintro e w' ⟨rfl,hw⟩;subst hw)
     |(go_at_call 88;refine(tm.Ca _ _).mono ?_;rintro e w' ⟨rfl,hw⟩;subst hw)
     |(go_at_call 112;refine(ND _ _ _ HFM.out s1 s2).mono ?_;rintro e w3 ⟨rfl,hb3⟩;have hbc:=hba.trans (hb3.mono hba.size)))
    go_ret2
    exact⟨Dk (by rw[HV'.out,HGG.out]) HE'.out.symm,hbc⟩
   ·have k2':(kind==2)=false:=by simpa using k2
    have HGG:Hid (ga=if side=2 then -1099511627777 else mark):=HG3.out k1 k2
    clear K2 HF HG1 HG2 HG3 HS k1 k2
    by_cases s2:side=2
    ·subst s2
     go_wp2_with (first
      |(go_at_call 87;refine(Ck _ _).mono ?_;rintro e w' ⟨rfl,hw⟩;subst hw)
      |(go_at_call 88;refine(tm.Ca _ _).mono ?_;rintro e w' ⟨rfl,hw⟩;subst hw))
     go_ret2
     exact⟨Dk (by rw[HV'.out,HGG.out];rfl) HE'.out.symm,hba⟩
    ·have s2':(side==2)=false:=by simpa using s2
     rw[if_neg s2]at HGG
     clear s2
     go_wp2_with (first
      |(go_at_call 87;refine(Ck _ _).mono ?_;rintro e w' ⟨rfl,hw⟩;subst hw)
      |(go_at_call 88;refine(tm.Ca _ _).mono ?_;rintro e w' ⟨rfl,hw⟩;subst hw))
     go_ret2
     exact⟨Dk (by rw[HV'.out,HGG.out]) HE'.out.symm,hba⟩
 ·have h0':(pe !=0)=true:=by simpa using h0
  have HE':Hid (ge=pe):=by show ge=pe;rw[HE.out];exact if_neg h0
  have HV':Hid (gv=0):=by
   show gv=0
   rw[HV.out,if_neg]
   unfold W0
   rw[if_neg h0];exact h0
  clear h0 HE HV
  go_wp2
  go_ret2
  exact⟨Dk HV'.out.symm HE'.out.symm,hba⟩
def A1(p:Pln)(side:Int):List Int:=if side=2 then p.right else p.left
def keysOf(p:Pln)(side:Int):List Int:=if side=2 then p.rkeys else p.lkeys
def cA(x:PA)(side:Int):Option Addr:=if side=2 then x.r else x.l
def cC(x:PA)(side:Int):Nat:=if side=2 then x.rc else x.lc
def kA(x:PA)(side:Int):Option Addr:=if side=2 then x.rk else x.lk
def kC(x:PA)(side:Int):Nat:=if side=2 then x.rkc else x.lkc
theorem W6(h:planAt w p x)(side:Int):A4 w (cA x side) (A1 p side):=by
 unfold cA A1;split
 ·exact h.r
 ·exact h.l
theorem EU(h:planAt w p x)(side:Int):A4 w (kA x side) (keysOf p side):=by
 unfold kA keysOf;split
 ·exact h.rk
 ·exact h.lk
theorem Ql(h:wfPlan p)(side:Int):(A1 p side).length<=9223372036854775807:=by
 unfold A1;split
 ·exact h.r
 ·exact h.l
def Hp(c:Cel)(t:Int):Bool:=decide (c.k=0\/c.k=t)
def Gz(r:List Cel)(c:List Int):Bool:=decide (r.length=c.length)&&allB r.length (fun i=>Hp (r.getD i default) (c.getD i 0))
def Xa(p:Pln)(side:Int)(r:List Cel):Int:=
 if A0 side=false then 4 else if r.length≠(A1 p side).length then 2 else if E7 r≠0 then E7 r else if Gz r (A1 p side)=false then 5 else 0
def AV(p:Pln)(side:Int)(r:List Cel):Int:=if Ai p=0 then Xa p side r else Ai p
theorem IA(p:Pln)(x:PA)(side:Int)(w:World):
 Calls Tryz.prog 155 #[As p x,.int .i64 side] w fun e w'=>e= .returned (.slice (cA x side) (A1 p side).length (cC x side))/\Bwz w w':=by
 unfold cA cC A1
 obtain⟨kind,mode,low,high,size,limit,left,right,lkeys,rkeys,grouped,group,aggs⟩:=p
 obtain⟨l,lc,r,rc,lk,lkc,rk,rkc,g,gc,a,ac⟩:=x
 unfold As
 dsimp only
 by_cases hs:side=2
 ·subst hs
  simp only[if_true]
  go_enter func155,ntmps155
  go_wp2
  go_ret
  exact⟨rfl,bR.alloc nR _⟩
 ·have hs':(side==2)=false:=by simpa using hs
  simp only[if_neg hs]
  clear hs
  go_enter func155,ntmps155
  go_wp2
  go_ret
  exact⟨rfl,bR.alloc nR _⟩
theorem R8(p:Pln)(x:PA)(side:Int)(w:World):
 Calls Tryz.prog 108 #[As p x,.int .i64 side] w fun e w'=>e= .returned (.slice (kA x side) (keysOf p side).length (kC x side))/\Bwz w w':=by
 unfold kA kC keysOf
 obtain⟨kind,mode,low,high,size,limit,left,right,lkeys,rkeys,grouped,group,aggs⟩:=p
 obtain⟨l,lc,r,rc,lk,lkc,rk,rkc,g,gc,a,ac⟩:=x
 unfold As
 dsimp only
 by_cases hs:side=2
 ·subst hs
  simp only[if_true]
  go_enter func108,ntmps108
  go_wp2
  go_ret
  exact⟨rfl,bR.alloc nR _⟩
 ·have hs':(side==2)=false:=by simpa using hs
  simp only[if_neg hs]
  clear hs
  go_enter func108,ntmps108
  go_wp2
  go_ret
  exact⟨rfl,bR.alloc nR _⟩
theorem Va(i:Nat)(B:Nat)(ad:Option Addr)(cp:Nat)(c:List Int)(k n:Int)(s:ByteArray)(w:World)(hi:i<c.length)(hl:c.length<=9223372036854775807)(hc:A4 w ad c)(hb:w.cell? ⟨B,0,none⟩=some (.slice ad c.length cp)):
 Calls Tryz.prog 192 #[.int .i64 i,.agg #[.int .i64 k,.int .i64 n,.string s],.pointer (some ⟨B,0,none⟩)] w fun e w'=>e= .returned (.bool (Hp ⟨k,n,s⟩ (c.getD i 0)))/\Bwz w w':=by
 have hBlt:=bLt _ _ hb
 have hBlt':B<w.heap.size:=hBlt
 obtain⟨bc,oc,ec,xc⟩:=hc i hi
 subst ec
 have hclt:=bLt _ _ xc
 have hclt':bc<w.heap.size:=hclt
 have HB:Hid (Hp ⟨k,n,s⟩ (c.getD i 0)=decide (k=0\/k=c.getD i 0)):=rfl
 obtain⟨m,hm⟩:=nM c.length
 obtain⟨t,ht⟩:=nM (c.getD i 0)
 rw[hm]at hi hl hb
 rw[ht]at xc HB⊢
 have i1:(0:Int)<=(i:Int):=by omega
 have i2:(i:Int)<(m:Int):=by omega
 clear hm ht hc hBlt hclt
 by_cases hk:k=0
 ·subst hk
  go_enter func192,ntmps192
  go_wp2
  go_quiet (fail)
  go_wp2
  go_ret
  exact⟨Aa (by rw[HB.out];simp),NV (bR.alloc nR _) _⟩
 ·have hk':(k==0)=false:=by simpa using hk
  have HB2:Hid (Hp ⟨k,n,s⟩ t=(k==t)):=by show Hp ⟨k,n,s⟩ t=_;rw[HB.out];exact Bool.eq_iff_iff.2 (by simp[hk])
  clear hk HB
  go_enter func192,ntmps192
  go_wp2
  go_quiet (fail)
  go_wp2
  go_ret
  exact⟨Aa HB2.out.symm,NV (bR.alloc nR _) _⟩
theorem R9(a ad:Option Addr)(ca cp:Nat)(r:List Cel)(c:List Int)(w:World)(hl:r.length<=9223372036854775807)(hcl:c.length<=9223372036854775807)(ha:vl.rowAt w a r)(hc:A4 w ad c):
 Calls Tryz.prog 157 #[.slice a r.length ca,.slice ad c.length cp] w fun e w'=>e= .returned (.bool (Gz r c))/\Bwz w w':=by
 have K:Hid (∀B w1,Bwz w w1->r.length=c.length->w1.cell? ⟨B,0,none⟩=some (.slice ad c.length cp)->
  Calls Tryz.prog 191 #[.slice a r.length ca,.func (.func 192) #[] #[.pointer (some ⟨B,0,none⟩)]] w1 fun e w'=>e= .returned (.bool (allB r.length (fun i=>Hp (r.getD i default) (c.getD i 0))))/\Bwz w1 w'):=by
  intro B w1 hb hlen e0
  exact LV 192 (enters_of func192 (by kernel_rfl) rfl) #[.pointer (some ⟨B,0,none⟩)] (fun i=>Hp (r.getD i default) (c.getD i 0)) a ca r w1 hl (Ac ha hb)
   (fun i w2 hi hb2=>Va i B ad cp c _ _ _ w2 (by omega) hcl (At (At hc hb) hb2) (cLz hb2 e0))
 have HB:Hid (Gz r c=(decide (r.length=c.length)&&allB r.length (fun i=>Hp (r.getD i default) (c.getD i 0)))):=rfl
 obtain⟨tb,htb⟩:=nM (allB r.length (fun i=>Hp (r.getD i default) (c.getD i 0)))
 rw[htb]at K HB
 obtain⟨m,hm⟩:=nM r.length
 obtain⟨k,hk⟩:=nM c.length
 rw[hm,hk]at K HB
 rw[hm,hk]
 clear hm hk htb ha hc hl hcl
 by_cases he:m=k
 ·subst he
  rw[show decide (m=m)=true by simp]at HB
  have he':((m:Int)==m)=true:=by simp
  go_enter func157,ntmps157
  go_wp2_with (go_at_call 191;refine(K.out _ _ (bR.alloc nR _) (by trivial) (by go_simp)).mono ?_;rintro e w1 ⟨rfl,hb1⟩)
  go_ret
  exact⟨Aa (by rw[HB.out];simp),(bR.alloc nR _).trans (hb1.mono (by simp))⟩
 ·have he':((m:Int)==k)=false:=by simp;omega
  rw[decide_eq_false he]at HB
  clear he
  go_enter func157,ntmps157
  go_wp2
  go_ret
  exact⟨Aa (by rw[HB.out];rfl),bR.alloc nR _⟩
end pl
end Go.Proofs.YtdohnkkbkfhphaaGreat
