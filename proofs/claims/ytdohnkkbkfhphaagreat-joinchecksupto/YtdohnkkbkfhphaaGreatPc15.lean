import Derived.Test.YtdohnkkbkfhphaaGreatPc14
set_option linter.all false
set_option maxHeartbeats 8000000
set_option maxRecDepth 100000
namespace Go.Proofs.YtdohnkkbkfhphaaGreat
open Go.Proofs.Tryz
namespace pl
open Go.ChangeShapes Go.WideShapes Go.ChangeAt Go.RowKit
open vl
variable {p : Pln} {t : Int}
theorem CW(p:Pln)(x:PA)(w:World)(hw:wfPlan p)(hp:planAt w p x)(n1:0<p.left.length)(n2:0<p.right.length)(m1:p.left.length<=400)(m2:p.right.length<=400):
 Calls Tryz.prog 64 #[Ap p x] w fun e w'=>e= .returned (.bool (decide (AG p)))/\Bwz w w':=by
 have hcl:(Bj p).length<=800:=by unfold Bj;rw[lAp];omega
 have K1:=hIz (fun(w1:World) (hb:Bwz w w1)=>Md p x w1 hw (Af hp hb))
 have K2:=hIz (fun(w1:World) (hb:Bwz w w1)=>CL p x w1 (Af hp hb) n1 n2 m1 m2)
 have K3:=hIz (fun ad cap (w1:World) (hb:Bwz w w1)=>Ed x.g ad x.gc cap (Bj p).length p.group w1 hw.g (by omega) (As hp.g hb))
 have K4:=hIz (fun ad cap (w1:World) (hb:Bwz w w1) (hi:A2 w1 ad (Bj p))=>Me x.a ad x.ac cap p.aggs (Bj p) w1 hw.a (by omega) (CR hp.a hb) hi)
 have HK:Hid (decide (AG p)=(decide (p.low<=p.high)&&decide (FX p)&&decide (AP p.group (Bj p).length)&&decide (F6 (Bj p) p.aggs))):=by
  refine(CY ?_).symm
  unfold AG
  simp only[Bool.and_eq_true,decide_eq_true_eq,and_assoc]
  exact Iff.rfl
 obtain⟨q1,hq1⟩:=nM (decide (FX p))
 obtain⟨q2,hq2⟩:=nM (decide (AP p.group (Bj p).length))
 obtain⟨q3,hq3⟩:=nM (decide (F6 (Bj p) p.aggs))
 rw[hq1]at K1 HK
 rw[hq2]at K3 HK
 rw[hq3]at K4 HK
 obtain⟨cn,hcn⟩:=nM ((Bj p).length)
 rw[hcn]at K2 K3 K4
 obtain⟨cs,hcs⟩:=nM (Bj p)
 rw[hcs]at K2 K4
 clear hq1 hq2 hq3 hcn hcs hcl hw hp n1 n2 m1 m2
 obtain⟨kind,mode,low,high,size,limit,left,right,lkeys,rkeys,grouped,group,aggs⟩:=p
 obtain⟨l,lc,r,rc,lk,lkc,rk,rkc,g,gc,a,ac⟩:=x
 unfold Ap at K1 K2⊢
 dsimp only at K1 K2 K3 K4 HK⊢
 obtain⟨n6,h6⟩:∃n,left.length=n:=⟨_,rfl⟩
 obtain⟨n7,h7⟩:∃n,right.length=n:=⟨_,rfl⟩
 obtain⟨n8,h8⟩:∃n,lkeys.length=n:=⟨_,rfl⟩
 obtain⟨n9,h9⟩:∃n,rkeys.length=n:=⟨_,rfl⟩
 obtain⟨n11,h11⟩:∃n,group.length=n:=⟨_,rfl⟩
 obtain⟨n12,h12⟩:∃n,aggs.length=n:=⟨_,rfl⟩
 rw[h6,h7,h8,h9,h11,h12]at K1 K2
 rw[h11]at K3
 rw[h12]at K4
 rw[h6,h7,h8,h9,h11,h12]
 clear h6 h7 h8 h9 h11 h12
 by_cases hlh:low<=high
 ·have t0:=NO (x:=low) (y:=high) true (decide_eq_true hlh)
  rw[decide_eq_true hlh]at HK
  clear hlh
  cases q1
  ·clear K2 K3 K4
   go_enter func64,ntmps64
   go_wp2
   refine wp_region_held_drew (S:=(fun w'=>w'.cell? ⟨w.heap.size,0,none⟩=some (.int .i64 kind)/\w'.cell? ⟨w.heap.size,1,none⟩=some (.int .i64 mode)/\w'.cell? ⟨w.heap.size,2,none⟩=some (.int .i64 low)/\w'.cell? ⟨w.heap.size,3,none⟩=some (.int .i64 high)/\w'.cell? ⟨w.heap.size,4,none⟩=some (.int .i64 size)/\w'.cell? ⟨w.heap.size,5,none⟩=some (.int .i64 limit)/\w'.cell? ⟨w.heap.size,6,none⟩=some (.slice l n6 lc)/\w'.cell? ⟨w.heap.size,7,none⟩=some (.slice r n7 rc)/\w'.cell? ⟨w.heap.size,8,none⟩=some (.slice lk n8 lkc)/\w'.cell? ⟨w.heap.size,9,none⟩=some (.slice rk n9 rkc)/\w'.cell? ⟨w.heap.size,10,none⟩=some (.bool grouped)/\w'.cell? ⟨w.heap.size,11,none⟩=some (.slice g n11 gc)/\w'.cell? ⟨w.heap.size,12,none⟩=some (.slice a n12 ac))) (by kernel_rfl) ⟨by go_simp,by go_simp,by go_simp,by go_simp,by go_simp,by go_simp,by go_simp,by go_simp,by go_simp,by go_simp,by go_simp,by go_simp,by go_simp⟩ (fun hHz=>?_)
   refine tkz 0 3 hHz ?_;refine tkz 1 4 hHz ?_;refine tkz 2 5 hHz ?_;refine tkz 3 6 hHz ?_;refine tkz 4 7 hHz ?_;refine tkz 5 8 hHz ?_;refine tkz 6 9 hHz ?_
   refine wpAnyH_ready (rs:=[7]) (by kernel_rfl) (by simp) ?_
   refine AllReadyH.cons rfl (fun K hK=>?_) AllReadyH.nil
   go_simp
   refine(K1.out _ (by first|exact(bR.alloc nR _).drew|exact bR.alloc nR _)).mono ?_;rintro e wa ⟨rfl,hba⟩;have hb1:Bwz w wa:=(by first|exact((bR.alloc nR _).drew).trans (hba.mono (by simp))|exact(bR.alloc nR _).trans (hba.mono (by simp)))
   go_wp2_with fail
   refine hK.out _ _ (by obtain⟨a0,a1,a2,a3,a4,a5,a6,a7,a8,a9,a10,a11,a12⟩:=hHz;exact⟨cLz hba a0,cLz hba a1,cLz hba a2,cLz hba a3,cLz hba a4,cLz hba a5,cLz hba a6,cLz hba a7,cLz hba a8,cLz hba a9,cLz hba a10,cLz hba a11,cLz hba a12⟩) (fun hHz=>?_)
   clear hK K
   try simp only[Act.put,sI,sZ,sSz]
   refine tkz 8 11 hHz ?_;refine tkz 9 12 hHz ?_;refine sk 10 13 hHz ?_;refine sk 11 14 hHz ?_;refine sk 12 15 hHz ?_;refine sk 13 16 hHz ?_;refine sk 14 17 hHz ?_;refine tkz 15 18 hHz ?_;refine tkz 16 19 hHz ?_;refine sk 17 20 hHz ?_;refine sk 18 21 hHz ?_;refine sk 19 22 hHz ?_;refine sk 20 23 hHz ?_;refine sk 21 24 hHz ?_;refine tkz 22 25 hHz ?_;refine tkz 23 2 hHz ?_
   refine wpAnyH_done (by kernel_rfl) ?_ _
   go_wp2
   go_ret
   exact⟨Aa (by rw[HK.out];first|rfl|simp),by first|exact hb1|exact((bR.alloc nR _).drew)|exact bR.alloc nR _⟩
  ·cases q2
   ·clear K4
    go_enter func64,ntmps64
    go_wp2
    refine wp_region_held_drew (S:=(fun w'=>w'.cell? ⟨w.heap.size,0,none⟩=some (.int .i64 kind)/\w'.cell? ⟨w.heap.size,1,none⟩=some (.int .i64 mode)/\w'.cell? ⟨w.heap.size,2,none⟩=some (.int .i64 low)/\w'.cell? ⟨w.heap.size,3,none⟩=some (.int .i64 high)/\w'.cell? ⟨w.heap.size,4,none⟩=some (.int .i64 size)/\w'.cell? ⟨w.heap.size,5,none⟩=some (.int .i64 limit)/\w'.cell? ⟨w.heap.size,6,none⟩=some (.slice l n6 lc)/\w'.cell? ⟨w.heap.size,7,none⟩=some (.slice r n7 rc)/\w'.cell? ⟨w.heap.size,8,none⟩=some (.slice lk n8 lkc)/\w'.cell? ⟨w.heap.size,9,none⟩=some (.slice rk n9 rkc)/\w'.cell? ⟨w.heap.size,10,none⟩=some (.bool grouped)/\w'.cell? ⟨w.heap.size,11,none⟩=some (.slice g n11 gc)/\w'.cell? ⟨w.heap.size,12,none⟩=some (.slice a n12 ac))) (by kernel_rfl) ⟨by go_simp,by go_simp,by go_simp,by go_simp,by go_simp,by go_simp,by go_simp,by go_simp,by go_simp,by go_simp,by go_simp,by go_simp,by go_simp⟩ (fun hHz=>?_)
    refine tkz 0 3 hHz ?_;refine tkz 1 4 hHz ?_;refine tkz 2 5 hHz ?_;refine tkz 3 6 hHz ?_;refine tkz 4 7 hHz ?_;refine tkz 5 8 hHz ?_;refine tkz 6 9 hHz ?_
    refine wpAnyH_ready (rs:=[7]) (by kernel_rfl) (by simp) ?_
    refine AllReadyH.cons rfl (fun K hK=>?_) AllReadyH.nil
    go_simp
    refine(K1.out _ (by first|exact(bR.alloc nR _).drew|exact bR.alloc nR _)).mono ?_;rintro e wa ⟨rfl,hba⟩;have hb1:Bwz w wa:=(by first|exact((bR.alloc nR _).drew).trans (hba.mono (by simp))|exact(bR.alloc nR _).trans (hba.mono (by simp)))
    go_wp2_with fail
    refine hK.out _ _ (by obtain⟨a0,a1,a2,a3,a4,a5,a6,a7,a8,a9,a10,a11,a12⟩:=hHz;exact⟨cLz hba a0,cLz hba a1,cLz hba a2,cLz hba a3,cLz hba a4,cLz hba a5,cLz hba a6,cLz hba a7,cLz hba a8,cLz hba a9,cLz hba a10,cLz hba a11,cLz hba a12⟩) (fun hHz=>?_)
    clear hK K
    try simp only[Act.put,sI,sZ,sSz]
    refine tkz 8 11 hHz ?_;refine tkz 9 12 hHz ?_;refine tkz 10 13 hHz ?_;refine tkz 11 14 hHz ?_;refine tkz 12 15 hHz ?_
    refine wpAnyH_ready (rs:=[13]) (by kernel_rfl) (by simp) ?_
    refine AllReadyH.cons rfl (fun K hK=>?_) AllReadyH.nil
    go_simp
    refine(K2.out _ hb1).mono ?_;rintro e wb ⟨⟨ad,cap,rfl,ho⟩,hbb⟩;have hb2:=hb1.trans (hbb.mono hb1.size)
    go_wp2_with fail
    refine hK.out _ _ (by obtain⟨a0,a1,a2,a3,a4,a5,a6,a7,a8,a9,a10,a11,a12⟩:=hHz;exact⟨cLz hbb a0,cLz hbb a1,cLz hbb a2,cLz hbb a3,cLz hbb a4,cLz hbb a5,cLz hbb a6,cLz hbb a7,cLz hbb a8,cLz hbb a9,cLz hbb a10,cLz hbb a11,cLz hbb a12⟩) (fun hHz=>?_)
    clear hK K
    try simp only[Act.put,sI,sZ,sSz]
    refine wpAnyH_ready (rs:=[14]) (by kernel_rfl) (by simp) ?_
    refine AllReadyH.cons rfl (fun K hK=>?_) AllReadyH.nil
    go_simp
    refine(K3.out _ _ _ hb2).mono ?_;rintro e wc ⟨rfl,hbc⟩;have hb3:=hb2.trans (hbc.mono hb2.size)
    go_wp2_with fail
    refine hK.out _ _ (by obtain⟨a0,a1,a2,a3,a4,a5,a6,a7,a8,a9,a10,a11,a12⟩:=hHz;exact⟨cLz hbc a0,cLz hbc a1,cLz hbc a2,cLz hbc a3,cLz hbc a4,cLz hbc a5,cLz hbc a6,cLz hbc a7,cLz hbc a8,cLz hbc a9,cLz hbc a10,cLz hbc a11,cLz hbc a12⟩) (fun hHz=>?_)
    clear hK K
    try simp only[Act.put,sI,sZ,sSz]
    refine tkz 15 18 hHz ?_;refine tkz 16 19 hHz ?_;refine sk 17 20 hHz ?_;refine sk 18 21 hHz ?_;refine sk 19 22 hHz ?_;refine sk 20 23 hHz ?_;refine sk 21 24 hHz ?_;refine tkz 22 25 hHz ?_;refine tkz 23 2 hHz ?_
    refine wpAnyH_done (by kernel_rfl) ?_ _
    go_wp2
    go_ret
    exact⟨Aa (by rw[HK.out];first|rfl|simp),by first|exact hb3|exact((bR.alloc nR _).drew)|exact bR.alloc nR _⟩
   ·cases q3
    all_goals
     go_enter func64,ntmps64
     go_wp2
     refine wp_region_held_drew (S:=(fun w'=>w'.cell? ⟨w.heap.size,0,none⟩=some (.int .i64 kind)/\w'.cell? ⟨w.heap.size,1,none⟩=some (.int .i64 mode)/\w'.cell? ⟨w.heap.size,2,none⟩=some (.int .i64 low)/\w'.cell? ⟨w.heap.size,3,none⟩=some (.int .i64 high)/\w'.cell? ⟨w.heap.size,4,none⟩=some (.int .i64 size)/\w'.cell? ⟨w.heap.size,5,none⟩=some (.int .i64 limit)/\w'.cell? ⟨w.heap.size,6,none⟩=some (.slice l n6 lc)/\w'.cell? ⟨w.heap.size,7,none⟩=some (.slice r n7 rc)/\w'.cell? ⟨w.heap.size,8,none⟩=some (.slice lk n8 lkc)/\w'.cell? ⟨w.heap.size,9,none⟩=some (.slice rk n9 rkc)/\w'.cell? ⟨w.heap.size,10,none⟩=some (.bool grouped)/\w'.cell? ⟨w.heap.size,11,none⟩=some (.slice g n11 gc)/\w'.cell? ⟨w.heap.size,12,none⟩=some (.slice a n12 ac))) (by kernel_rfl) ⟨by go_simp,by go_simp,by go_simp,by go_simp,by go_simp,by go_simp,by go_simp,by go_simp,by go_simp,by go_simp,by go_simp,by go_simp,by go_simp⟩ (fun hHz=>?_)
     refine tkz 0 3 hHz ?_;refine tkz 1 4 hHz ?_;refine tkz 2 5 hHz ?_;refine tkz 3 6 hHz ?_;refine tkz 4 7 hHz ?_;refine tkz 5 8 hHz ?_;refine tkz 6 9 hHz ?_
     refine wpAnyH_ready (rs:=[7]) (by kernel_rfl) (by simp) ?_
     refine AllReadyH.cons rfl (fun K hK=>?_) AllReadyH.nil
     go_simp
     refine(K1.out _ (by first|exact(bR.alloc nR _).drew|exact bR.alloc nR _)).mono ?_;rintro e wa ⟨rfl,hba⟩;have hb1:Bwz w wa:=(by first|exact((bR.alloc nR _).drew).trans (hba.mono (by simp))|exact(bR.alloc nR _).trans (hba.mono (by simp)))
     go_wp2_with fail
     refine hK.out _ _ (by obtain⟨a0,a1,a2,a3,a4,a5,a6,a7,a8,a9,a10,a11,a12⟩:=hHz;exact⟨cLz hba a0,cLz hba a1,cLz hba a2,cLz hba a3,cLz hba a4,cLz hba a5,cLz hba a6,cLz hba a7,cLz hba a8,cLz hba a9,cLz hba a10,cLz hba a11,cLz hba a12⟩) (fun hHz=>?_)
     clear hK K
     try simp only[Act.put,sI,sZ,sSz]
     refine tkz 8 11 hHz ?_;refine tkz 9 12 hHz ?_;refine tkz 10 13 hHz ?_;refine tkz 11 14 hHz ?_;refine tkz 12 15 hHz ?_
     refine wpAnyH_ready (rs:=[13]) (by kernel_rfl) (by simp) ?_
     refine AllReadyH.cons rfl (fun K hK=>?_) AllReadyH.nil
     go_simp
     refine(K2.out _ hb1).mono ?_;rintro e wb ⟨⟨ad,cap,rfl,ho⟩,hbb⟩;have hb2:=hb1.trans (hbb.mono hb1.size)
     go_wp2_with fail
     refine hK.out _ _ (by obtain⟨a0,a1,a2,a3,a4,a5,a6,a7,a8,a9,a10,a11,a12⟩:=hHz;exact⟨cLz hbb a0,cLz hbb a1,cLz hbb a2,cLz hbb a3,cLz hbb a4,cLz hbb a5,cLz hbb a6,cLz hbb a7,cLz hbb a8,cLz hbb a9,cLz hbb a10,cLz hbb a11,cLz hbb a12⟩) (fun hHz=>?_)
     clear hK K
     try simp only[Act.put,sI,sZ,sSz]
     refine wpAnyH_ready (rs:=[14]) (by kernel_rfl) (by simp) ?_
     refine AllReadyH.cons rfl (fun K hK=>?_) AllReadyH.nil
     go_simp
     refine(K3.out _ _ _ hb2).mono ?_;rintro e wc ⟨rfl,hbc⟩;have hb3:=hb2.trans (hbc.mono hb2.size)
     go_wp2_with fail
     refine hK.out _ _ (by obtain⟨a0,a1,a2,a3,a4,a5,a6,a7,a8,a9,a10,a11,a12⟩:=hHz;exact⟨cLz hbc a0,cLz hbc a1,cLz hbc a2,cLz hbc a3,cLz hbc a4,cLz hbc a5,cLz hbc a6,cLz hbc a7,cLz hbc a8,cLz hbc a9,cLz hbc a10,cLz hbc a11,cLz hbc a12⟩) (fun hHz=>?_)
     clear hK K
     try simp only[Act.put,sI,sZ,sSz]
     refine tkz 15 18 hHz ?_;refine tkz 16 19 hHz ?_;refine tkz 17 20 hHz ?_;refine tkz 18 21 hHz ?_;refine tkz 19 22 hHz ?_
     refine wpAnyH_ready (rs:=[20]) (by kernel_rfl) (by simp) ?_
     refine AllReadyH.cons rfl (fun K hK=>?_) AllReadyH.nil
     go_simp
     refine(K2.out _ hb3).mono ?_;rintro e wd ⟨⟨ad2,cap2,rfl,ho2⟩,hbd⟩;have hb4:=hb3.trans (hbd.mono hb3.size)
     go_wp2_with fail
     refine hK.out _ _ (by obtain⟨a0,a1,a2,a3,a4,a5,a6,a7,a8,a9,a10,a11,a12⟩:=hHz;exact⟨cLz hbd a0,cLz hbd a1,cLz hbd a2,cLz hbd a3,cLz hbd a4,cLz hbd a5,cLz hbd a6,cLz hbd a7,cLz hbd a8,cLz hbd a9,cLz hbd a10,cLz hbd a11,cLz hbd a12⟩) (fun hHz=>?_)
     clear hK K
     try simp only[Act.put,sI,sZ,sSz]
     refine wpAnyH_ready (rs:=[21]) (by kernel_rfl) (by simp) ?_
     refine AllReadyH.cons rfl (fun K hK=>?_) AllReadyH.nil
     go_simp
     refine(K4.out _ _ _ hb4 (JD ho2).1).mono ?_;rintro e we ⟨rfl,hbe⟩;have hb5:=hb4.trans (hbe.mono hb4.size)
     go_wp2_with fail
     refine hK.out _ _ (by obtain⟨a0,a1,a2,a3,a4,a5,a6,a7,a8,a9,a10,a11,a12⟩:=hHz;exact⟨cLz hbe a0,cLz hbe a1,cLz hbe a2,cLz hbe a3,cLz hbe a4,cLz hbe a5,cLz hbe a6,cLz hbe a7,cLz hbe a8,cLz hbe a9,cLz hbe a10,cLz hbe a11,cLz hbe a12⟩) (fun hHz=>?_)
     clear hK K
     try simp only[Act.put,sI,sZ,sSz]
     refine tkz 22 25 hHz ?_;refine tkz 23 2 hHz ?_
     refine wpAnyH_done (by kernel_rfl) ?_ _
     go_wp2
     go_ret
     exact⟨Aa (by rw[HK.out];first|rfl|simp),by first|exact hb5|exact((bR.alloc nR _).drew)|exact bR.alloc nR _⟩
 ·have t0:=NO (x:=low) (y:=high) false (decide_eq_false hlh)
  rw[decide_eq_false hlh]at HK
  clear hlh K1 K2 K3 K4
  go_enter func64,ntmps64
  go_wp2
  refine wp_region_held_drew (S:=(fun w'=>w'.cell? ⟨w.heap.size,0,none⟩=some (.int .i64 kind)/\w'.cell? ⟨w.heap.size,1,none⟩=some (.int .i64 mode)/\w'.cell? ⟨w.heap.size,2,none⟩=some (.int .i64 low)/\w'.cell? ⟨w.heap.size,3,none⟩=some (.int .i64 high)/\w'.cell? ⟨w.heap.size,4,none⟩=some (.int .i64 size)/\w'.cell? ⟨w.heap.size,5,none⟩=some (.int .i64 limit)/\w'.cell? ⟨w.heap.size,6,none⟩=some (.slice l n6 lc)/\w'.cell? ⟨w.heap.size,7,none⟩=some (.slice r n7 rc)/\w'.cell? ⟨w.heap.size,8,none⟩=some (.slice lk n8 lkc)/\w'.cell? ⟨w.heap.size,9,none⟩=some (.slice rk n9 rkc)/\w'.cell? ⟨w.heap.size,10,none⟩=some (.bool grouped)/\w'.cell? ⟨w.heap.size,11,none⟩=some (.slice g n11 gc)/\w'.cell? ⟨w.heap.size,12,none⟩=some (.slice a n12 ac))) (by kernel_rfl) ⟨by go_simp,by go_simp,by go_simp,by go_simp,by go_simp,by go_simp,by go_simp,by go_simp,by go_simp,by go_simp,by go_simp,by go_simp,by go_simp⟩ (fun hHz=>?_)
  refine tkz 0 3 hHz ?_;refine tkz 1 4 hHz ?_;refine tkz 2 5 hHz ?_;refine tkz 3 6 hHz ?_;refine tkz 4 7 hHz ?_;refine tkz 5 8 hHz ?_;refine sk 6 9 hHz ?_;refine sk 7 10 hHz ?_;refine tkz 8 11 hHz ?_;refine tkz 9 12 hHz ?_;refine sk 10 13 hHz ?_;refine sk 11 14 hHz ?_;refine sk 12 15 hHz ?_;refine sk 13 16 hHz ?_;refine sk 14 17 hHz ?_;refine tkz 15 18 hHz ?_;refine tkz 16 19 hHz ?_;refine sk 17 20 hHz ?_;refine sk 18 21 hHz ?_;refine sk 19 22 hHz ?_;refine sk 20 23 hHz ?_;refine sk 21 24 hHz ?_;refine tkz 22 25 hHz ?_;refine tkz 23 2 hHz ?_
  refine wpAnyH_done (by kernel_rfl) ?_ _
  go_wp2
  go_ret
  exact⟨Aa (by rw[HK.out];first|rfl|simp),by first|exact hb1|exact((bR.alloc nR _).drew)|exact bR.alloc nR _⟩
def SW(a b c d e:Bool):Int:=if a=false then 4 else if b=false then 3 else if c=false then 2 else if d=false then 5 else if e=false then 1 else 0
theorem IP(p:Pln):Al p=SW (decide (Ba p)) (decide (Bi p)) (decide (BG p)) (decide (Ca p)) (decide (AG p)):=by
 unfold Al SW
 simp only[decide_eq_false_iff_not]
theorem CX(h:BG p):(0<p.left.length/\p.left.length<=4)/\(0<p.right.length/\p.right.length<=4)/\(0<p.lkeys.length/\p.lkeys.length<=4)/\(0<p.rkeys.length/\p.rkeys.length<=4)/\p.aggs.length<=4/\p.group.length<=8:=by
 obtain⟨⟨h1,h2,h3,h4⟩,h5⟩:=h
 unfold I6 at h1 h2 h3 h4 h5
 split at h5
 ·omega
 ·omega
theorem DV(p:Pln)(x:PA)(w:World)(hw:wfPlan p)(hp:planAt w p x):
 Calls Tryz.prog 27 #[Ap p x] w fun e w'=>e= .returned (.int .i64 (Al p))/\Bwz w w':=by
 have K1:=hIz (fun(w1:World) (hb:Bwz w w1)=>K9 p x w1 (Af hp hb) hw)
 have K2:=hIz (fun(w1:World) (hb:Bwz w w1)=>Eb p x w1)
 have K3:=hIz (fun(w1:World) (hb:Bwz w w1)=>Ec p x w1 hw)
 have K4:Hid (∀w1,Bwz w w1->yes (decide (BG p)) (CTz 63 #[Ap p x] w1 fun e w'=>e= .returned (.bool (decide (Ca p)))/\Bwz w1 w')):=fun w1 hb hm=>by
  have hm':=CX (of_decide_eq_true hm)
  exact KY p x w1 (Af hp hb) (by omega) (by omega) (by omega) (by omega)
 have K5:Hid (∀w1,Bwz w w1->yes (decide (BG p)) (CTz 64 #[Ap p x] w1 fun e w'=>e= .returned (.bool (decide (AG p)))/\Bwz w1 w')):=fun w1 hb hm=>by
  have hm':=CX (of_decide_eq_true hm)
  exact CW p x w1 hw (Af hp hb) (by omega) (by omega) (by omega) (by omega)
 have HK:Hid (Al p=SW (decide (Ba p)) (decide (Bi p)) (decide (BG p)) (decide (Ca p)) (decide (AG p))):=IP p
 obtain⟨q1,hq1⟩:=nM (decide (Ba p))
 obtain⟨q2,hq2⟩:=nM (decide (Bi p))
 obtain⟨q3,hq3⟩:=nM (decide (BG p))
 obtain⟨q4,hq4⟩:=nM (decide (Ca p))
 obtain⟨q5,hq5⟩:=nM (decide (AG p))
 rw[hq1]at K1 HK
 rw[hq2]at K2 HK
 rw[hq3]at K3 K4 K5 HK
 rw[hq4]at K4 HK
 rw[hq5]at K5 HK
 clear hq1 hq2 hq3 hq4 hq5 hw hp
 obtain⟨kind,mode,low,high,size,limit,left,right,lkeys,rkeys,grouped,group,aggs⟩:=p
 obtain⟨l,lc,r,rc,lk,lkc,rk,rkc,g,gc,a,ac⟩:=x
 unfold Ap at K1 K2 K3 K4 K5⊢
 dsimp only at K1 K2 K3 K4 K5⊢
 obtain⟨n6,h6⟩:∃n,left.length=n:=⟨_,rfl⟩
 obtain⟨n7,h7⟩:∃n,right.length=n:=⟨_,rfl⟩
 obtain⟨n8,h8⟩:∃n,lkeys.length=n:=⟨_,rfl⟩
 obtain⟨n9,h9⟩:∃n,rkeys.length=n:=⟨_,rfl⟩
 obtain⟨n11,h11⟩:∃n,group.length=n:=⟨_,rfl⟩
 obtain⟨n12,h12⟩:∃n,aggs.length=n:=⟨_,rfl⟩
 rw[h6,h7,h8,h9,h11,h12]at K1 K2 K3 K4 K5
 rw[h6,h7,h8,h9,h11,h12]
 clear h6 h7 h8 h9 h11 h12
 obtain⟨pe,hpe⟩:=nM (Al ⟨kind,mode,low,high,size,limit,left,right,lkeys,rkeys,grouped,group,aggs⟩)
 rw[hpe]at HK⊢
 clear hpe
 go_enter func27,ntmps27
 go_wp2_with fail
 refine(K1.out _ (bR.alloc nR _)).mono ?_
 rintro e w1 ⟨rfl,hb1⟩
 have hba:=(bR.alloc nR _).trans (hb1.mono (by simp))
 obtain⟨hc1,hf1⟩:=C2 hb1
 have hz1:w.heap.size<w1.heap.size:=(by have:=hb1.size;simp at this;omega)
 cases q1
 ·go_wp2
  go_ret
  exact⟨Ad HK.out.symm,hba⟩
 go_wp2_with fail
 refine(K2.out _ hba).mono ?_
 rintro e w2 ⟨rfl,hb2⟩
 have hbb:=hba.trans (hb2.mono hba.size)
 obtain⟨hc2,hf2⟩:=C2 hb2
 have hz2:w.heap.size<w2.heap.size:=(by have:=hb2.size;omega)
 cases q2
 ·go_wp2
  go_ret
  exact⟨Ad HK.out.symm,hbb⟩
 go_wp2_with fail
 refine(K3.out _ hbb).mono ?_
 rintro e w3 ⟨rfl,hb3⟩
 have hbc:=hbb.trans (hb3.mono hbb.size)
 obtain⟨hc3,hf3⟩:=C2 hb3
 have hz3:w.heap.size<w3.heap.size:=(by have:=hb3.size;omega)
 cases q3
 ·go_wp2
  go_ret
  exact⟨Ad HK.out.symm,hbc⟩
 go_wp2_with fail
 refine(K4.out _ hbc rfl).mono ?_
 rintro e w4 ⟨rfl,hb4⟩
 have hbd:=hbc.trans (hb4.mono hbc.size)
 obtain⟨hc4,hf4⟩:=C2 hb4
 have hz4:w.heap.size<w4.heap.size:=(by have:=hb4.size;omega)
 cases q4
 ·go_wp2
  go_ret
  exact⟨Ad HK.out.symm,hbd⟩
 go_wp2_with fail
 refine(K5.out _ hbd rfl).mono ?_
 rintro e w5 ⟨rfl,hb5⟩
 have hbe:=hbd.trans (hb5.mono hbd.size)
 cases q5
 all_goals
  go_wp2
  go_ret
  exact⟨Ad HK.out.symm,hbe⟩
def Jl(p:Pln):Prop:=4<p.left.length\/4<p.right.length\/4<p.lkeys.length\/4<p.rkeys.length\/4<p.aggs.length\/8<p.group.length
theorem SX(h:Jl p):¬BG p:=fun hm=>by
 have:=CX hm
 unfold Jl at h
 omega
theorem UR(h:Jl p):Al p=if decide (Ba p)=false then 4 else if decide (Bi p)=false then 3 else 2:=by
 rw[IP]
 unfold SW
 rw[decide_eq_false (SX h)]
 simp
def bare(p:Pln):Pln:={p with aggs:=[]}
def US(x:PA):PA:={x with a:=none,ac:=0}
theorem Ql(h:p.grouped=true->∀i,i<p.aggs.length->Az (p.aggs.getD i (0,0)).1 1 4=true):decide (Ba (bare p))=decide (Ba p):=by
 rw[Gz,Gz]
 unfold bare
 dsimp only
 have e:GB []=true:=rfl
 rw[e]
 cases hg:p.grouped with
 |false=>rfl
 |true=>rw[P9 (h hg)]
theorem SY{i:Nat}(hg:p.grouped=true)(hi:i<p.aggs.length)(h:Az (p.aggs.getD i (0,0)).1 1 4=false):decide (Ba p)=false:=by
 rw[Gz,hg,Sh hi h];simp
theorem J2(p:Pln)(x:PA)(w:World)(hw:wfPlan p)(hp:planAt w p x)(hs:¬Jl p):
 Calls Tryz.prog 10 #[Ap p x] w fun e w'=>e= .returned (.int .i64 (Al p))/\Bwz w w':=by
 have K1:=hIz (fun(w1:World) (hb:Bwz w w1)=>Fa p x w1 (CR hp.a hb) hw.a)
 have K2:=hIz (fun(w1:World) (hb:Bwz w w1)=>Ga p x w1)
 have K3:=hIz (fun(w1:World) (hb:Bwz w w1)=>Mf p x w1 hw)
 have K4:Hid (∀w1,Bwz w w1->yes (decide (BG p)) (CTz 33 #[Ap p x] w1 fun e w'=>(∃ad cap,e= .returned (.slice ad (Bj p).length cap)/\Dh w' w1.heap.size (.slice ad (Bj p).length cap) (Bj p))/\Bwz w1 w')):=fun w1 hb hm=>by
  have hm':=CX (of_decide_eq_true hm)
  exact JS p x w1 (Af hp hb) (by omega) (by omega) (by omega) (by omega)
 have K5:Hid (∀w1,Bwz w w1->yes (decide (BG p)) (CTz 34 #[Ap p x] w1 fun e w'=>e= .returned (.bool (!decide (AG p)))/\Bwz w1 w')):=fun w1 hb hm=>by
  have hm':=CX (of_decide_eq_true hm)
  exact LK p x w1 hw (Af hp hb) (by omega) (by omega) (by omega) (by omega)
 have HK:Hid (Al p=SW (decide (Ba p)) (decide (Bi p)) (decide (BG p)) (decide (Ca p)) (decide (AG p))):=IP p
 have HTY:Hid (∀i,i<(Bj p).length->Az ((Bj p).getD i 0) 1 3=false->decide (Ca p)=false):=fun i hi h=>by rw[IU];exact Dc hi h
 have HTN:Hid ((∀i,i<(Bj p).length->Az ((Bj p).getD i 0) 1 3=true)->decide (Ca p)=true):=fun h=>by rw[IU];exact A9.2 h
 have HCL:yes (decide (BG p)) ((Bj p).length<=8):=fun hm=>by
  have hm':=CX (of_decide_eq_true hm)
  unfold Bj;rw[lAp];omega
 obtain⟨q1,hq1⟩:=nM (decide (Ba p))
 obtain⟨q2,hq2⟩:=nM (decide (Bi p))
 obtain⟨q3,hq3⟩:=nM (decide (BG p))
 obtain⟨q4,hq4⟩:=nM (decide (Ca p))
 obtain⟨q5,hq5⟩:=nM (decide (AG p))
 rw[hq1]at K1 HK
 rw[hq2]at K2 HK
 rw[hq3]at K3 K4 K5 HK HCL
 rw[hq4]at HK HTY HTN
 rw[hq5]at K5 HK
 obtain⟨cs,hcs⟩:=nM (Bj p)
 rw[hcs]at K4 HTY HTN HCL
 obtain⟨pe,hpe⟩:=nM (Al p)
 rw[hpe]at HK⊢
 unfold Jl at hs
 clear hq1 hq2 hq3 hq4 hq5 hw hp hcs hpe
 obtain⟨kind,mode,low,high,size,limit,left,right,lkeys,rkeys,grouped,group,aggs⟩:=p
 obtain⟨l,lc,r,rc,lk,lkc,rk,rkc,g,gc,a,ac⟩:=x
 unfold Ap at K1 K2 K3 K4 K5⊢
 dsimp only at K1 K2 K3 K4 K5 hs⊢
 obtain⟨n6,h6⟩:∃n,left.length=n:=⟨_,rfl⟩
 obtain⟨n7,h7⟩:∃n,right.length=n:=⟨_,rfl⟩
 obtain⟨n8,h8⟩:∃n,lkeys.length=n:=⟨_,rfl⟩
 obtain⟨n9,h9⟩:∃n,rkeys.length=n:=⟨_,rfl⟩
 obtain⟨n11,h11⟩:∃n,group.length=n:=⟨_,rfl⟩
 obtain⟨n12,h12⟩:∃n,aggs.length=n:=⟨_,rfl⟩
 obtain⟨cn,hcn⟩:∃n,cs.length=n:=⟨_,rfl⟩
 have HCN:Hid (cs.length=cn):=hcn
 rw[h6,h7,h8,h9,h11,h12]at K1 K2 K3 K4 K5 hs
 rw[hcn]at K4 HTY HTN HCL
 rw[h6,h7,h8,h9,h11,h12]
 have t6:¬(4:Int)<(n6:Int):=by omega
 have t7:¬(4:Int)<(n7:Int):=by omega
 have t8:¬(4:Int)<(n8:Int):=by omega
 have t9:¬(4:Int)<(n9:Int):=by omega
 have t11:¬(8:Int)<(n11:Int):=by omega
 have t12:¬(4:Int)<(n12:Int):=by omega
 clear h6 h7 h8 h9 h11 h12 hcn hs
 go_enter func10,ntmps10
 go_wp2_with fail
 refine(K1.out _ (bR.alloc nR _)).mono ?_
 rintro e w1 ⟨rfl,hb1⟩
 have hba:=(bR.alloc nR _).trans (hb1.mono (by simp))
 obtain⟨hc1,hf1⟩:=C2 hb1
 have hz1:w.heap.size<w1.heap.size:=(by have:=hb1.size;simp at this;omega)
 cases q1
 ·go_wp2
  go_ret
  exact⟨Ad HK.out.symm,hba⟩
 go_wp2_with fail
 refine(K2.out _ hba).mono ?_
 rintro e w2 ⟨rfl,hb2⟩
 have hbb:=hba.trans (hb2.mono hba.size)
 obtain⟨hc2,hf2⟩:=C2 hb2
 have hz2:w.heap.size<w2.heap.size:=(by have:=hb2.size;omega)
 cases q2
 ·go_wp2
  go_ret
  exact⟨Ad HK.out.symm,hbb⟩
 go_wp2_with fail
 refine(K3.out _ hbb).mono ?_
 rintro e w3 ⟨rfl,hb3⟩
 have hbc:=hbb.trans (hb3.mono hbb.size)
 obtain⟨hc3,hf3⟩:=C2 hb3
 have hz3:w.heap.size<w3.heap.size:=(by have:=hb3.size;omega)
 cases q3
 ·go_wp2
  go_ret
  exact⟨Ad HK.out.symm,hbc⟩
 go_wp2_with fail
 refine(K4.out _ hbc rfl).mono ?_
 rintro e w4 ⟨⟨ad,cap,rfl,ho⟩,hb4⟩
 have hbd:=hbc.trans (hb4.mono hbc.size)
 have HIC:Hid (A2 w4 ad cs):=(JD ho).1
 obtain⟨hc4,hf4⟩:=C2 hb4
 have hz4:w.heap.size<w4.heap.size:=(by have:=hb4.size;omega)
 have hcl:=HCL rfl
 clear ho HCL
 go_wp2
 go_loop [6] (fun i=> ∃k:Nat,k<=cn/\i= .int .i64 k/\∀j,j<k->Az (cs.getD j 0) 1 3=true) (fun i=>cn - (intOf i).toNat)
 case atStart=>exact⟨0,Nat.zero_le _,rfl,fun i hi=>absurd hi (Nat.not_lt_zero i)⟩
 case round=>
  obtain⟨k,hk,rfl,hall⟩:=hrel
  have HA:Hid (∀j,j<k->Az (cs.getD j 0) 1 3=true):=hall
  clear hall
  by_cases hlt:k<cn
  ·obtain⟨bc,oc,ec,xc⟩:=HIC.out k (by rw[HCN.out];exact hlt)
   subst ec
   have i1:(0:Int)<=(k:Int):=by omega
   have i2:(k:Int)<(cn:Int):=by omega
   obtain⟨cv,hcv⟩:=nM (cs.getD k 0)
   have HCV:Hid (cs.getD k 0=cv):=hcv
   rw[hcv]at xc
   clear hcv
   cases pc:Az cv 1 3 with
   |true=>
    go_wp2_with
     (go_at_call 29;refine(Ak _ _ _ _).mono ?_;rintro e w' ⟨rfl,hw⟩;subst hw)
    go_round
    case rel=>exact⟨k+1,by omega,by go_num,fun j hj=>by
     rcases Nat.lt_succ_iff_lt_or_eq.1 hj with h|h
     ·exact HA.out j h
     ·rw[h,HCV.out];exact pc⟩
    case measure=>simp[intOf];omega
   |false=>
    have HX:Hid (pe=5):=by
     show pe=5
     rw[HK.out,HTY.out k hlt (by rw[HCV.out];exact pc)];rfl
    go_wp2_with
     (go_at_call 29;refine(Ak _ _ _ _).mono ?_;rintro e w' ⟨rfl,hw⟩;subst hw)
    go_ret
    exact⟨Ad HX.out.symm,hbd⟩
  ·have HX:Hid (pe=SW true true true true q5):=by
    show pe=_
    rw[HK.out,HTN.out (fun j hj=>HA.out j (by omega))]
   go_wp2_with fail
   refine(K5.out _ hbd rfl).mono ?_
   rintro e w5 ⟨rfl,hb5⟩
   have hbe:=hbd.trans (hb5.mono hbd.size)
   cases q5
   all_goals
    go_wp2
    go_ret
    exact⟨Ad HX.out.symm,hbe⟩
theorem Qm{a b c d e f:Nat}(h:4<a\/4<b\/4<c\/4<d\/4<e\/8<f):
 ((4:Int)<a)\/(¬(4:Int)<a/\(4:Int)<b)\/(¬(4:Int)<a/\¬(4:Int)<b/\(4:Int)<c)\/(¬(4:Int)<a/\¬(4:Int)<b/\¬(4:Int)<c/\(4:Int)<d)\/
 (¬(4:Int)<a/\¬(4:Int)<b/\¬(4:Int)<c/\¬(4:Int)<d/\(4:Int)<e)\/(¬(4:Int)<a/\¬(4:Int)<b/\¬(4:Int)<c/\¬(4:Int)<d/\¬(4:Int)<e/\(8:Int)<f):=by omega
theorem K8(p:Pln)(x:PA)(w:World)(hw:wfPlan p)(hp:planAt w p x)(hs:Jl p):
 Calls Tryz.prog 10 #[Ap p x] w fun e w'=>e= .returned (.int .i64 (Al p))/\Bwz w w':=by
 have K1:=hIz (fun(w1:World) (hb:Bwz w w1)=>Fa p x w1 (CR hp.a hb) hw.a)
 have K2:=hIz (fun(w1:World) (hb:Bwz w w1)=>Ga p x w1)
 have K3:Hid (∀w1,Bwz w w1->(p.grouped=true->∀i,i<p.aggs.length->Az (p.aggs.getD i (0,0)).1 1 4=true)->CTz 30 #[Ap (bare p) (US x)] w1 fun e w'=>e= .returned (.bool (!decide (Ba p)))/\Bwz w1 w'):=fun w1 hb h=>by
  rw[<-Ql h]
  exact Fa (bare p) (US x) w1 (fun i hi=>absurd hi (Nat.not_lt_zero i)) (Nat.zero_le _)
 have HK:Hid (Al p=if decide (Ba p)=false then 4 else if decide (Bi p)=false then 3 else 2):=UR hs
 have HBD:Hid (∀i,p.grouped=true->i<p.aggs.length->Az (p.aggs.getD i (0,0)).1 1 4=false->decide (Ba p)=false):=fun i hg hi h=>SY hg hi h
 have HPA:Hid (DT w x.a p.aggs):=hp.a
 have hw12:=hw.a
 obtain⟨q1,hq1⟩:=nM (decide (Ba p))
 obtain⟨q2,hq2⟩:=nM (decide (Bi p))
 rw[hq1]at K1 K3 HK HBD
 rw[hq2]at K2 HK
 obtain⟨pe,hpe⟩:=nM (Al p)
 rw[hpe]at HK⊢
 unfold Jl at hs
 clear hq1 hq2 hw hp hpe
 obtain⟨kind,mode,low,high,size,limit,left,right,lkeys,rkeys,grouped,group,aggs⟩:=p
 obtain⟨l,lc,r,rc,lk,lkc,rk,rkc,g,gc,a,ac⟩:=x
 unfold bare US at K3
 unfold Ap at K1 K2 K3⊢
 dsimp only[List.length_nil]at K1 K2 K3 HBD HPA hw12 hs⊢
 obtain⟨n6,h6⟩:∃n,left.length=n:=⟨_,rfl⟩
 obtain⟨n7,h7⟩:∃n,right.length=n:=⟨_,rfl⟩
 obtain⟨n8,h8⟩:∃n,lkeys.length=n:=⟨_,rfl⟩
 obtain⟨n9,h9⟩:∃n,rkeys.length=n:=⟨_,rfl⟩
 obtain⟨n11,h11⟩:∃n,group.length=n:=⟨_,rfl⟩
 obtain⟨n12,h12⟩:∃n,aggs.length=n:=⟨_,rfl⟩
 have HN:Hid (aggs.length=n12):=h12
 rw[h6,h7,h8,h9,h11,h12]at K1 K2 hs
 rw[h6,h7,h8,h9,h11,h12]at K3
 rw[h12]at HBD hw12
 rw[h6,h7,h8,h9,h11,h12]
 have hs':=Qm hs
 clear h6 h7 h8 h9 h11 h12 hs
 by_cases t12:4<n12
 ·have t12':(4:Int)<(n12:Int):=by omega
  rcases hs' with h|h|h|h|h|h
  all_goals
   first
   |(exfalso;omega)
   |skip
  all_goals
   go_enter func10,ntmps10
   go_wp2
   go_loop [4] (fun i=> ∃k:Nat,k<=n12/\i= .int .i64 k/\(grouped=true->∀i,i<k->Az (aggs.getD i (0,0)).1 1 4=true)) (fun i=>n12 - (intOf i).toNat)
   case atStart=>exact⟨0,Nat.zero_le _,rfl,fun _ i hi=>absurd hi (Nat.not_lt_zero i)⟩
   case round=>
    obtain⟨k,hk,rfl,hall⟩:=hrel
    have HA:Sg grouped aggs k:=hall
    clear hall
    by_cases hlt:k<n12
    ·obtain⟨b,o,e,x1,x2⟩:=HPA.out k (by rw[HN.out];exact hlt)
     subst e
     have hblt:=bLt _ _ x1
     have hblt':b<w.heap.size:=hblt
     have hblt2:b<w.heap.size+1:=by omega
     have i1:(0:Int)<=(k:Int):=by omega
     have i2:(k:Int)<(n12:Int):=by omega
     obtain⟨z,hz⟩:=nM ((aggs.getD k (0,0)).1)
     have HZ:Hid ((aggs.getD k (0,0)).1=z):=hz
     rw[hz]at x1
     clear x2 hblt hz
     cases grouped with
     |false=>
      go_wp2
      go_round
      case rel=>exact⟨k+1,by omega,by go_num,fun h=>absurd h (by decide)⟩
      case measure=>simp[intOf];omega
     |true=>
      cases hf:Az z 1 4 with
      |true=>
       go_wp2_with
        (go_at_call 29;refine(Ak _ _ _ _).mono ?_;rintro e w' ⟨rfl,hw⟩;subst hw)
       go_round
       case rel=>exact⟨k+1,by omega,by go_num,fun _ i hi=>by
        rcases Nat.lt_succ_iff_lt_or_eq.1 hi with h|h
        ·exact HA rfl i h
        ·rw[h,HZ.out];exact hf⟩
       case measure=>simp[intOf];omega
      |false=>
       have HX:Hid (pe=4):=by
        show pe=4
        rw[HK.out,HBD.out k rfl hlt (by rw[HZ.out];exact hf)];rfl
       go_wp2_with
        (go_at_call 29;refine(Ak _ _ _ _).mono ?_;rintro e w' ⟨rfl,hw⟩;subst hw)
       go_ret
       exact⟨Ad HX.out.symm,(by repeat (first|exact bR|(refine Below.setCell ?_ (by simp) _)|(refine Below.alloc ?_ (by simp<;>omega) _)))⟩
    ·have HAL:Sg grouped aggs n12:=fun hg i hi=>HA hg i (by omega)
     go_wp2_with fail
     refine(K3.out _ (by repeat (first|exact bR|(refine Below.setCell ?_ (by simp) _)|(refine Below.alloc ?_ (by simp<;>omega) _))) HAL).mono ?_
     rintro e w1 ⟨rfl,hb1⟩
     have hba:=((by repeat (first|exact bR|(refine Below.setCell ?_ (by simp) _)|(refine Below.alloc ?_ (by simp<;>omega) _))):Bwz w _).trans (hb1.mono (by simp;omega))
     obtain⟨hc1,hf1⟩:=C2 hb1
     cases q1
     ·go_wp2
      go_ret
      exact⟨Ad HK.out.symm,hba⟩
     go_wp2_with fail
     refine(K2.out _ hba).mono ?_
     rintro e w2 ⟨rfl,hb2⟩
     have hbb:=hba.trans (hb2.mono hba.size)
     cases q2
     all_goals
      go_wp2
      go_ret
      exact⟨Ad HK.out.symm,hbb⟩
 ·have t12':¬(4:Int)<(n12:Int):=by omega
  rcases hs' with h|h|h|h|h|h
  all_goals
   first
   |(exfalso;omega)
   |skip
  all_goals
   go_enter func10,ntmps10
   go_wp2_with fail
   refine(K1.out _ (by repeat (first|exact bR|(refine Below.setCell ?_ (by simp) _)|(refine Below.alloc ?_ (by simp<;>omega) _)))).mono ?_
   rintro e w1 ⟨rfl,hb1⟩
   have hba:=((by repeat (first|exact bR|(refine Below.setCell ?_ (by simp) _)|(refine Below.alloc ?_ (by simp<;>omega) _))):Bwz w _).trans (hb1.mono (by simp;omega))
   obtain⟨hc1,hf1⟩:=C2 hb1
   cases q1
   ·go_wp2
    go_ret
    exact⟨Ad HK.out.symm,hba⟩
   go_wp2_with fail
   refine(K2.out _ hba).mono ?_
   rintro e w2 ⟨rfl,hb2⟩
   have hbb:=hba.trans (hb2.mono hba.size)
   cases q2
   all_goals
    go_wp2
    go_ret
    exact⟨Ad HK.out.symm,hbb⟩
theorem GF(p:Pln)(x:PA)(w:World)(hw:wfPlan p)(hp:planAt w p x):
 Calls Tryz.prog 10 #[Ap p x] w fun e w'=>e= .returned (.int .i64 (Al p))/\Bwz w w':=by
 by_cases hs:Jl p
 ·exact K8 p x w hw hp hs
 ·exact J2 p x w hw hp hs
theorem Ox:fit t↔tm.Bb t=true:=by rw[tm.Ij];exact Iff.rfl
theorem Km(h:fit t):tm.Bb t=true:=Ox.1 h
def IQ(m s:Int):Int:=if m=1099511627776 then 1099511627776 else m - s
theorem D5{a b c d:Int}(h1:a=c)(h2:b=d):Ending.returned (.tuple #[.int .i64 a,.int .i64 b])= .returned (.tuple #[.int .i64 c,.int .i64 d]):=by rw[h1,h2]
theorem Xe(m s:Int)(w:World)(hm:fit m)(hs:fit s):
 Calls Tryz.prog 110 #[.int .i64 m,.int .i64 s] w fun e w'=>e= .returned (.tuple #[.int .i64 (IQ m s),.int .i64 0])/\Bwz w w':=by
 have h:tm.Xj m s=true:=by unfold tm.Xj;rw[Km hm,Km hs];rfl
 obtain⟨b1,b2⟩:=hm
 obtain⟨b3,b4⟩:=hs
 by_cases e:m=1099511627776
 ·subst e
  have HU:Hid (IQ 1099511627776 s=1099511627776):=rfl
  go_enter func110,ntmps110
  go_wp2_with (go_at_call 159;refine(tm.RK _ 1099511627776 s _ (by go_simp) (by go_simp)).mono ?_;rintro e w' ⟨rfl,hw⟩;subst hw)
  go_ret2
  refine⟨D5 HU.out.symm rfl,?_⟩
  repeat (first|exact bR|apply Below.drew|(refine Below.alloc ?_ (by simp<;>omega) _))
 ·have hm':(m==1099511627776)=false:=by simpa using e
  have HU:Hid (IQ m s=m - s):=if_neg e
  clear e
  go_enter func110,ntmps110
  go_wp2_with (go_at_call 159;refine(tm.RK _ m s _ (by go_simp) (by go_simp)).mono ?_;rintro e w' ⟨rfl,hw⟩;subst hw)
  go_ret2
  refine⟨D5 HU.out.symm rfl,?_⟩
  repeat (first|exact bR|apply Below.drew|(refine Below.alloc ?_ (by simp<;>omega) _))
def SZ(mark size:Int):Int:=if mark=1099511627776 then 1099511627776 else tm.start (mark+1) size - 1
def EX(p:Pln)(side mark:Int):Int:=
 if p.kind=1 then IQ mark (if side=2 then -p.low else p.high)else if p.kind=2 then SZ mark p.size else if side=2 then -1099511627777 else mark
def Be(side:Int):Bool:=decide (side=1\/side=2)
def JC(p:Pln)(side mark:Int):Int:=if Al p=0 then(if Be side=true then(if tm.Bb mark=true then 0 else 3)else 4)else Al p
def M5(p:Pln)(side mark:Int):Int:=if JC p side mark=0 then EX p side mark else 0
theorem Cz(side:Int)(w:World):Calls Tryz.prog 87 #[.int .i64 side] w fun e w'=>e= .returned (.bool (Be side))/\w'=w:=by
 by_cases h1:side=1
 ·subst h1
  go_enter func87,ntmps87
  go_wp2
  go_ret
  exact⟨rfl,rfl⟩
 ·have h1':(side==1)=false:=by simpa using h1
  have HS:Hid (Be side=(side==2)):=by show Be side=_;unfold Be;exact Bool.eq_iff_iff.2 (by simp[h1])
  clear h1
  go_enter func87,ntmps87
  go_wp2
  go_ret
  exact⟨Aa HS.out.symm,rfl⟩
theorem Ta(p:Pln)(x:PA)(side:Int)(w:World)(hl:fit p.low):
 Calls Tryz.prog 111 #[Ap p x,.int .i64 side] w fun e w'=>e= .returned (.int .i64 (if side=2 then -p.low else p.high))/\Bwz w w':=by
 obtain⟨kind,mode,low,high,size,limit,left,right,lkeys,rkeys,grouped,group,aggs⟩:=p
 obtain⟨l,lc,r,rc,lk,lkc,rk,rkc,g,gc,a,ac⟩:=x
 unfold Ap
 dsimp only at hl⊢
 obtain⟨h1,h2⟩:=hl
 by_cases hs:side=2
 ·subst hs
  rw[if_pos rfl]
  go_enter func111,ntmps111
  go_wp2
  go_ret
  exact⟨Ad (by first|rfl|omega),bR.alloc nR _⟩
 ·have hs':(side==2)=false:=by simpa using hs
  rw[if_neg hs]
  clear hs
  go_enter func111,ntmps111
  go_wp2
  go_ret
  exact⟨rfl,bR.alloc nR _⟩
theorem Oy(mark size:Int)(w:World)(hm:fit mark)(h1:1<=size)(h2:size<=1099511627776):
 Calls Tryz.prog 112 #[.int .i64 mark,.int .i64 size] w fun e w'=>e= .returned (.tuple #[.int .i64 (SZ mark size),.int .i64 0])/\Bwz w w':=by
 obtain⟨b1,b2⟩:=hm
 by_cases e:mark=1099511627776
 ·subst e
  have HU:Hid (SZ 1099511627776 size=1099511627776):=rfl
  go_enter func112,ntmps112
  go_wp2
  go_ret2
  exact⟨D5 HU.out.symm rfl,bR⟩
 ·have hm':(mark==1099511627776)=false:=by simpa using e
  have hf:tm.Bb (mark+1)=true:=Km ⟨by omega,by omega⟩
  have HU:Hid (SZ mark size=tm.start (mark+1) size - 1):=if_neg e
  have sb:=tm.Vg (mark+1) size (by omega)
  obtain⟨sb1,sb2⟩:=sb
  clear e
  have K:Hid (∀w1,CTz 160 #[.int .i64 (mark+1),.int .i64 size] w1 fun e w'=>e= .returned (.tuple #[.int .i64 (tm.start (mark+1) size),.int .i64 (tm.start (mark+1) size+size),.int .i64 0])/\w'=w1):=fun w1=>tm.Lh (mark+1) size w1 hf h1 h2
  obtain⟨sv,hsv⟩:=nM (tm.start (mark+1) size)
  rw[hsv]at K HU sb1 sb2
  clear hsv
  go_enter func112,ntmps112
  go_wp2_with (go_at_call 160;refine(K.out _).mono ?_;rintro e w' ⟨rfl,hw⟩;subst hw)
  go_ret2
  exact⟨D5 HU.out.symm rfl,bR⟩
end pl
end Go.Proofs.YtdohnkkbkfhphaaGreat
