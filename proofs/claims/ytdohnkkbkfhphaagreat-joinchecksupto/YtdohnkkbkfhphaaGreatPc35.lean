import Derived.Test.YtdohnkkbkfhphaaGreatPc34
set_option linter.all false
set_option maxHeartbeats 8000000
set_option maxRecDepth 100000
namespace Go.Proofs.YtdohnkkbkfhphaaGreat
open Go.Proofs.Tryz
namespace jn
open Go.ChangeShapes Go.WideShapes Go.ChangeAt Go.RowKit
open vl bf
attribute [local go_sem] Oper.semAt_some
theorem U4{b:Buf}{y:Ent}{l:List Ent}(h:okB b)(hh:bf.hasB (Ab b) (Ay y)=false)(hp:l.Perm (b.mem++[y]))(hb:J5 l):FF b l=CU b y:=by
 unfold CU
 have hn:((b.mem++[y]).map Ay).Nodup:=by
  have h1:(b.mem.map Ay).Nodup:=by
   have:=h.once
   rw[CF,List.map_append]at this
   exact(List.nodup_append.1 this).1
  rw[List.map_append]
  refine List.nodup_append.2 ⟨h1,by simp,fun a ha c hc e=>?_⟩
  have hc:c=Ay y:=by simpa using hc
  subst hc e
  have:=N8 hh
  refine this ?_
  rw[CF,List.map_append]
  exact List.mem_append.2 (.inl ha)
 rw[FE hp hb hn]
theorem BM(b:Nat)(T:TypeId)(p:pl.Pln)(x:pl.PA)(s:Jn)(y:JX)(t:Value)(L:List CO)(v:Ev)(ra:Option Addr)(rc:Nat)(met:Bool)(w0 w:World)(h:JSt w0 w b T p x s y t L)(hT:calmC T)(hw:pl.wfPlan p)(hp:pl.planAt w0 p x)(hg:goodJ p s)(hc:comeJ p s v)(hv:evAt w0 v ra):
 Calls Tryz.prog 256 #[.pointer (some ⟨b,0,none⟩),Bz p v ra rc,.bool met] w fun e w'=>e= .returned (.tuple #[])/\∃y',JSt w0 w' b T p x (Dy p s v met) y' t L/\Bs T w w':=by
 have HJ:Hid (JSt w0 w b T p x s y t L):=h
 have KG:Hid (∀w1,Below (w.heap.size+1) (w.alloc (.cells #[.int .i64 v.side,.int .i64 v.time,.slice ra v.row.length rc,.string (pl.Aq p v.side v.row),.bool (pl.hasB p v.side v.row)] 92)) w1->CTz 260 #[.pointer (some ⟨b,0,none⟩),.int .i64 v.side] w1 fun e w'=>e= .returned (.int .i64 (Cm p s v.side))/\Bwz w1 w'):=fun w1 hb=>by
  have hb1:Bwz w w1:=(bR.alloc nR _).trans (hb.mono (Nat.le_succ _))
  exact Ia b p x s y t v.side w1 hw (pl.Af hp (h.bl.trans (hb1.mono h.bl.size))) (h.below hb1).box hc.side
 have KB:Hid (∀w1,CTz 144 #[.pointer (some ⟨b,13,none⟩),.int .i64 v.side] w1 fun e w'=>e= .returned (.pointer (some ⟨b,13+At v.side,none⟩))/\w'=w1):=fun w1=>EI b 13 v.side w1
 have hb3:At v.side=0\/At v.side=3:=by unfold At;split<;>simp
 have HCB:Hid (∀w1,Bwz w w1->w1.cell? ⟨b,13+At v.side,none⟩=some (.int .i64 (Am s v.side).lim)/\w1.cell? ⟨b,13+At v.side+1,none⟩=some (.slice (Bv y v.side).m.1.1 (Bv y v.side).m.1.2.1 (Bv y v.side).m.1.2.2)/\w1.cell? ⟨b,13+At v.side+2,none⟩=some (.slice (Bv y v.side).ra (Bv y v.side).rs.length (Bv y v.side).rc)):=fun w1 hb=>Ek (h.below hb).box.join v.side
 have HFR:Hid (∀w1,Bwz w w1->∀i,i<23->w1.frozen? ⟨b,i,none⟩=false):=fun w1 hb i hi=>by
  have:=((h.below hb).box.room i hi).2
  simpa using this
 have HSQ:Hid (∀w1,Bwz w w1->w1.cell? ⟨b,21,none⟩=some (.int .i64 s.seq)):=fun w1 hb=>(h.below hb).box.join.2.2.2.2.2.2.2.2
 have hob:bufAt w (Am s v.side) (Bv y v.side):=by
  unfold Am Bv
  split
  ·exact h.r.at
  ·exact h.l.at
 have HKN:Hid (pl.hasB p v.side v.row=true->Cm p s v.side<v.time->∀w1,Bwz w w1->CTz 261 #[AN (Am s v.side) (Bv y v.side),(⟨pl.Aq p v.side v.row,v.time,s.seq,(ra,v.row.length,rc),met⟩:EM).val] w1 fun r w'=>(∃X,r= .returned (.tuple #[AN (CU (Am s v.side) ⟨pl.Aq p v.side v.row,v.time,s.seq,v.row,met⟩) X,.int .i64 0])/\OB w' w1.heap.size X (CU (Am s v.side) ⟨pl.Aq p v.side v.row,v.time,s.seq,v.row,met⟩))/\Bwz w1 w'):=fun hh hgt w1 hb=>by
  obtain⟨hf,hsz⟩:=NR (met:=met) hh hv.wf hc.time hg.ok.sq
  have hno:bf.hasB (Ab (Am s v.side)) (pl.Aq p v.side v.row,v.time,s.seq)=false:=Mh (fun z hz=>hg.ok.below z (by
   unfold Am at hz
   split at hz
   ·exact List.mem_append.2 (.inr hz)
   ·exact List.mem_append.2 (.inl hz)))
  have ok:=(hg.of v.side).1
  have hrow:vl.rowAt w1 ra v.row:=vl.Ac hv.row (h.bl.trans (hb.mono h.bl.size))
  refine(Yu (Am s v.side) (Bv y v.side) ⟨pl.Aq p v.side v.row,v.time,s.seq,(ra,v.row.length,rc),met⟩ ⟨pl.Aq p v.side v.row,v.time,s.seq,v.row,met⟩ w1 (Ai hob hb) (hg.of v.side).2 (by have:=ok.all;omega) (Ds ok) ⟨rfl,rfl,rfl,rfl,rfl,hrow⟩ ⟨Nat.le_trans hsz (by decide),hv.wf,hv.len⟩ (Ei hf) hno hc.few).mono ?_
  rintro r w' ⟨⟨x',l',rfl,hpm,hby,ho⟩,hb'⟩
  have e:=U4 (y:=⟨pl.Aq p v.side v.row,v.time,s.seq,v.row,met⟩) ok hno hpm hby
  rw[e]at ho⊢
  exact⟨⟨x',rfl,ho⟩,hb'⟩
 have HK:Hid (Dy p s v met=if pl.hasB p v.side v.row=true/\Cm p s v.side<v.time then⟨(A3 s v.side (CU (Am s v.side) ⟨pl.Aq p v.side v.row,v.time,s.seq,v.row,met⟩)).L,(A3 s v.side (CU (Am s v.side) ⟨pl.Aq p v.side v.row,v.time,s.seq,v.row,met⟩)).R,s.lm,s.rm,s.seq+1⟩else⟨s.L,s.R,s.lm,s.rm,s.seq+1⟩):=by
  show _=_
  unfold Dy
  split
  ·unfold A3
   split<;>rfl
  ·rfl
 have hsq:=hg.ok.sq
 have hwq:IntKind.i64.wrap (s.seq+1)=s.seq+1:=by rw[ch.B7];omega
 have lb:=h.box.lt
 obtain⟨KJ,hKJ⟩:=nM (Dy p s v met)
 rw[hKJ]at HK⊢
 obtain⟨NB,hNB⟩:=nM (CU (Am s v.side) ⟨pl.Aq p v.side v.row,v.time,s.seq,v.row,met⟩)
 rw[hNB]at HK HKN
 unfold Bz
 obtain⟨kb,h1⟩:=nM (pl.Aq p v.side v.row)
 obtain⟨kh,h2⟩:=nM (pl.hasB p v.side v.row)
 obtain⟨rl,hrl⟩:=nM v.row.length
 obtain⟨G,hG⟩:=nM (Cm p s v.side)
 obtain⟨sq,hsqe⟩:=nM s.seq
 rw[hG]at KG HK HKN
 rw[h1,h2,hrl]at KG HKN⊢
 rw[h2]at HK
 rw[hsqe]at HSQ hwq HKN HK hsq
 obtain⟨k,hk⟩:=nM (13+At v.side)
 have HKK:Hid (13+At v.side=k):=hk
 rw[hk]at KB HCB
 obtain⟨bo,hbo⟩:=nM (Am s v.side)
 obtain⟨bx,hbx⟩:=nM (Bv y v.side)
 rw[hbo,hbx]at HCB HKN
 obtain⟨sd,hsd⟩:=nM v.side
 obtain⟨tm',htm⟩:=nM v.time
 rw[hsd]at KG KB HK HKK⊢
 rw[htm]at KG HKN HK⊢
 have hkl:13<=k/\k<=16:=by omega
 obtain⟨ra',rc',⟨⟨m1,m2,m3⟩,ml⟩,rs⟩:=bx
 obtain⟨lim,mem,runs⟩:=bo
 unfold AN hdV EM.val at HKN
 dsimp only at HKN HCB
 obtain⟨n,hn⟩:=nM rs.length
 rw[hn]at HKN HCB
 clear h hw hp hg hc hv hob hKJ hNB h1 h2 hrl hG hsqe hk hbo hbx hsd htm hn hb3
 go_enter func256,ntmps256
 go_wp2
 generalize hV:(World.alloc w _)=V at KG⊢
 have hb0:Bwz w V:=by rw[<-hV];exact bR.alloc nR _
 have hvz:V.heap.size=w.heap.size+1:=by rw[<-hV];simp
 rw[<-hvz]at KG
 obtain⟨B0,hB0⟩:=nM w.heap.size
 rw[hB0]at hvz
 have s0:V.cell? ⟨B0,0,none⟩=some (.int .i64 sd):=by subst hV;rw[<-hB0];go_simp
 have s1:V.cell? ⟨B0,1,none⟩=some (.int .i64 tm'):=by subst hV;rw[<-hB0];go_simp
 have s2:V.cell? ⟨B0,2,none⟩=some (.slice ra rl rc):=by subst hV;rw[<-hB0];go_simp
 have s3:V.cell? ⟨B0,3,none⟩=some (.string kb):=by subst hV;rw[<-hB0];go_simp
 have s4:V.cell? ⟨B0,4,none⟩=some (.bool kh):=by subst hV;rw[<-hB0];go_simp
 clear hV
 have SK:Hid (∀w',Bwz V w'->w'.cell? ⟨B0,0,none⟩=some (.int .i64 sd)/\w'.cell? ⟨B0,1,none⟩=some (.int .i64 tm')/\w'.cell? ⟨B0,2,none⟩=some (.slice ra rl rc)/\w'.cell? ⟨B0,3,none⟩=some (.string kb)/\w'.cell? ⟨B0,4,none⟩=some (.bool kh)):=fun w' hz=>⟨cLz hz s0,cLz hz s1,cLz hz s2,cLz hz s3,cLz hz s4⟩
 rw[hB0]
 cases kh with
 |false=>
  refine gr.BI 11 rfl (by kernel_rfl) (S:=fun w'=>w'.cell? ⟨B0,0,none⟩=some (.int .i64 sd)/\w'.cell? ⟨B0,1,none⟩=some (.int .i64 tm')/\w'.cell? ⟨B0,2,none⟩=some (.slice ra rl rc)/\w'.cell? ⟨B0,3,none⟩=some (.string kb)/\w'.cell? ⟨B0,4,none⟩=some (.bool false)) (SK.out _ bR.drew) (fun hHz=>?_)
  refine tkz 0 7 hHz ?_;refine tkz 1 8 hHz ?_;refine tkz 2 9 hHz ?_;refine sk 3 10 hHz ?_;refine sk 4 11 hHz ?_;refine sk 5 12 hHz ?_;refine sk 6 13 hHz ?_;refine sk 7 14 hHz ?_;refine sk 8 15 hHz ?_;refine sk 9 16 hHz ?_;refine tkz 10 17 hHz ?_
  refine wpAnyH_done (by kernel_rfl) ?_ _
  have HKF:Hid (KJ=⟨s.L,s.R,s.lm,s.rm,sq+1⟩):=by show _=_;rw[HK.out,if_neg (by simp)]
  have c21:=HSQ.out _ hb0
  have f21:=HFR.out _ hb0 21 (by omega)
  go_wp2
  refine bodyPost_end (v:=.tuple #[]) (by simp[results,results256,go_sem]) rfl ⟨rfl,y,?_,?_⟩
  ·rw[HKF.out]
   exact QT ((HJ.out.below hb0).below bR.drew) hT _
  ·exact(Av hb0.drew).trans (DS ((HJ.out.below hb0).below bR.drew).ty _ _)
 |true=>
  by_cases hgt:G<tm'
  ·have hgtr:=pl.EZ (x:=tm') (y:=G) true (by simpa using hgt)
   refine gr.BI 11 rfl (by kernel_rfl) (S:=fun w'=>w'.cell? ⟨B0,0,none⟩=some (.int .i64 sd)/\w'.cell? ⟨B0,1,none⟩=some (.int .i64 tm')/\w'.cell? ⟨B0,2,none⟩=some (.slice ra rl rc)/\w'.cell? ⟨B0,3,none⟩=some (.string kb)/\w'.cell? ⟨B0,4,none⟩=some (.bool true)) (SK.out _ bR.drew) (fun hHz=>?_)
   refine tkz 0 7 hHz ?_;refine tkz 1 8 hHz ?_;refine tkz 2 9 hHz ?_;refine tkz 3 10 hHz ?_;refine tkz 4 11 hHz ?_;refine tkz 5 12 hHz ?_;refine tkz 6 13 hHz ?_;refine tkz 7 14 hHz ?_
   refine wpAnyH_ready (rs:=[8]) (by kernel_rfl) (by simp) ?_
   refine AllReadyH.cons rfl (fun K hK=>?_) AllReadyH.nil
   go_simp
   go_at_call 260
   refine(KG.out _ bR.drew).mono ?_
   rintro e wg ⟨rfl,hbg⟩
   have hyg:Bwz V wg:=bR.drew.trans hbg
   go_wp2_with fail
   refine hK.out _ _ (SK.out _ hyg) (fun hHz=>?_)
   clear hK K
   try simp only[Act.put,sI,sZ,sSz]
   refine tkz 9 16 hHz ?_;refine tkz 10 17 hHz ?_
   refine wpAnyH_done (by kernel_rfl) ?_ _
   have HKF:Hid (KJ=⟨(A3 s sd NB).L,(A3 s sd NB).R,s.lm,s.rm,sq+1⟩):=by show _=_;rw[HK.out,if_pos ⟨trivial,hgt⟩]
   have KPU0:=HKN.out trivial hgt
   have HSG:Hid (∀w',Bwz wg w'->w'.cell? ⟨B0,0,none⟩=some (.int .i64 sd)/\w'.cell? ⟨B0,1,none⟩=some (.int .i64 tm')/\w'.cell? ⟨B0,2,none⟩=some (.slice ra rl rc)/\w'.cell? ⟨B0,3,none⟩=some (.string kb)/\w'.cell? ⟨B0,4,none⟩=some (.bool true)):=fun w' hz=>SK.out _ (hyg.trans (hz.mono hyg.size))
   go_wp2
   refine gr.BI 7 rfl (by kernel_rfl) (S:=fun w'=>w'.cell? ⟨B0,0,none⟩=some (.int .i64 sd)/\w'.cell? ⟨B0,1,none⟩=some (.int .i64 tm')/\w'.cell? ⟨B0,2,none⟩=some (.slice ra rl rc)/\w'.cell? ⟨B0,3,none⟩=some (.string kb)/\w'.cell? ⟨B0,4,none⟩=some (.bool true)) (HSG.out _ bR.drew) (fun hHz=>?_)
   refine tkz 0 18 hHz ?_;refine tkz 1 19 hHz ?_;refine tkz 2 20 hHz ?_;refine tkz 3 21 hHz ?_;refine tkz 4 22 hHz ?_
   refine wpAnyH_ready (rs:=[5]) (by kernel_rfl) (by simp) ?_
   refine AllReadyH.cons rfl (fun K hK=>?_) AllReadyH.nil
   go_simp
   go_at_call 144
   refine(KB.out _).mono ?_
   rintro e wq ⟨rfl,rfl⟩
   go_wp2_with fail
   refine hK.out _ _ hHz (fun hHz=>?_)
   clear hK K
   try simp only[Act.put,sI,sZ,sSz]
   refine tkz 6 6 hHz ?_
   refine wpAnyH_done (by kernel_rfl) ?_ _
   go_wp2
   generalize hW3:wg.drew=W3
   have hb3:Bwz w W3:=by rw[<-hW3];exact(hb0.trans (hyg.mono hb0.size)).drew
   have hv3:Bwz V W3:=by rw[<-hW3];exact hyg.drew
   clear hW3
   have KPU:Hid (∀w1,Bwz W3 w1->CTz 261 #[.agg #[.int .i64 lim,.slice m1 m2 m3,.slice ra' n rc'],.agg #[.string kb,.int .i64 tm',.int .i64 sq,.slice ra rl rc,.bool met]] w1 fun r w'=>(∃X,r= .returned (.tuple #[.agg #[.int .i64 NB.lim,.slice X.m.1.1 X.m.1.2.1 X.m.1.2.2,.slice X.ra X.rs.length X.rc],.int .i64 0])/\OB w' w1.heap.size X NB)/\Bwz w1 w'):=fun w1 hb=>KPU0 w1 (hb3.trans (hb.mono hb3.size))
   obtain⟨HC0,HC1,HC2⟩:=HCB.out _ hb3
   have sqc:=HSQ.out _ hb3
   have SK3:Hid (∀w',Bwz W3 w'->w'.cell? ⟨B0,0,none⟩=some (.int .i64 sd)/\w'.cell? ⟨B0,1,none⟩=some (.int .i64 tm')/\w'.cell? ⟨B0,2,none⟩=some (.slice ra rl rc)/\w'.cell? ⟨B0,3,none⟩=some (.string kb)/\w'.cell? ⟨B0,4,none⟩=some (.bool true)/\w'.cell? ⟨b,21,none⟩=some (.int .i64 sq)):=fun w' hz=>⟨cLz hz (cLz hv3 s0),cLz hz (cLz hv3 s1),cLz hz (cLz hv3 s2),cLz hz (cLz hv3 s3),cLz hz (cLz hv3 s4),cLz hz sqc⟩
   clear KPU0
   refine gr.BI 23 rfl (by kernel_rfl) (S:=fun w'=>w'.cell? ⟨B0,0,none⟩=some (.int .i64 sd)/\w'.cell? ⟨B0,1,none⟩=some (.int .i64 tm')/\w'.cell? ⟨B0,2,none⟩=some (.slice ra rl rc)/\w'.cell? ⟨B0,3,none⟩=some (.string kb)/\w'.cell? ⟨B0,4,none⟩=some (.bool true)/\w'.cell? ⟨b,21,none⟩=some (.int .i64 sq)) (SK3.out _ bR.drew) (fun hHz=>?_)
   refine tkz 0 25 hHz ?_;refine tkz 1 26 hHz ?_;refine tkz 2 27 hHz ?_;refine tkz 4 29 hHz ?_;refine tkz 5 30 hHz ?_;refine tkz 6 31 hHz ?_;refine tkz 7 32 hHz ?_;refine tkz 8 33 hHz ?_;refine tkz 9 34 hHz ?_;refine tkz 10 35 hHz ?_;refine tkz 11 36 hHz ?_;refine tkz 12 37 hHz ?_;refine tkz 13 38 hHz ?_;refine tkz 14 39 hHz ?_;refine tkz 15 40 hHz ?_;refine tkz 16 41 hHz ?_
   refine wpAnyH_ready (rs:=[3]) (by kernel_rfl) (by simp) ?_
   refine AllReadyH.cons rfl (fun K hK=>?_) AllReadyH.nil
   go_simp
   refine hK.out _ _ hHz (fun hHz=>?_)
   clear hK K
   try simp only[Act.put,sI,sZ,sSz]
   refine wpAnyH_ready (rs:=[17]) (by kernel_rfl) (by simp) ?_
   refine AllReadyH.cons rfl (fun K hK=>?_) AllReadyH.nil
   go_simp
   go_at_call 261
   refine(KPU.out _ bR.drew).mono ?_
   rintro e wp ⟨⟨X,rfl,hob⟩,hbp⟩
   have hyp:Bwz W3 wp:=bR.drew.trans hbp
   go_wp2_with fail
   refine hK.out _ _ (SK3.out _ hyp) (fun hHz=>?_)
   clear hK K
   try simp only[Act.put,sI,sZ,sSz]
   refine tkz 18 24 hHz ?_;refine tkz 19 43 hHz ?_;refine tkz 20 44 hHz ?_;refine tkz 21 45 hHz ?_
   have HOB:Hid (OB wp W3.heap.size X NB):=hob
   have d0:=cLz hyp HC0
   have d1:=cLz hyp HC1
   have d2:=cLz hyp HC2
   have hbp0:Bwz w wp:=hb3.trans (hyp.mono hb3.size)
   have f0:=HFR.out _ hbp0 k (by omega)
   have f1:=HFR.out _ hbp0 (k+1) (by omega)
   have f2:=HFR.out _ hbp0 (k+1+1) (by omega)
   have hne:b≠B0:=by omega
   have hHp:=hHz
   clear hob hHz
   refine wpAnyH_ready (rs:=[22]) (by kernel_rfl) (by simp) ?_
   refine AllReadyH.cons rfl (fun K hK=>?_) AllReadyH.nil
   go_simp
   refine hK.out _ _ ⟨DZ hHp.1 hne _ _ _,DZ hHp.2.1 hne _ _ _,DZ hHp.2.2.1 hne _ _ _,DZ hHp.2.2.2.1 hne _ _ _,DZ hHp.2.2.2.2.1 hne _ _ _,BF hHp.2.2.2.2.2 (by omega) (by omega) (by omega) _ _ _⟩ (fun hHz=>?_)
   clear hK K
   refine wpAnyH_done (by kernel_rfl) ?_ _
   have c21:=hHz.2.2.2.2.2
   have f21:(((wp.setCell ⟨b,k,none⟩ (.int .i64 NB.lim)).setCell ⟨b,k+1,none⟩ (.slice X.m.1.1 X.m.1.2.1 X.m.1.2.2)).setCell ⟨b,k+1+1,none⟩ (.slice X.ra X.rs.length X.rc)).frozen? ⟨b,21,none⟩=false:=QS (HFR.out _ hbp0 21 (by omega)) _ _ _
   have HKM:=(Av hbp0).trans (EO (HJ.out.below hbp0).ty k (.int .i64 NB.lim) (.slice X.m.1.1 X.m.1.2.1 X.m.1.2.2) (.slice X.ra X.rs.length X.rc))
   have HST:=NH (HJ.out.below hb3) hT hyp sd HOB.out nR k HKK.out
   unfold hdV at HST
   generalize (((wp.setCell ⟨b,k,none⟩ (.int .i64 NB.lim)).setCell ⟨b,k+1,none⟩ (.slice X.m.1.1 X.m.1.2.1 X.m.1.2.2)).setCell ⟨b,k+1+1,none⟩ (.slice X.ra X.rs.length X.rc))=W4 at *
   have HKM4:Hid (Bs T w W4):=HKM
   clear HKM
   have HS4:Hid (JSt w0 W4 b T p x (A3 s sd NB) (Jv y sd X) t L):=HST
   clear HST hHz hHp
   go_wp2
   refine bodyPost_end (v:=.tuple #[]) (by simp[results,results256,go_sem]) rfl ⟨rfl,Jv y sd X,?_,HKM4.out.trans (DS HS4.out.ty _ _)⟩
   have hst:=QT HS4.out hT (sq+1)
   rw[(MH s sd NB).1,(MH s sd NB).2.1]at hst
   rw[HKF.out]
   exact hst
  ·have hgtr:=pl.EZ (x:=tm') (y:=G) false (by simpa using hgt)
   refine gr.BI 11 rfl (by kernel_rfl) (S:=fun w'=>w'.cell? ⟨B0,0,none⟩=some (.int .i64 sd)/\w'.cell? ⟨B0,1,none⟩=some (.int .i64 tm')/\w'.cell? ⟨B0,2,none⟩=some (.slice ra rl rc)/\w'.cell? ⟨B0,3,none⟩=some (.string kb)/\w'.cell? ⟨B0,4,none⟩=some (.bool true)) (SK.out _ bR.drew) (fun hHz=>?_)
   refine tkz 0 7 hHz ?_;refine tkz 1 8 hHz ?_;refine tkz 2 9 hHz ?_;refine tkz 3 10 hHz ?_;refine tkz 4 11 hHz ?_;refine tkz 5 12 hHz ?_;refine tkz 6 13 hHz ?_;refine tkz 7 14 hHz ?_
   refine wpAnyH_ready (rs:=[8]) (by kernel_rfl) (by simp) ?_
   refine AllReadyH.cons rfl (fun K hK=>?_) AllReadyH.nil
   go_simp
   go_at_call 260
   refine(KG.out _ bR.drew).mono ?_
   rintro e wg ⟨rfl,hbg⟩
   have hyg:Bwz V wg:=bR.drew.trans hbg
   go_wp2_with fail
   refine hK.out _ _ (SK.out _ hyg) (fun hHz=>?_)
   clear hK K
   try simp only[Act.put,sI,sZ,sSz]
   refine tkz 9 16 hHz ?_;refine tkz 10 17 hHz ?_
   refine wpAnyH_done (by kernel_rfl) ?_ _
   have HKF:Hid (KJ=⟨s.L,s.R,s.lm,s.rm,sq+1⟩):=by show _=_;rw[HK.out,if_neg (by simp[hgt])]
   have hbg0:Bwz w wg:=hb0.trans (hyg.mono hb0.size)
   have c21:=HSQ.out _ hbg0
   have f21:=HFR.out _ hbg0 21 (by omega)
   go_wp2
   refine bodyPost_end (v:=.tuple #[]) (by simp[results,results256,go_sem]) rfl ⟨rfl,y,?_,?_⟩
   ·rw[HKF.out]
    exact QT (HJ.out.below hbg0) hT _
   ·exact(Av hbg0).trans (DS (HJ.out.below hbg0).ty _ _)
end jn
namespace jn
open Go.ChangeShapes Go.WideShapes Go.ChangeAt Go.RowKit
open vl bf
variable {p : pl.Pln}
structure KindK(p:pl.Pln)(T kp:TypeId)(ff fm:FuncId):Prop where
 calm:calmC T
 co:T≠92
 cj:T≠31
 cv:T≠43
 cp:T≠25
 go:∀(K:Nat) (w:World),(method 415 kp (.pointer (some ⟨K,0,none⟩)) "meetwater/join.goOn").run Tryz.prog w= .ok (255,.pointer (some ⟨K,0,none⟩)) w
 fo:∀(K:Nat) (w:World),(method 415 kp (.pointer (some ⟨K,0,none⟩)) "meetwater/join.forget").run Tryz.prog w= .ok (ff,.pointer (some ⟨K,0,none⟩)) w
 me:∀(K:Nat) (w:World),(method 415 kp (.pointer (some ⟨K,0,none⟩)) "meetwater/join.meet").run Tryz.prog w= .ok (fm,.pointer (some ⟨K,0,none⟩)) w
 ke:∀(K:Nat) (w:World),(method 415 kp (.pointer (some ⟨K,0,none⟩)) "meetwater/join.keep").run Tryz.prog w= .ok (256,.pointer (some ⟨K,0,none⟩)) w
 ma:∀(K:Nat) (w:World),(method 415 kp (.pointer (some ⟨K,0,none⟩)) "meetwater/join.made").run Tryz.prog w= .ok (257,.pointer (some ⟨K,0,none⟩)) w
 ni:∀(K:Nat) (w:World),(nilAhead 415 kp (.pointer (some ⟨K,0,none⟩)) "meetwater/join.keep").run Tryz.prog w= .ok (some false) w
 ef:∀args w,(callFunc ff args).run Tryz.prog w= .ok (.enter ff args) w
 em:∀args w,(callFunc fm args).run Tryz.prog w= .ok (.enter fm args) w
 cf:∀(b:Nat) (x:pl.PA) (s:Jn) (y:JX) (t:Value) (L:List CO) (w0 w:World),JSt w0 w b T p x s y t L->pl.wfPlan p->pl.planAt w0 p x->goodJ p s->Calls Tryz.prog ff #[.pointer (some ⟨b,0,none⟩)] w fun e w'=>e= .returned (.tuple #[])/\∃y',JSt w0 w' b T p x (Cn p s) y' t L/\Bs T w w'
 cm:∀(b:Nat) (x:pl.PA) (s:Jn) (y:JX) (v:Ev) (ra:Option Addr) (rc:Nat) (w0 w:World),JSt w0 w b T p x s y (.slice none 0 0) []->goodJ p s->comeJ p s v->vl.rowAt w0 ra v.row->Calls Tryz.prog fm #[.pointer (some ⟨b,0,none⟩),Bz p v ra rc] w fun e w'=>e= .returned (.bool (Jc p s v))/\∃y' t' L',JSt w0 w' b T p x (FV p s v) y' t' L'/\L'.map CO.chg=Iv p s v/\Bs T w w'
theorem kind_is(h:pl.Al p=0):p.kind=1\/p.kind=2\/p.kind=3:=by
 have:=(pl.BW h).1.1
 omega
theorem kinds(h:pl.Al p=0):∃ff fm,KindK p (kindT p.kind) (kindP p.kind) ff fm:=by
 rcases kind_is h with hk|hk|hk
 ·have eT:kindT p.kind=139:=by unfold kindT;rw[if_pos hk]
  have eP:kindP p.kind=137:=by unfold kindP;rw[if_pos hk]
  rw[eT,eP]
  refine⟨254,258,⟨⟨by decide,by decide,by decide⟩,by decide⟩,by decide,by decide,by decide,by decide,fun K w=>by kernel_rfl,fun K w=>by kernel_rfl,fun K w=>by kernel_rfl,fun K w=>by kernel_rfl,fun K w=>by kernel_rfl,fun K w=>by kernel_rfl,enters_of func254 (by kernel_rfl) rfl,enters_of func258 (by kernel_rfl) rfl,fun b x s y t L w0 w hj hw hp hg=>?_,fun b x s y v ra rc w0 w hj hg hc hv=>?_⟩
  ·have e:Cn p s=EF p s:=by unfold Cn;rw[if_neg (by omega)]
   rw[e]
   exact Hb b _ p x s y t L w0 w hj ⟨⟨by decide,by decide,by decide⟩,by decide⟩ (by decide) hw hp hg
  ·have e1:Jc p s v= !(partners p s v).isEmpty:=by unfold Jc;rw[if_neg (by omega)]
   have e2:FV p s v=Cf p s v:=by unfold FV;rw[if_neg (by omega)]
   have e3:Iv p s v=Cq p s v:=by unfold Iv;rw[if_neg (by omega)]
   rw[e1,e2,e3]
   exact SA b p x s y v ra rc w0 w hj hk hg hc hv
 ·have eT:kindT p.kind=141:=by unfold kindT;rw[if_neg (by omega),if_pos hk]
  have eP:kindP p.kind=140:=by unfold kindP;rw[if_neg (by omega),if_pos hk]
  rw[eT,eP]
  refine⟨254,278,⟨⟨by decide,by decide,by decide⟩,by decide⟩,by decide,by decide,by decide,by decide,fun K w=>by kernel_rfl,fun K w=>by kernel_rfl,fun K w=>by kernel_rfl,fun K w=>by kernel_rfl,fun K w=>by kernel_rfl,fun K w=>by kernel_rfl,enters_of func254 (by kernel_rfl) rfl,enters_of func278 (by kernel_rfl) rfl,fun b x s y t L w0 w hj hw hp hg=>?_,fun b x s y v ra rc w0 w hj hg hc hv=>?_⟩
  ·have e:Cn p s=EF p s:=by unfold Cn;rw[if_neg (by omega)]
   rw[e]
   exact Hb b _ p x s y t L w0 w hj ⟨⟨by decide,by decide,by decide⟩,by decide⟩ (by decide) hw hp hg
  ·have e1:Jc p s v= !(partners p s v).isEmpty:=by unfold Jc;rw[if_neg (by omega)]
   have e2:FV p s v=Cf p s v:=by unfold FV;rw[if_neg (by omega)]
   have e3:Iv p s v=Cq p s v:=by unfold Iv;rw[if_neg (by omega)]
   rw[e1,e2,e3]
   exact SD b p x s y v ra rc w0 w hj hk hg hc hv
 ·have eT:kindT p.kind=143:=by unfold kindT;rw[if_neg (by omega),if_neg (by omega)]
  have eP:kindP p.kind=142:=by unfold kindP;rw[if_neg (by omega),if_neg (by omega)]
  rw[eT,eP]
  refine⟨279,280,⟨⟨by decide,by decide,by decide⟩,by decide⟩,by decide,by decide,by decide,by decide,fun K w=>by kernel_rfl,fun K w=>by kernel_rfl,fun K w=>by kernel_rfl,fun K w=>by kernel_rfl,fun K w=>by kernel_rfl,fun K w=>by kernel_rfl,enters_of func279 (by kernel_rfl) rfl,enters_of func280 (by kernel_rfl) rfl,fun b x s y t L w0 w hj hw hp hg=>?_,fun b x s y v ra rc w0 w hj hg hc hv=>?_⟩
  ·have e:Cn p s=St (EF p s):=by unfold Cn;rw[if_pos hk]
   rw[e]
   exact Pt b p x s y t L w0 w hj hw hp hg
  ·exact TI b p x s y v ra rc w0 w hj hk hg hc hv
end jn
namespace jn
open Go.ChangeShapes Go.WideShapes Go.ChangeAt Go.RowKit
open vl
attribute [local go_sem] Oper.semAt_some
def startJ(p:pl.Pln):Jn:=if pl.Al p=0 then⟨⟨p.limit,[],[]⟩,⟨p.limit,[],[]⟩,noMark,noMark,0⟩else j0
theorem U5{p:pl.Pln}(h:pl.Al p=0):bf.Az p.limit 1 64=true:=(bf.AJ _ _ _).2 (pl.BW h).2.1.2.2
theorem Ms(p:pl.Pln)(x:pl.PA)(w:World)(hw:pl.wfPlan p)(hp:pl.planAt w p x):
 Calls Tryz.prog 9 #[pl.Ap p x] w fun e w'=>e= .returned (.tuple #[joinV (startJ p) jx0,.int .i64 (pl.Al p)])/\Bwz w w':=by
 have KC:=hIz (fun(w1:World) (hb:Bwz w w1)=>pl.DV p x w1 hw (pl.Af hp hb))
 have KN:Hid (pl.Al p=0->∀w1,CTz 28 #[.int .i64 p.limit] w1 fun e w'=>e= .returned (.tuple #[.agg #[.int .i64 p.limit,.slice none 0 0,.slice none 0 0],.int .i64 0])/\Bwz w1 w'):=fun h w1=>bf.YQ p.limit w1 (U5 h)
 obtain⟨JV,hJV⟩:=nM (joinV (startJ p) jx0)
 have HJ:Hid (joinV (startJ p) jx0=JV):=hJV
 rw[hJV]
 clear hJV
 unfold startJ at HJ
 obtain⟨E,hE⟩:=nM (pl.Al p)
 rw[hE]at KC KN HJ⊢
 clear hE hw hp
 unfold pl.Ap at KC⊢
 go_enter func9,ntmps9
 go_wp2_with fail
 generalize hV:(World.alloc (World.alloc w _) _)=V
 have hb0:Bwz w V:=by rw[<-hV];exact(bR.alloc nR _).alloc (by simp) _
 have HB:Hid (Br V w.heap.size p x):=by
  subst hV
  exact Aj (CM ..) (bR.alloc nR _)
 have HZ:Hid (noJ V (w.heap.size+1)):=by
  subst hV
  have:=Ef (w.alloc (.cells #[.int .i64 p.kind,.int .i64 p.mode,.int .i64 p.low,.int .i64 p.high,.int .i64 p.size,.int .i64 p.limit,.slice x.l p.left.length x.lc,.slice x.r p.right.length x.rc,.slice x.lk p.lkeys.length x.lkc,.slice x.rk p.rkeys.length x.rkc,.bool p.grouped,.slice x.g p.group.length x.gc,.slice x.a p.aggs.length x.ac] 25))
  rw[World.size_alloc]at this
  exact this
 clear hV
 refine(KC.out _ hb0).mono ?_
 rintro e w1 ⟨rfl,hb1⟩
 have hbw:Bwz w w1:=hb0.trans (hb1.mono hb0.size)
 replace HB:Hid (Br w1 w.heap.size p x):=Aj HB.out hb1
 replace HZ:Hid (noJ w1 (w.heap.size+1)):=AV HZ.out hb1
 clear hb1 hb0 KC
 by_cases h0:E=0
 ·subst h0
  rw[if_pos rfl]at HJ
  have v5:=HB.out.2.2.2.2.2.1
  go_wp2_with fail
  refine(KN.out (by trivial) _).mono ?_
  rintro e w2 ⟨rfl,hb2⟩
  have hbw2:Bwz w w2:=hbw.trans (hb2.mono hbw.size)
  have u5:=(Aj HB.out hb2).2.2.2.2.2.1
  replace HZ:Hid (noJ w2 (w.heap.size+1)):=AV HZ.out hb2
  have lw:=QO HZ.out
  have lw2:w.heap.size<w2.heap.size:=by omega
  clear v5 hb2 HB
  go_wp2_with fail
  generalize hV:(World.alloc w2 _)=V2
  have hb3:Bwz w2 V2:=by rw[<-hV];exact bR.alloc nR _
  have hbw3:Bwz w V2:=hbw2.trans (hb3.mono hbw2.size)
  have p0:V2.cell? ⟨w2.heap.size,0,none⟩=some (.int .i64 p.limit):=by subst hV;go_simp
  have p1:V2.cell? ⟨w2.heap.size,1,none⟩=some (.slice none 0 0):=by subst hV;go_simp
  have p2:V2.cell? ⟨w2.heap.size,2,none⟩=some (.slice none 0 0):=by subst hV;go_simp
  replace HZ:Hid (noJ V2 (w.heap.size+1)):=AV HZ.out hb3
  clear hV u5
  refine(KN.out (by trivial) _).mono ?_
  rintro e w4 ⟨rfl,hb4⟩
  have hbw4:Bwz w w4:=hbw3.trans (hb4.mono hbw3.size)
  have q0:=cLz hb4 p0
  have q1:=cLz hb4 p1
  have q2:=cLz hb4 p2
  have lw3:w2.heap.size<w4.heap.size:=bLt _ _ q0
  have lw4:w.heap.size+1<w4.heap.size:=by omega
  replace HZ:Hid (noJ (w4.alloc (.cells #[.int .i64 p.limit,.slice none 0 0,.slice none 0 0] 29)) (w.heap.size+1)):=AV (AV HZ.out hb4) (bR.alloc nR _)
  have hb5:Bwz w (w4.alloc (.cells #[.int .i64 p.limit,.slice none 0 0,.slice none 0 0] 29)):=hbw4.alloc hbw4.size _
  clear p0 p1 p2 hb3 hb4 hbw3 hbw2 hbw KN
  have HR:Hid ((World.setCells (w4.alloc (.cells #[.int .i64 p.limit,.slice none 0 0,.slice none 0 0] 29)) (w.heap.size+1) 0 [.int .i64 p.limit,.slice none 0 0,.slice none 0 0,.int .i64 p.limit,.slice none 0 0,.slice none 0 0,.int .i64 (-1099511627777),.int .i64 (-1099511627777),.int .i64 0]).rangeAt (w.heap.size+1) 0 [.int .i64 p.limit,.slice none 0 0,.slice none 0 0,.int .i64 p.limit,.slice none 0 0,.slice none 0 0,.int .i64 (-1099511627777),.int .i64 (-1099511627777),.int .i64 0]):=C0 HZ.out rfl
  have HB9:Hid (Bwz w (World.setCells (w4.alloc (.cells #[.int .i64 p.limit,.slice none 0 0,.slice none 0 0] 29)) (w.heap.size+1) 0 [.int .i64 p.limit,.slice none 0 0,.slice none 0 0,.int .i64 p.limit,.slice none 0 0,.slice none 0 0,.int .i64 (-1099511627777),.int .i64 (-1099511627777),.int .i64 0])):=below_setCells (Nat.le_succ w.heap.size) _ 0 _ hb5
  go_wp2_with ((with_reducible refine wpList_store_mid ?_ 31 (.tmp 2) (.tmp 29) ?_ (w.heap.size+1) 0 #[.int .i64 p.limit,.slice none 0 0,.slice none 0 0,.int .i64 p.limit,.slice none 0 0,.slice none 0 0,.int .i64 (-1099511627777),.int .i64 (-1099511627777),.int .i64 0] ?_ ?_ ?_ ?_ ?_ ?_);exact rfl;exact rfl;exact rfl;exact rfl;exact HZ.out;exact E4;exact(by simp[Value.oneCell']))
  generalize (World.setCells (w4.alloc (.cells #[.int .i64 p.limit,.slice none 0 0,.slice none 0 0] 29)) (w.heap.size+1) 0 [.int .i64 p.limit,.slice none 0 0,.slice none 0 0,.int .i64 p.limit,.slice none 0 0,.slice none 0 0,.int .i64 (-1099511627777),.int .i64 (-1099511627777),.int .i64 0])=W' at HR HB9⊢
  have y0:=HR.out 0 _ rfl
  have y1:=HR.out 1 _ rfl
  have y2:=HR.out 2 _ rfl
  have y3:=HR.out 3 _ rfl
  have y4:=HR.out 4 _ rfl
  have y5:=HR.out 5 _ rfl
  have y6:=HR.out 6 _ rfl
  have y7:=HR.out 7 _ rfl
  have y8:=HR.out 8 _ rfl
  simp only[Nat.zero_add]at y0 y1 y2 y3 y4 y5 y6 y7 y8
  exact bodyPost_ret (v:=.tuple #[.agg #[.int .i64 p.limit,.slice none 0 0,.slice none 0 0,.int .i64 p.limit,.slice none 0 0,.slice none 0 0,.int .i64 (-1099511627777),.int .i64 (-1099511627777),.int .i64 0],.int .i64 0]) (by simp[results,results9,go_sem,y0,y1,y2,y3,y4,y5,y6,y7,y8]) rfl ⟨by rw[<-HJ.out];rfl,HB9.out⟩
 ·rw[if_neg h0]at HJ
  have hne:(E !=0)=true:=by simpa using h0
  have HR:Hid ((World.setCells w1 (w.heap.size+1) 0 [.int .i64 0,.slice none 0 0,.slice none 0 0,.int .i64 0,.slice none 0 0,.slice none 0 0,.int .i64 0,.int .i64 0,.int .i64 0]).rangeAt (w.heap.size+1) 0 [.int .i64 0,.slice none 0 0,.slice none 0 0,.int .i64 0,.slice none 0 0,.slice none 0 0,.int .i64 0,.int .i64 0,.int .i64 0]):=C0 HZ.out rfl
  have HB9:Hid (Bwz w (World.setCells w1 (w.heap.size+1) 0 [.int .i64 0,.slice none 0 0,.slice none 0 0,.int .i64 0,.slice none 0 0,.slice none 0 0,.int .i64 0,.int .i64 0,.int .i64 0])):=below_setCells (Nat.le_succ w.heap.size) _ 0 _ hbw
  go_wp2_with ((with_reducible refine wpList_store_mid ?_ 31 (.tmp 2) (.tmp 13) ?_ (w.heap.size+1) 0 #[.int .i64 0,.slice none 0 0,.slice none 0 0,.int .i64 0,.slice none 0 0,.slice none 0 0,.int .i64 0,.int .i64 0,.int .i64 0] ?_ ?_ ?_ ?_ ?_ ?_);exact rfl;exact rfl;exact rfl;exact rfl;exact HZ.out;exact E4;exact(by simp[Value.oneCell']))
  generalize (World.setCells w1 (w.heap.size+1) 0 [.int .i64 0,.slice none 0 0,.slice none 0 0,.int .i64 0,.slice none 0 0,.slice none 0 0,.int .i64 0,.int .i64 0,.int .i64 0])=W' at HR HB9⊢
  have y0:=HR.out 0 _ rfl
  have y1:=HR.out 1 _ rfl
  have y2:=HR.out 2 _ rfl
  have y3:=HR.out 3 _ rfl
  have y4:=HR.out 4 _ rfl
  have y5:=HR.out 5 _ rfl
  have y6:=HR.out 6 _ rfl
  have y7:=HR.out 7 _ rfl
  have y8:=HR.out 8 _ rfl
  simp only[Nat.zero_add]at y0 y1 y2 y3 y4 y5 y6 y7 y8
  exact bodyPost_ret (v:=.tuple #[.agg #[.int .i64 0,.slice none 0 0,.slice none 0 0,.int .i64 0,.slice none 0 0,.slice none 0 0,.int .i64 0,.int .i64 0,.int .i64 0],.int .i64 E]) (by simp[results,results9,go_sem,y0,y1,y2,y3,y4,y5,y6,y7,y8]) rfl ⟨by rw[<-HJ.out];rfl,HB9.out⟩
theorem GE(m:Int)(w:World):Calls Tryz.prog 77 #[.int .i64 m] w fun e w'=>e= .returned (.bool (CH m))/\Bwz w w':=by
 unfold CH
 have KF:=tm.Cr m
 by_cases h:m=noMark
 ·have h1:(m== -1099511627777)=true:=by unfold noMark at h;simpa using h
  have HE:Hid (true=(decide (m=noMark)||tm.Bb m)):=by show _=_;rw[decide_eq_true h];rfl
  clear KF
  unfold noMark at h
  subst h
  go_enter func77,ntmps77
  go_wp2
  go_ret
  exact⟨Aa HE.out,bR⟩
 ·have h1:(m== -1099511627777)=false:=by unfold noMark at h;simpa using h
  have HE:Hid (tm.Bb m=(decide (m=noMark)||tm.Bb m)):=by show _=_;rw[decide_eq_false h];rfl
  go_enter func77,ntmps77
  go_wp2_with (go_at_call 88;refine(KF _).mono ?_;rintro e w2 ⟨rfl,rfl⟩)
  go_ret
  exact⟨Aa HE.out,bR⟩
end jn
end Go.Proofs.YtdohnkkbkfhphaaGreat
