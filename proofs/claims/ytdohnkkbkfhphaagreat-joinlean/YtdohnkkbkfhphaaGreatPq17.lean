import Derived.Test.YtdohnkkbkfhphaaGreatPq16
set_option linter.all false
set_option maxHeartbeats 8000000
set_option maxRecDepth 100000
namespace Go.Proofs.YtdohnkkbkfhphaaGreat
open Go.Proofs.Tryz
namespace bf
open Go.ChangeShapes Go.WideShapes Go.ChangeAt Go.RowKit
open vl
attribute [local go_sem] Oper.semAt_some
def Fl(b:Buf)(l:List Ent):Buf:=if b.lim<(l.length:Int)then⟨b.lim,[],b.runs++[l]⟩else⟨b.lim,l,b.runs⟩
theorem VW(b:Buf)(x:BX)(e:EM)(y:Ent)(w:World)(h:bufAt w b x)(hw:∀y∈Ab b,wfE y/\wfP (AS y))(hs:(Ab b).length<=4611686018427387904)(he:Ez b=0)(hr:ER w e y)(hy:wfE y)(hf:Ep y=true)(hh:hasB (Ab b) (AS y)=false)(hm:(Ab b).length≠4096):
 Calls Tryz.prog 261 #[AQ b x,e.val] w fun r w'=>(∃x' l',r= .returned (.tuple #[AQ (Fl b l') x',.int .i64 0])/\l'.Perm (b.mem++[y])/\Kf l'/\OB w' w.heap.size x' (Fl b l'))/\Bwz w w':=by
 have KC:Hid (∀w1,Bwz w w1->Calls Tryz.prog 39 #[AQ b x] w1 fun e w'=>e= .returned (.int .i64 0)/\Bwz w1 w'):=fun w1 hb=>by
  have:=Bk b x w1 (Ak h hb) hw hs
  rwa[he]at this
 have KE:Hid (∀w1,Bwz w w1->Calls Tryz.prog 183 #[e.val] w1 fun r w'=>r= .returned (.bool true)/\Bwz w1 w'):=fun w1 hb=>by
  have:=Fz e y w1 (hr.below hb) hy
  rwa[hf]at this
 have KP:=hIz (fun(w1:World)=>Fy e w1)
 have KH:Hid (∀w1,Bwz w w1->Calls Tryz.prog 265 #[AQ b x,.agg #[.string e.key,.int .i64 e.time,.int .i64 e.seq]] w1 fun r w'=>r= .returned (.bool false)/\Bwz w1 w'):=fun w1 hb=>by
  have k:=UQ b x (AS y) w1 (Ak h hb)
  rw[hh]at k
  unfold Bn AS at k
  rw[<-hr.key,<-hr.time,<-hr.seq]at k
  exact k
 have KS:=hIz (fun(w1:World) (hb:Bwz w w1)=>JA b x w1 (Ak h hb) hs)
 have hok:=E8 he
 have hsm:=hok.small
 have hml:=hsm.1 b.mem (List.mem_cons_self ..)
 have KK:Hid (∀w1,Bwz w w1->Calls Tryz.prog 145 #[AQ b x,.func (.func 59) #[] #[]] w1 fun r w'=>(∃x',r= .returned (AQ b x')/\OB w' w1.heap.size x' b)/\Bwz w1 w'):=fun w1 hb=>by
  have k:=DA 59 (enters_of func59 (by kernel_rfl) rfl) #[] (fun _=>true) b x w1 (Ak h hb) hsm.1 hsm.2.1 hsm.2.2 (fun e y w2 _ _ _=>by rw[Array.append_empty];exact EY e w2)
  rw[GE hok]at k
  exact k
 have hyr:y.row.length<=1000000:=by
  have h1:=(Lr.1 hf).2.1
  unfold AE at h1
  by_cases h8:8<y.row.length
  ·rw[if_pos h8]at h1;cases h1
  ·omega
 have KF:=hIz (fun(w1:World) (hb:Bwz w w1)=>EH e y w1 (hr.below hb) hyr)
 have HER:Hid (ER w e y):=hr
 obtain⟨N,hN⟩:=nM ((Ab b).length)
 rw[hN]at KS hm
 have hm':((N:Int)==4096)=false:=by simpa using(fun h=>hm (by omega):¬(N:Int)=4096)
 have HML:Hid (b.mem.length<=100000):=hml
 have hnr:b.runs.length<=100000:=hsm.2.1
 have HNR:Hid (b.runs.length<=100000):=hnr
 clear h hw hs he hr hy hf hh hm hok hsm hml hN hyr hnr
 obtain⟨ra,rc,⟨⟨m1,m2,m3⟩,ml⟩,rs⟩:=x
 obtain⟨lim,mem,runs⟩:=b
 obtain⟨ek,et,es,⟨r1,r2,r3⟩,em⟩:=e
 rw[show AQ ⟨lim,mem,runs⟩ ⟨ra,rc,((m1,m2,m3),ml),rs⟩= .agg #[.int .i64 lim,.slice m1 m2 m3,.slice ra rs.length rc]from rfl]at KC KH KS KK⊢
 unfold EM.val EM.to hdV at KF
 unfold EM.val hdV at KE KP⊢
 dsimp only at KE KP KH KF⊢
 obtain⟨n,hn⟩:∃n,rs.length=n:=⟨_,rfl⟩
 rw[hn]at KC KH KS KK⊢
 clear hn
 obtain⟨rl,hrl⟩:=nM y.row.length
 have HRL:Hid (y.row.length=rl):=hrl
 rw[hrl]at KF
 clear hrl
 have hb0:Bwz w (((w.alloc (.cells #[.int .i64 lim,.slice m1 m2 m3,.slice ra n rc] 29)).alloc (.cells #[.string ek,.int .i64 et,.int .i64 es,.slice r1 r2 r3,.bool em] 63)).alloc (.cells #[.int .i64 0,.slice none 0 0,.slice none 0 0] 29)):=by
  repeat (first|exact bR|(refine Below.alloc ?_ (by simp<;>omega) _))
 have NBV:=Hx ((w.alloc (.cells #[.int .i64 lim,.slice m1 m2 m3,.slice ra n rc] 29)).alloc (.cells #[.string ek,.int .i64 et,.int .i64 es,.slice r1 r2 r3,.bool em] 63))
 rw[World.size_alloc,World.size_alloc]at NBV
 have HNB:Hid (nbAt (((w.alloc (.cells #[.int .i64 lim,.slice m1 m2 m3,.slice ra n rc] 29)).alloc (.cells #[.string ek,.int .i64 et,.int .i64 es,.slice r1 r2 r3,.bool em] 63)).alloc (.cells #[.int .i64 0,.slice none 0 0,.slice none 0 0] 29)) (w.heap.size+1+1)):=NBV
 clear NBV
 go_enter func261,ntmps261
 go_wp2_with (first
  |(go_at_call 39;refine(KC.out _ hb0).mono ?_;rintro e w2 ⟨rfl,hb2⟩;have hbw:Bwz w w2:=hb0.trans (hb2.mono hb0.size);have nb2:=BM hb2 HNB.out;have k0:w2.cell? ⟨w.heap.size,0,none⟩=some (.int .i64 lim):=cLz hb2 (by go_simp);have k1:w2.cell? ⟨w.heap.size,1,none⟩=some (.slice m1 m2 m3):=cLz hb2 (by go_simp);have k2:w2.cell? ⟨w.heap.size,2,none⟩=some (.slice ra n rc):=cLz hb2 (by go_simp);have d0:w2.cell? ⟨w.heap.size+1,0,none⟩=some (.string ek):=cLz hb2 (by go_simp);have d1:w2.cell? ⟨w.heap.size+1,1,none⟩=some (.int .i64 et):=cLz hb2 (by go_simp);have d2:w2.cell? ⟨w.heap.size+1,2,none⟩=some (.int .i64 es):=cLz hb2 (by go_simp);have d3:w2.cell? ⟨w.heap.size+1,3,none⟩=some (.slice r1 r2 r3):=cLz hb2 (by go_simp);have d4:w2.cell? ⟨w.heap.size+1,4,none⟩=some (.bool em):=cLz hb2 (by go_simp))
  |(go_at_call 183;refine(KE.out _ hbw).mono ?_;rintro e w3 ⟨rfl,hb3⟩;have nb3:=BM hb3 nb2;have hbx:Bwz w w3:=hbw.trans (hb3.mono hbw.size);have k0':w3.cell? ⟨w.heap.size,0,none⟩=some (.int .i64 lim):=cLz hb3 k0;have k1':w3.cell? ⟨w.heap.size,1,none⟩=some (.slice m1 m2 m3):=cLz hb3 k1;have k2':w3.cell? ⟨w.heap.size,2,none⟩=some (.slice ra n rc):=cLz hb3 k2;have d0':w3.cell? ⟨w.heap.size+1,0,none⟩=some (.string ek):=cLz hb3 d0;have d1':w3.cell? ⟨w.heap.size+1,1,none⟩=some (.int .i64 et):=cLz hb3 d1;have d2':w3.cell? ⟨w.heap.size+1,2,none⟩=some (.int .i64 es):=cLz hb3 d2;have d3':w3.cell? ⟨w.heap.size+1,3,none⟩=some (.slice r1 r2 r3):=cLz hb3 d3;have d4':w3.cell? ⟨w.heap.size+1,4,none⟩=some (.bool em):=cLz hb3 d4))
 go_region_law (first
  |(go_simp;go_at_call 186;refine(KP.out _).mono ?_;rintro e w4 ⟨rfl,hb4⟩;have hbX4:Bwz w w4:=hbx.drew.trans (hb4.mono hbx.size);have nb4:=BM hb4 (IW nb3);have v0:w4.cell? ⟨w.heap.size+1,0,none⟩=some (.string ek):=cLz hb4 d0';have v1:w4.cell? ⟨w.heap.size+1,1,none⟩=some (.int .i64 et):=cLz hb4 d1';have v2:w4.cell? ⟨w.heap.size+1,2,none⟩=some (.int .i64 es):=cLz hb4 d2';have v3:w4.cell? ⟨w.heap.size+1,3,none⟩=some (.slice r1 r2 r3):=cLz hb4 d3';have v4:w4.cell? ⟨w.heap.size+1,4,none⟩=some (.bool em):=cLz hb4 d4';have u0:w4.cell? ⟨w.heap.size,0,none⟩=some (.int .i64 lim):=cLz hb4 (by go_simp);have u1:w4.cell? ⟨w.heap.size,1,none⟩=some (.slice m1 m2 m3):=cLz hb4 (by go_simp);have u2:w4.cell? ⟨w.heap.size,2,none⟩=some (.slice ra n rc):=cLz hb4 (by go_simp))
  |(go_simp;go_at_call 265;refine(KH.out _ hbX4).mono ?_;rintro e w5 ⟨rfl,hb5⟩;have nb5:=BM hb5 nb4;have hbX5:Bwz w w5:=hbX4.trans (hb5.mono hbX4.size);have x0:w5.cell? ⟨w.heap.size+1,0,none⟩=some (.string ek):=cLz hb5 v0;have x1:w5.cell? ⟨w.heap.size+1,1,none⟩=some (.int .i64 et):=cLz hb5 v1;have x2:w5.cell? ⟨w.heap.size+1,2,none⟩=some (.int .i64 es):=cLz hb5 v2;have x3:w5.cell? ⟨w.heap.size+1,3,none⟩=some (.slice r1 r2 r3):=cLz hb5 v3;have x4:w5.cell? ⟨w.heap.size+1,4,none⟩=some (.bool em):=cLz hb5 v4;have s0:w5.cell? ⟨w.heap.size,0,none⟩=some (.int .i64 lim):=cLz hb5 (by go_simp);have s1:w5.cell? ⟨w.heap.size,1,none⟩=some (.slice m1 m2 m3):=cLz hb5 (by go_simp);have s2:w5.cell? ⟨w.heap.size,2,none⟩=some (.slice ra n rc):=cLz hb5 (by go_simp)))
 all_goals
  go_wp2_with (first
   |(go_at_call 135;refine(KS.out _ hbX5).mono ?_;rintro e w6 ⟨rfl,hb6⟩;have nb6:=BM hb6 nb5;have hbX6:Bwz w w6:=hbX5.trans (hb6.mono hbX5.size);have t0:w6.cell? ⟨w.heap.size,0,none⟩=some (.int .i64 lim):=cLz hb6 s0;have t1:w6.cell? ⟨w.heap.size,1,none⟩=some (.slice m1 m2 m3):=cLz hb6 s1;have t2:w6.cell? ⟨w.heap.size,2,none⟩=some (.slice ra n rc):=cLz hb6 s2)
   |(go_at_call 145;refine(KK.out _ hbX6).mono ?_;rintro e w7 ⟨⟨⟨ra',rc',⟨⟨a1,a2,a3⟩,ml'⟩,rs'⟩,rfl,hob⟩,hb7⟩;have HOB:Hid (OB w7 w.heap.size ⟨ra',rc',((a1,a2,a3),ml'),rs'⟩ ⟨lim,mem,runs⟩):=Ch hob hbX6.size;rw[show AQ ⟨lim,mem,runs⟩ ⟨ra',rc',((a1,a2,a3),ml'),rs'⟩= .agg #[.int .i64 lim,.slice a1 a2 a3,.slice ra' rs'.length rc']from rfl];have nb7:=BM hb7 nb6;have hbX7:Bwz w w7:=hbX6.trans (hb7.mono hbX6.size);obtain⟨rn,hrn⟩:=nM rs'.length;rw[hrn]))
  have q0:w7.cell? ⟨w.heap.size+1,0,none⟩=some (.string ek):=cLz hb7 (cLz hb6 x0)
  have q1:w7.cell? ⟨w.heap.size+1,1,none⟩=some (.int .i64 et):=cLz hb7 (cLz hb6 x1)
  have q2:w7.cell? ⟨w.heap.size+1,2,none⟩=some (.int .i64 es):=cLz hb7 (cLz hb6 x2)
  have q3:w7.cell? ⟨w.heap.size+1,3,none⟩=some (.slice r1 r2 r3):=cLz hb7 (cLz hb6 x3)
  have q4:w7.cell? ⟨w.heap.size+1,4,none⟩=some (.bool em):=cLz hb7 (cLz hb6 x4)
  have ha2:a2=ml'.length:=by
   obtain⟨ad,cp,hf⟩:=HOB.out.mem.form
   unfold hdV at hf
   injection hf with _ e2 _
  have hmm:ml'.length<=100000:=by rw[HOB.out.mem.len];exact HML.out
  have HRN:Hid (rs'.length=rn):=hrn
  have hrn9:rn<=100000:=by rw[<-hrn,HOB.out.rlen];exact HNR.out
  have HPS:Hid (PSt (w7.alloc (.cells #[.int .i64 lim,.slice a1 a2 a3,.slice ra' rn rc'] 29)) (w.heap.size+1+1) w7.heap.size w.heap.size ⟨ra',rc',((a1,a2,a3),ml'),rs'⟩ ⟨lim,mem,runs⟩):=by
   have k:=WI nb7 HOB.out (show w.heap.size<=w.heap.size+1+1 by omega)
   rw[<-hrn]
   exact k
  have hbV:Bwz w (w7.alloc (.cells #[.int .i64 lim,.slice a1 a2 a3,.slice ra' rn rc'] 29)):=hbX7.alloc hbX7.size _
  have hb7V:Bwz w7 (w7.alloc (.cells #[.int .i64 lim,.slice a1 a2 a3,.slice ra' rn rc'] 29)):=bR.alloc nR _
  have y0:=cLz hb7V q0
  have y1:=cLz hb7V q1
  have y2:=cLz hb7V q2
  have y3:=cLz hb7V q3
  have y4:=cLz hb7V q4
  have z1:(w7.alloc (.cells #[.int .i64 lim,.slice a1 a2 a3,.slice ra' rn rc'] 29)).cell? ⟨w7.heap.size,1,none⟩=some (.slice a1 a2 a3):=HPS.out.k.c1
  have lNB:w7.heap.size<(w7.alloc (.cells #[.int .i64 lim,.slice a1 a2 a3,.slice ra' rn rc'] 29)).heap.size:=by simp
  have lw7:w.heap.size+1<w7.heap.size:=bLt _ _ q0
  clear s0 s1 s2 t0 t1 t2 u0 u1 u2 q0 q1 q2 q3 q4 nb3 nb4 nb5 nb6 nb7 hrn x0 x1 x2 x3 x4 v0 v1 v2 v3 v4
  subst ha2
  obtain⟨mn,hmn⟩:=nM ml'.length
  have HMN:Hid (ml'.length=mn):=hmn
  rw[hmn]at hmm z1 HPS y0 y1 y2 y3 y4 hbV hb7V lNB⊢
  clear hmn
  generalize hVV:w7.alloc (.cells #[.int .i64 lim,.slice a1 mn a3,.slice ra' rn rc'] 29)=V at *
  obtain⟨i0,hi0,hz0,hz1,hz2⟩:=info_parts VR
  have HI:Hid (Tryz.prog.info? 26=some i0/\i0.zero=some (.slice none 0 0)/\i0.size=1/\i0.bytes=24):=⟨hi0,hz0,hz1,hz2⟩
  clear hi0 hz0 hz1 hz2
  go_region_law (first
   |(refine Io (by rfl) (.tmp 30) (.tmp 33) (by rfl) w.heap.size (.slice a1 mn a3) ml' ek et es ad9 rl c9 em w9 mn HO9.out (by omega) (Nat.le_trans hbV.size hbV9.size) (by simp[Act.eval,Act.put]) (by simp[Act.eval,Act.put]) ?_;intro g10 c10 w10 hown10 hgrow10 hat10 hlt10;have hmid:=UR HPS.out hbV9 hgrow10;obtain⟨p1,pf⟩:=hmid;unfold hdV at p1;dsimp only at p1)
   |(go_simp;go_at_call 114;refine(KF.out _ hbV.drew).mono ?_;rintro e w9 ⟨⟨ad9,c9,rfl,hov⟩,hb9⟩;have hbV9:Bwz V w9:=bR.drew.trans hb9;have n1:w9.cell? ⟨w7.heap.size,1,none⟩=some (.slice a1 mn a3):=cLz hbV9 z1;have HO9:Hid (w9.ownsRow w.heap.size 63 5 (.slice a1 mn a3) mn (Ar ml')):=(by have k:=own_below HPS.out.k.ob.mem.own hbV9;dsimp only at k;rw[HMN.out]at k;exact k);have ln9:w7.heap.size<w9.heap.size:=Nat.lt_of_lt_of_le lNB hbV9.size))
  all_goals
   have HAP:=US (e:=⟨ek,et,es,(ad9,rl,c9),em⟩) (y:=y) (g:=g10) (c4:=c10) HPS.out hbV9 ⟨HER.out.key,HER.out.time,HER.out.seq,HER.out.met,HRL.out.symm,by unfold hdV;dsimp only;exact Cx hov hbV.size⟩ (by dsimp only;rw[HMN.out];exact hown10) hgrow10 hat10
   dsimp only at HAP
   rw[HMN.out]at HAP
   obtain⟨P2,B2⟩:=HAP
   generalize w10.setCell ⟨w7.heap.size,1,none⟩ (.slice (some ⟨g10,0,none⟩) (mn+1) c10)=W2 at *
   have hbW2:Bwz w W2:=hbV.trans B2
   have HP2:Hid (PSt W2 (w.heap.size+1+1) w7.heap.size w.heap.size ⟨ra',rc',((some ⟨g10,0,none⟩,mn+1,c10),ml'++[⟨ek,et,es,(ad9,rl,c9),em⟩]),rs'⟩ ⟨lim,mem++[y],runs⟩):=P2
   have KSr:Hid (Calls Tryz.prog 115 #[.slice (some ⟨g10,0,none⟩) (mn+1) c10,.func (.func 116) #[] #[]] W2 fun e w'=>e= .returned (.tuple #[])/\∃es' l',l'.Perm (mem++[y])/\(∀i j,i<j->j<l'.length->¬ltP (l'.getD j default) (l'.getD i default))/\OE w' w.heap.size (.slice (some ⟨g10,0,none⟩) (mn+1) c10) es' l'/\Below w.heap.size W2 w'/\(∀b,b<W2.heap.size->(Value.slice (some ⟨g10,0,none⟩) (mn+1) c10).ownBlock≠some b->w'.heap[b]? =W2.heap[b]?)):=Nk w.heap.size _ _ _ W2 P2.k.ob.mem (by rw[lAp,HMN.out];simp;omega)
   have c1:W2.cell? ⟨w7.heap.size,1,none⟩=some (.slice (some ⟨g10,0,none⟩) (mn+1) c10):=P2.k.c1
   have HLEN:Hid (mem.length=mn):=by show _=_;rw[<-HMN.out,HOB.out.mem.len]
   clear P2 y0 y1 y2 y3 y4 z1 hown10 hgrow10 hov p1 pf n1 HO9
   by_cases hlim:lim<(mn:Int)+1
   ·go_wp2_with (first
     |(go_at_call 115;refine KSr.out.mono ?_;rintro e w11 ⟨rfl,es2,l2,hp2,hs2,hoe2,hb11,hk11⟩;have P3:=NQ HP2.out hoe2 hb11.size hk11;dsimp only at P3;have HP3:Hid (PSt w11 (w.heap.size+1+1) w7.heap.size w.heap.size ⟨ra',rc',((some ⟨g10,0,none⟩,mn+1,c10),es2),rs'⟩ ⟨lim,l2,runs⟩):=P3;have i0':w11.cell? ⟨w7.heap.size,0,none⟩=some (.int .i64 lim):=P3.k.c0;have i1':w11.cell? ⟨w7.heap.size,1,none⟩=some (.slice (some ⟨g10,0,none⟩) (mn+1) c10):=P3.k.c1;have i2':w11.cell? ⟨w7.heap.size,2,none⟩=some (.slice ra' rn rc'):=(by have k:=P3.k.c2;dsimp only at k;rw[HRN.out]at k;exact k);have j0:=P3.k.r0;have j1:=P3.k.r1;have j2:=P3.k.r2;have g0:=P3.k.g0;have g1:=P3.k.g1;have g2:=P3.k.g2;have fz1:=P3.f1;have fz2:=P3.k.f2;have HOH:Hid (w11.ownsRow w.heap.size 26 1 (.slice ra' rn rc') rn (rs'.map fun p=>hdV p.1)):=(by have k:=P3.k.ob.hds;dsimp only at k;rw[HRN.out]at k;exact k);have hsz11:w.heap.size<=w11.heap.size:=Nat.le_trans hbW2.size hb11.size;have lN11:w7.heap.size<w11.heap.size:=bLt _ _ i0';have lC11:w.heap.size+1+1<w11.heap.size:=bLt _ _ j0;clear P3)
     |(at_builtin;refine wpList_append_own _ rfl (.tmp 46) (.tmp 49) 27 rfl w.heap.size 26 i0 (.slice none 0 0) 1 24 underlying27 HI.out.1 HI.out.2.1 HI.out.2.2.1 HI.out.2.2.2 rfl (by decide) _ _ _ rfl (World.ownsRow.alloc HOH.out _) ⟨w11.heap.size,0,none⟩ 1 1 [.slice (some ⟨g10,0,none⟩) (mn+1) c10] rfl rfl (cell_one_new _ _ rfl _) (by intro u hu;simp at hu;rcases hu with rfl;rfl) (by unfold maxLen;omega) (by omega) (by simp;omega) ?_;intro v12 w12 hown12 hgrow12 hnil12;obtain⟨g12,c12,hv12⟩:=Ke hown12;subst hv12;have hm2:=Nx HP3.out (by dsimp only;rw[HRN.out];exact hgrow12);obtain⟨_,eN,eC,_⟩:=hm2;have aa0:=(cOb (a:=⟨w7.heap.size,0,none⟩) eN).trans i0';have aa1:=(cOb (a:=⟨w7.heap.size,1,none⟩) eN).trans i1';have aa2:=(cOb (a:=⟨w7.heap.size,2,none⟩) eN).trans i2';have af1:=(A6 (p:=⟨w7.heap.size,1,none⟩) eN).trans fz1;have af2:=(A6 (p:=⟨w7.heap.size,2,none⟩) eN).trans fz2;have ac0:=(cOb (a:=⟨w.heap.size+1+1,0,none⟩) eC).trans j0;have ac1:=(cOb (a:=⟨w.heap.size+1+1,1,none⟩) eC).trans j1;have ac2:=(cOb (a:=⟨w.heap.size+1+1,2,none⟩) eC).trans j2;have ag0:=(A6 (p:=⟨w.heap.size+1+1,0,none⟩) eC).trans g0;have ag1:=(A6 (p:=⟨w.heap.size+1+1,1,none⟩) eC).trans g1;have ag2:=(A6 (p:=⟨w.heap.size+1+1,2,none⟩) eC).trans g2;have hne7:w.heap.size+1+1≠w7.heap.size:=Nat.ne_of_lt HP3.out.k.ne))
    have hl2:l2.length=mn+1:=by rw[hp2.length_eq,lAp,HLEN.out];rfl
    have hput:Fl ⟨lim,mem,runs⟩ l2=⟨lim,[],runs++[l2]⟩:=by unfold Fl;rw[if_pos (by dsimp only;rw[hl2];push_cast;omega)]
    have HMV:=Tp (g:=g12) (cap2:=c12) HP3.out (by dsimp only;rw[HRN.out];exact hown12) (by dsimp only;rw[HRN.out];exact hgrow12)
    dsimp only at HMV
    rw[HRN.out]at HMV
    have hbE:=(hbW2.trans hb11).trans HMV.2
    refine bodyPost_ret (v:=.tuple #[.agg #[.int .i64 lim,.slice none 0 0,.slice (some ⟨g12,0,none⟩) (rn+1) c12],.int .i64 0]) (by simp[results,results261,go_sem,ac0,ac1,ac2,hne7]) rfl ⟨⟨⟨some ⟨g12,0,none⟩,c12,((none,0,0),[]),rs'++[((some ⟨g10,0,none⟩,mn+1,c10),es2)]⟩,l2,?_,hp2,hs2,?_⟩,?_⟩
    ·rw[hput];unfold AQ hdV;dsimp only;rw[lAp,HRN.out];rfl
    ·rw[hput];exact IX HMV.1.k.ob HMV.1.k.rt _ _ _
    ·exact((hbE.setCell (by dsimp only;omega) _).setCell (by dsimp only;omega) _).setCell (by dsimp only;omega) _
   ·go_wp2_with (go_at_call 115;refine KSr.out.mono ?_;rintro e w11 ⟨rfl,es2,l2,hp2,hs2,hoe2,hb11,hk11⟩;have P3:=NQ HP2.out hoe2 hb11.size hk11;dsimp only at P3;have HP3:Hid (PSt w11 (w.heap.size+1+1) w7.heap.size w.heap.size ⟨ra',rc',((some ⟨g10,0,none⟩,mn+1,c10),es2),rs'⟩ ⟨lim,l2,runs⟩):=P3;have i0':w11.cell? ⟨w7.heap.size,0,none⟩=some (.int .i64 lim):=P3.k.c0;have i1':w11.cell? ⟨w7.heap.size,1,none⟩=some (.slice (some ⟨g10,0,none⟩) (mn+1) c10):=P3.k.c1;have i2':w11.cell? ⟨w7.heap.size,2,none⟩=some (.slice ra' rn rc'):=(by have k:=P3.k.c2;dsimp only at k;rw[HRN.out]at k;exact k);have j0:=P3.k.r0;have j1:=P3.k.r1;have j2:=P3.k.r2;have g0:=P3.k.g0;have g1:=P3.k.g1;have g2:=P3.k.g2;clear P3)
    have hl2:l2.length=mn+1:=by rw[hp2.length_eq,lAp,HLEN.out];rfl
    have hbE:Bwz w w11:=hbW2.trans hb11
    have hput:Fl ⟨lim,mem,runs⟩ l2=⟨lim,l2,runs⟩:=by unfold Fl;rw[if_neg (by dsimp only;rw[hl2];push_cast;omega)]
    refine bodyPost_ret (v:=.tuple #[.agg #[.int .i64 lim,.slice (some ⟨g10,0,none⟩) (mn+1) c10,.slice ra' rn rc'],.int .i64 0]) (by simp[results,results261,go_sem,j0,j1,j2]) rfl ⟨⟨⟨ra',rc',((some ⟨g10,0,none⟩,mn+1,c10),es2),rs'⟩,l2,?_,hp2,hs2,?_⟩,?_⟩
    ·rw[hput];unfold AQ hdV;dsimp only;rw[HRN.out]
    ·rw[hput];exact IX HP3.out.k.ob HP3.out.k.rt _ _ _
    ·exact((hbE.setCell (by dsimp only;omega) _).setCell (by dsimp only;omega) _).setCell (by dsimp only;omega) _
end bf
namespace bf
open Go.ChangeShapes Go.WideShapes Go.ChangeAt Go.RowKit
open vl
variable {w : World} {base cap g i j k n : Nat} {e : TypeId} {xs : List Value} {v : Value} {b : Buf} {hs : List Hdr} {x : BX}
theorem Up{size:Nat}(h:w.ownsRow base e size (.slice (some ⟨g,0,none⟩) n cap) n xs)(j:Nat)(hj:j<n * size)(x:Value):(w.setCell ⟨g,j,none⟩ x).ownsRow base e size (.slice (some ⟨g,0,none⟩) n cap) n (xs.set j x):=by
 refine⟨by rw[List.length_set];exact h.1,?_⟩
 rcases h.2 with⟨hv,_⟩|⟨g',cap',cur,hv,h1,hg,h2,h3,h4,h5⟩
 ·cases hv
 ·cases hv
  have hm:n * size<=cap * size:=Nat.mul_le_mul_right _ h2
  refine .inr ⟨g,cap,cur.setIfInBounds j x,rfl,h1,?_,h2,h3,by rw[Array.size_setIfInBounds];exact h4,?_⟩
  ·rw[setCell_eq_setRow w g j cur e (0,0) x hg]
   exact setRow_heap w g cur _ e _ hg
  ·rw[Array.toList_setIfInBounds,<-h5,List.take_set]
def EM.meet(e:EM):EM:=⟨e.key,e.time,e.seq,e.row,true⟩
def Ent.meet(x:Ent):Ent:=⟨x.key,x.time,x.seq,x.row,true⟩
theorem FZ:∀(l:List EM) (i:Nat),i<l.length->(Ar l).set (i * 5+4) (.bool true)=Ar (l.set i (l.getD i default).meet)
 |[],i,h=>absurd h (Nat.not_lt_zero i)
 |e::l,0,_=>rfl
 |e::l,i+1,h=>by
  have ih:=FZ l i (by simpa using h)
  have e1:Ar (e::l)= .string e.key:: .int .i64 e.time:: .int .i64 e.seq::hdV e.row:: .bool e.met::Ar l:=rfl
  rw[e1,show(i+1) * 5+4=(i * 5+4)+1+1+1+1+1 by omega]
  simp only[sS,ih,List.getD_cons_succ]
  rfl
theorem CC{α:Type}{l:List α}{a d:α}(h:i<l.length):(l.set i a).getD i d=a:=by
 simp[gDe,h]
theorem Dd{α:Type}{l:List α}{a d:α}(h:i≠j):(l.set i a).getD j d=l.getD j d:=by
 simp[gDe,List.getElem?_set_ne h]
theorem VX{es:List EM}{l:List Ent}(h:OE w base (.slice (some ⟨g,0,none⟩) es.length cap) es l)(hi:i<l.length):
 OE (w.setCell ⟨g,i * 5+4,none⟩ (.bool true)) base (.slice (some ⟨g,0,none⟩) es.length cap) (es.set i (es.getD i default).meet) (l.set i (l.getD i default).meet):=by
 have hie:i<es.length:=by rw[h.len];exact hi
 refine⟨by simpa[World.setCell]using h.low,?_,by rw[List.length_set,List.length_set,h.len],fun j hj=>?_⟩
 ·rw[List.length_set,<-FZ es i hie]
  exact Up h.own _ (by omega) _
 ·rw[List.length_set]at hj
  have keep:∀{e:EM} {x:Ent},OR w base e x->OR (w.setCell ⟨g,i * 5+4,none⟩ (.bool true)) base e x:=fun {e x} k=>by
   obtain⟨a1,a2,a3,a4,a5,a6⟩:=k
   exact⟨a1,a2,a3,a4,a5,A2 a6 (fun b hb=>heap_setCell_other _ _ _ _ (fun e=>FG h.own a6 (by decide) (show(Value.slice (some ⟨g,0,none⟩) es.length cap).ownBlock=some b by rw[e];rfl) hb))⟩
  by_cases e:i=j
  ·subst e
   rw[CC hie,CC hi]
   obtain⟨a1,a2,a3,a4,a5,a6⟩:=keep (h.rows i hi)
   exact⟨a1,a2,a3,rfl,a5,a6⟩
  ·rw[Dd e,Dd e]
   exact keep (h.rows j hj)
theorem Uq{base':Nat}{es es0:List EM}{l l0:List Ent}(h:OE w base v es l)(hg:OE w base' (.slice (some ⟨g,0,none⟩) n cap) es0 l0)(hap:v.ownBlock≠some g)(u:Value):OE (w.setCell ⟨g,j,none⟩ u) base v es l:=
 h.same (by simp[World.setCell]) (fun b cur t hb ht=>heap_setCell_other _ _ _ _ (fun e=>by
  dsimp only at e
  rcases ht with⟨hv,_⟩|ht
  ·exact hap (by rw[<-e];exact hv)
  ·subst ht
   exact tyAt_apart (A7 hg.own (show(Value.slice (some ⟨g,0,none⟩) n cap).ownBlock=some b by rw[e];rfl)) ⟨_,_,hb⟩ (by decide) rfl))
def hd0:Hdr:=(none,0,0)
structure OP(w:World)(base:Nat)(hs:List Hdr)(ess:List (List EM))(ls:List (List Ent)):Prop where
 low:base<=w.heap.size
 l1:ess.length=hs.length
 l2:ls.length=hs.length
 oe:∀k,k<hs.length->OE w base (hdV (hs.getD k hd0)) (ess.getD k []) (ls.getD k [])
 two:(hs.map hdV).Pairwise apB
theorem Jb{a b:Value}(h:apB a b):apB b a:=fun g h1 h2=>h g h2 h1
theorem OP.apart{ess:List (List EM)}{ls:List (List Ent)}(h:OP w base hs ess ls)(hj:j<hs.length)(hk:k<hs.length)(hne:j≠k):apB (hdV (hs.getD j hd0)) (hdV (hs.getD k hd0)):=by
 have hp:=List.pairwise_iff_getElem.1 h.two
 have e:∀i (hi:i<hs.length),hdV (hs.getD i hd0)=(hs.map hdV)[i]'(by rw[lMp];exact hi):=fun i hi=>by
  rw[List.getElem_map,gDe,gEe hi];rfl
 rw[e j hj,e k hk]
 rcases Nat.lt_or_gt_of_ne hne with h1|h1
 ·exact hp _ _ _ _ h1
 ·exact Jb (hp _ _ _ _ h1)
theorem Jc{h:Hdr}{es:List EM}{l:List Ent}(ho:OE w base (hdV h) es l)(hl:0<l.length):∃g,h=(some ⟨g,0,none⟩,es.length,h.2.2):=by
 obtain⟨a,n,c⟩:=h
 rcases ho.own.2 with⟨_,h0⟩|⟨g,cap,cur,hv,_⟩
 ·rw[<-ho.len,h0]at hl;exact absurd hl (Nat.lt_irrefl _)
 ·unfold hdV at hv
  injection hv with e1 e2 e3
  dsimp only at e1 e2
  subst e1 e2
  exact⟨g,rfl⟩
theorem VY{ess:List (List EM)}{ls:List (List Ent)}(h:OP w base hs ess ls)(hk:k<hs.length)(hi:i<(ls.getD k []).length)(hg:(hs.getD k hd0).1=some ⟨g,0,none⟩):
 OP (w.setCell ⟨g,i * 5+4,none⟩ (.bool true)) base hs (ess.set k ((ess.getD k []).set i ((ess.getD k []).getD i default).meet)) (ls.set k ((ls.getD k []).set i ((ls.getD k []).getD i default).meet)):=by
 have hok:=h.oe k hk
 obtain⟨g',hh⟩:=Jc hok (by omega)
 have eg:g'=g:=by rw[hh]at hg;cases hg;rfl
 subst eg
 have hv:hdV (hs.getD k hd0)= .slice (some ⟨g',0,none⟩) (ess.getD k []).length (hs.getD k hd0).2.2:=by rw[hh];rfl
 have hok2:=hok
 rw[hv]at hok2
 refine⟨by simpa[World.setCell]using h.low,by rw[List.length_set];exact h.l1,by rw[List.length_set];exact h.l2,fun j hj=>?_,h.two⟩
 by_cases e:k=j
 ·subst e
  rw[CC (by rw[h.l1];exact hk),CC (by rw[h.l2];exact hk),hv]
  exact VX hok2 hi
 ·rw[Dd e,Dd e]
  refine Uq (h.oe j hj) hok2 (fun e2=>?_) _
  have:=h.apart hj hk (fun e'=>e e'.symm) g' e2
  rw[hv]at this
  exact this rfl
theorem OP.below{w':World}{ess:List (List EM)}{ls:List (List Ent)}(h:OP w base hs ess ls)(hb:Bwz w w'):OP w' base hs ess ls:=
 ⟨Nat.le_trans h.low hb.size,h.l1,h.l2,fun k hk=>(h.oe k hk).below hb,h.two⟩
theorem WM(h:OB w base x b):OP w base ((x.m::x.rs).map (·.1)) ((x.m::x.rs).map (·.2)) (partsB b):=by
 refine⟨h.low,by simp,by simp[partsB,h.rlen],fun k hk=>?_,by rw[List.map_map];exact h.two⟩
 cases k with
 |zero=>exact h.mem
 |succ k=>
  have hk':k<x.rs.length:=by simpa using hk
  have hr:=h.runs k (by rw[<-h.rlen];exact hk')
  have e1:((x.m::x.rs).map (·.1)).getD (k+1) hd0=(x.rs.getD k default).1:=by
   simp[gDe,hk']
  have e2:((x.m::x.rs).map (·.2)).getD (k+1) []=(x.rs.getD k default).2:=by
   simp[gDe,hk']
  have e3:(partsB b).getD (k+1) []=b.runs.getD k default:=by
   unfold partsB;rw[List.getD_cons_succ];rfl
  rw[e1,e2,e3]
  exact hr
theorem Lc{s:Nat}(h:w.ownsRow base e s v n xs):n<=maxLen:=by
 rcases h.2 with⟨_,h0⟩|⟨g,cap,cur,_,_,_,h2,h3,_⟩
 ·rw[h0];exact Nat.zero_le _
 ·exact Nat.le_trans h2 h3
theorem Cf{p:Part}{l:List Ent}(h:OE w base (hdV p.1) p.2 l):(p.1.2.1=p.2.length/\p.2.length<=9223372036854775807)/\Do w p.1.1 p.2:=by
 obtain⟨⟨a,n,c⟩,es⟩:=p
 have hn:n=es.length:=by
  obtain⟨ad,cp,hf⟩:=h.form
  unfold hdV at hf
  injection hf with _ e2 _
 subst hn
 refine⟨⟨rfl,?_⟩,?_⟩
 ·have:=Lc h.own
  unfold maxLen at this
  dsimp only at this⊢
  omega
 ·exact OE.at h
theorem OB.at(h:OB w base x b):bufAt w b x:=by
 have hp:∀p∈x.m::x.rs,∃l,OE w base (hdV p.1) p.2 l:=fun p hp=>by
  rcases List.mem_cons.1 hp with rfl|hp
  ·exact⟨_,h.mem⟩
  ·obtain⟨i,_,_,hr⟩:=h.run hp
   exact⟨_,hr⟩
 refine⟨fun i hi=>?_,fun p hpm=>?_,fun p hpm=>?_,?_,h.mem.ers,h.rlen,fun i hi=>(h.runs i hi).ers⟩
 ·rw[lMp]at hi
  rcases h.hds.2 with⟨_,h0⟩|⟨g,cap,cur,hv,_⟩
  ·omega
  ·injection hv with e1 _ _
   refine⟨g,0,e1,?_⟩
   have hc:=World.ownsRow.cells h.hds (g:=g) (by rw[e1];rfl) i (hdV (x.rs[i]).1) (by rw[List.getElem?_map,gEe hi];rfl)
   rw[C9]at hc
   rw[gDe,List.getElem?_map,gEe hi]
   exact hc
 ·obtain⟨l,ho⟩:=hp p hpm
  exact(Cf ho).1
 ·obtain⟨l,ho⟩:=hp p hpm
  exact(Cf ho).2
 ·have:=Lc h.hds
  unfold maxLen at this
  omega
def Gi(l:List Ent):Prop:=l.Pairwise ltP
theorem getD_at{α:Type}{l:List α}{d:α}(h:i<l.length):l.getD i d=l[i]:=by
 rw[gDe,gEe h];rfl
theorem Sp{l:List Ent}(h:(l.map AS).Nodup)(hi:i<l.length)(hj:j<l.length)(hne:i≠j):¬CF l[i] l[j]:=fun hs=>by
 have e:=Rh.2 hs
 have hp:=List.pairwise_iff_getElem.1 h
 rcases Nat.lt_or_gt_of_ne hne with h1|h1
 ·exact hp i j (by simpa using hi) (by simpa using hj) h1 (by simpa using e)
 ·exact hp j i (by simpa using hj) (by simpa using hi) h1 (by simpa using e.symm)
theorem GM{l:List Ent}(h:Kf l)(hn:(l.map AS).Nodup):Gi l:=by
 refine List.pairwise_iff_getElem.2 fun i j hi hj hij=>?_
 have h1:=h i j hij hj
 rw[getD_at hi,getD_at hj]at h1
 rcases ltP_tri l[i] l[j]with h2|h2|h2
 ·exact h2
 ·exact absurd h2 (Sp hn hi hj (by omega))
 ·exact absurd h2 h1
theorem Oi{l:List Ent}(h:∀i,i+1<l.length->ltP (l.getD i default) (l.getD (i+1) default)):Gi l:=by
 have go:∀d i,i+d+1<l.length->ltP (l.getD i default) (l.getD (i+d+1) default):=by
  intro d
  induction d with
  |zero=>exact fun i hi=>h i hi
  |succ d ih=>exact fun i hi=>B4 (ih i (by omega)) (h (i+d+1) hi)
 refine List.pairwise_iff_getElem.2 fun i j hi hj hij=>?_
 have:=go (j - i - 1) i (by omega)
 rw[show i+(j - i - 1)+1=j by omega,getD_at hi,getD_at hj]at this
 exact this
theorem Oj{l:List Ent}(h:Gi l):∀i,i+1<l.length->ltP (l.getD i default) (l.getD (i+1) default):=fun i hi=>by
 rw[getD_at (by omega),getD_at hi]
 exact List.pairwise_iff_getElem.1 h i (i+1) (by omega) hi (by omega)
theorem Ee{l:List Ent}(P:Ent->Bool)(h:Gi l):Gi (l.filter P):=h.sublist List.filter_sublist
theorem MH:∀{l m:List Ent},l.Perm m->Gi l->Gi m->l=m
 |[],m,hp,_,_=>(List.nil_perm.1 hp).symm
 |a::l,[],hp,_,_=>absurd (List.perm_nil.1 hp) (by simp)
 |a::l,b::m,hp,h1,h2=>by
  have k1:=List.pairwise_cons.1 h1
  have k2:=List.pairwise_cons.1 h2
  have hab:a=b:=by
   have ha:a∈b::m:=hp.mem_iff.1 (List.mem_cons_self ..)
   have hb:b∈a::l:=hp.mem_iff.2 (List.mem_cons_self ..)
   rcases List.mem_cons.1 ha with h|h
   ·exact h
   ·rcases List.mem_cons.1 hb with h'|h'
    ·exact h'.symm
    ·exact absurd (B4 (k1.1 b h') (k2.1 a h)) (BH _)
  subst hab
  rw[MH (List.Perm.cons_inv hp) k1.2 k2.2]
theorem DN{l m:List Ent}(h:l.Perm m):(l.map AS).Nodup↔(m.map AS).Nodup:=(h.map AS).nodup_iff
theorem Ok{l:List Ent}{p:Plc}(h:hasB l p=false):p ∉ l.map AS:=fun hm=>by
 obtain⟨x,hx,e⟩:=List.mem_map.1 hm
 unfold hasB at h
 have:=List.any_eq_false.1 h x hx
 simp[e]at this
theorem D4(b:Buf):Ab b=b.mem++b.runs.flatten:=by unfold Ab partsB;rw[List.flatten_cons]
theorem CV(h:okB b):Ez b=0:=by
 have h1:Br b.lim 1 64=true:=(Bw _ _ _).2 h.lim
 have h2:countB b=true:=by unfold countB;simp only[Bool.and_eq_true,decide_eq_true_eq];exact⟨h.mem,h.all⟩
 have h3:Eh b=true:=by
  unfold Eh
  simp only[Bool.and_eq_true]
  refine⟨AJ.2 fun i hi=>?_,?_,?_⟩
  ·rw[getD_at hi]
   have hm:(partsB b)[i]∈partsB b:=List.getElem_mem hi
   refine AJ.2 fun j hj=>?_
   unfold DR
   simp only[Bool.and_eq_true,Bool.or_eq_true,decide_eq_true_eq]
   refine⟨FQ ?_,?_⟩
   ·rw[getD_at hj];exact h.fine _ hm _ (List.getElem_mem hj)
   ·cases j with
    |zero=>exact .inl rfl
    |succ j=>exact .inr (h.rise _ hm j hj)
  ·unfold Ga
   refine AJ.2 fun i hi=>?_
   rw[getD_at hi]
   exact decide_eq_true (h.full _ (List.getElem_mem hi))
  ·unfold F1;exact decide_eq_true h.once
 unfold Ez
 rw[h1,h2,h3];rfl
theorem okB.rises(h:okB b){l:List Ent}(hl:l∈partsB b):Gi l:=Oi (h.rise l hl)
theorem okB.entry(h:okB b){y:Ent}(hy:y∈Ab b):DJ y:=by
 obtain⟨l,hl,hy⟩:=List.mem_flatten.1 hy
 exact h.fine l hl y hy
theorem Ol(h1:1<=b.lim/\b.lim<=64)(h2:(b.mem.length:Int)<=b.lim)(h3:(Ab b).length<=4096)(h4:∀y∈Ab b,DJ y)(h5:∀l∈partsB b,Gi l)(h6:∀r∈b.runs,0<r.length)(h7:((Ab b).map AS).Nodup):okB b:=
 ⟨h1,h2,h3,fun l hl y hy=>h4 y (List.mem_flatten.2 ⟨l,hl,hy⟩),fun l hl=>Oj (h5 l hl),h6,h7⟩
theorem MI{l':List Ent}{y:Ent}(hp:l'.Perm (b.mem++[y])):(Ab (Fl b l')).Perm (y::Ab b):=by
 have h1:(b.mem++[y]++b.runs.flatten).Perm (y::(b.mem++b.runs.flatten)):=by
  rw[List.append_assoc]
  exact List.perm_middle
 unfold Fl
 split
 ·rw[D4,D4]
  dsimp only
  rw[List.flatten_append,List.nil_append]
  simp only[List.flatten_cons,List.flatten_nil,List.append_nil]
  exact(List.perm_append_comm).trans ((hp.append_right _).trans h1)
 ·rw[D4,D4]
  exact(hp.append_right _).trans h1
theorem Q9{l':List Ent}{y:Ent}(h:okB b)(hf:DJ y)(hh:hasB (Ab b) (AS y)=false)(hm:(Ab b).length≠4096)(hp:l'.Perm (b.mem++[y]))(hby:Kf l'):okB (Fl b l'):=by
 have he:=MI (b:=b) hp
 have hon:((y::Ab b).map AS).Nodup:=List.nodup_cons.2 ⟨Ok hh,h.once⟩
 have hln:(l'.map AS).Nodup:=by
  rw[DN hp]
  have hs:((b.mem++[y]).map AS).Perm ((y::b.mem).map AS):=(List.perm_append_comm).map _
  rw[hs.nodup_iff]
  refine List.nodup_cons.2 ⟨fun hm'=>Ok hh ?_,?_⟩
  ·rw[D4,List.map_append];exact List.mem_append.2 (.inl hm')
  ·have:=h.once
   rw[D4,List.map_append]at this
   exact(List.nodup_append.1 this).1
 have hr:=GM hby hln
 have hlim:(Fl b l').lim=b.lim:=by unfold Fl;split<;>rfl
 refine Ol (by rw[hlim];exact h.lim) ?_ ?_ (fun z hz=>?_) (fun l hl=>?_) (fun r hr'=>?_) ?_
 ·have:=h.lim
  unfold Fl
  split
  ·dsimp only[List.length_nil];omega
  ·dsimp only;omega
 ·rw[he.length_eq,List.length_cons]
  have:=h.all
  omega
 ·rcases List.mem_cons.1 (he.mem_iff.1 hz)with rfl|hz
  ·exact hf
  ·exact h.entry hz
 ·unfold Fl at hl
  split at hl
  ·rcases List.mem_cons.1 hl with rfl|hl
   ·exact List.Pairwise.nil
   ·rcases List.mem_append.1 hl with hl|hl
    ·exact h.rises (List.mem_cons_of_mem _ hl)
    ·have:l=l':=by simpa using hl
     rw[this];exact hr
  ·rcases List.mem_cons.1 hl with rfl|hl
   ·exact hr
   ·exact h.rises (List.mem_cons_of_mem _ hl)
 ·have hlen:l'.length=b.mem.length+1:=by rw[hp.length_eq];simp
  unfold Fl at hr'
  split at hr'
  ·rcases List.mem_append.1 hr' with hr'|hr'
   ·exact h.full r hr'
   ·have:r=l':=by simpa using hr'
    rw[this];omega
  ·exact h.full r hr'
 ·rw[DN he];exact hon
theorem Ld(P:Ent->Bool):∀l:List (List Ent),(CZ P l).flatten=l.flatten.filter P
 |[]=>rfl
 |r::l=>by
  have ih:=Ld P l
  unfold CZ at ih⊢
  rw[List.map_cons,List.flatten_cons,List.filter_append,<-ih]
  by_cases h:0<(r.filter P).length
  ·rw[List.filter_cons_of_pos (by simpa using h),List.flatten_cons]
  ·have:r.filter P=[]:=List.length_eq_zero_iff.1 (by omega)
   rw[List.filter_cons_of_neg (by simpa using h),this,List.nil_append]
theorem Dr(P:Ent->Bool)(b:Buf):Ab (BU P b)=(Ab b).filter P:=by
 rw[D4,D4,List.filter_append]
 unfold BU
 dsimp only
 rw[Ld]
theorem Gj(P:Ent->Bool)(h:okB b):okB (BU P b):=by
 have he:=Dr P b
 refine Ol h.lim ?_ ?_ (fun z hz=>?_) (fun l hl=>?_) (fun r hr=>?_) ?_
 ·have h1:=h.mem
  have h2:(BU P b).mem.length<=b.mem.length:=List.length_filter_le _ _
  show((BU P b).mem.length:Int)<=b.lim
  omega
 ·rw[he];exact Nat.le_trans (List.length_filter_le _ _) h.all
 ·rw[he]at hz;exact h.entry (List.mem_filter.1 hz).1
 ·rcases List.mem_cons.1 hl with rfl|hl
  ·exact Ee P (h.rises (List.mem_cons_self ..))
  ·obtain⟨hl,_⟩:=List.mem_filter.1 (show l∈CZ P b.runs from hl)
   obtain⟨r,hr,rfl⟩:=List.mem_map.1 hl
   exact Ee P (h.rises (List.mem_cons_of_mem _ hr))
 ·obtain⟨_,hl⟩:=List.mem_filter.1 (show r∈CZ P b.runs from hr)
  exact of_decide_eq_true hl
 ·rw[he]
  exact h.once.sublist (List.filter_sublist.map _)
def x0:BX:=⟨none,0,((none,0,0),[]),[]⟩
end bf
namespace pl
open Go.ChangeShapes Go.WideShapes Go.ChangeAt Go.RowKit
open vl
end pl
namespace bt
open Go.ChangeShapes Go.WideShapes Go.ChangeAt Go.RowKit
open vl pl
end bt
namespace bt
open vl pl
def Cs(n:Nat):List Cel:=List.replicate n ⟨0,0,⟨#[]⟩⟩
end bt
namespace bt
open Go.ChangeShapes Go.WideShapes Go.ChangeAt Go.RowKit
open vl pl
theorem WN:(Tryz.prog.info? 103).map (fun i=>(i.zero,i.size,i.bytes))=some (some (.agg #[.int .i64 0,.int .i64 0,.string ⟨#[]⟩]),3,32):=by kernel_rfl
theorem Sq(n:Nat)(w:World)(hn:n<=400):
 (Instr.makeSlice 41 (.int .i64 (n:Int)) (.int .i64 (n:Int))).run Tryz.prog w= .ok (.slice (some ⟨w.heap.size,0,none⟩) n n) (w.alloc (.cells (madeCells #[.int .i64 0,.int .i64 0,.string ⟨#[]⟩] (n * 3)) 103)):=by
 have hI:=WN
 cases hi:Tryz.prog.info? 103 with
 |none=>rw[hi]at hI;cases hI
 |some i=>
  rw[hi]at hI
  simp only[Option.map_some,Option.some.injEq,Prod.mk.injEq]at hI
  obtain⟨hz,hs,hb⟩:=hI
  have:=run_makeSlice (P:=Tryz.prog) (w:=w) 41 103 i _ underlying41 hi hz .i64 .i64 n n (by omega) (Int.le_refl _) (by rw[hs];simp;omega) (by rw[hb];omega) (by omega)
  rw[hs,Int.toNat_natCast]at this
  exact this
theorem Sr(n:Nat)(w:World)(h1:1<=n)(h4:n<=4):vl.rowAt (w.alloc (.cells (madeCells #[.int .i64 0,.int .i64 0,.string ⟨#[]⟩] (n * 3)) 103)) (some ⟨w.heap.size,0,none⟩) (Cs n):=by
 have m1:madeCells #[.int .i64 0,.int .i64 0,.string ⟨#[]⟩] (1 * 3)=#[.int .i64 0,.int .i64 0,.string ⟨#[]⟩]:=by kernel_rfl
 have m2:madeCells #[.int .i64 0,.int .i64 0,.string ⟨#[]⟩] (2 * 3)=#[.int .i64 0,.int .i64 0,.string ⟨#[]⟩,.int .i64 0,.int .i64 0,.string ⟨#[]⟩]:=by kernel_rfl
 have m3:madeCells #[.int .i64 0,.int .i64 0,.string ⟨#[]⟩] (3 * 3)=#[.int .i64 0,.int .i64 0,.string ⟨#[]⟩,.int .i64 0,.int .i64 0,.string ⟨#[]⟩,.int .i64 0,.int .i64 0,.string ⟨#[]⟩]:=by kernel_rfl
 have m4:madeCells #[.int .i64 0,.int .i64 0,.string ⟨#[]⟩] (4 * 3)=#[.int .i64 0,.int .i64 0,.string ⟨#[]⟩,.int .i64 0,.int .i64 0,.string ⟨#[]⟩,.int .i64 0,.int .i64 0,.string ⟨#[]⟩,.int .i64 0,.int .i64 0,.string ⟨#[]⟩]:=by kernel_rfl
 have hn:n=1\/n=2\/n=3\/n=4:=by omega
 intro i hi
 have hi':i<n:=by simpa[Cs]using hi
 refine⟨_,_,rfl,?_⟩
 have e:(Cs n).getD i default=⟨0,0,⟨#[]⟩⟩:=by simp[Cs,gDe,hi']
 rw[e]
 have hj:i=0\/i=1\/i=2\/i=3:=by omega
 rcases hn with rfl|rfl|rfl|rfl<;>rcases hj with rfl|rfl|rfl|rfl<;>first|(exact absurd hi' (by decide))|((first|rw[m1]|rw[m2]|rw[m3]|rw[m4]);clear m1 m2 m3 m4;refine⟨?_,?_,?_⟩<;>go_simp)
theorem QA(p:Pln)(x:PA)(side:Int)(w:World)(h1:1<=(A1 p side).length)(h4:(A1 p side).length<=4):
 Calls Tryz.prog 275 #[As p x,.int .i64 side] w fun e w'=>(∃gb,e= .returned (.slice (some ⟨gb,0,none⟩) (A1 p side).length (A1 p side).length)/\w.heap.size<=gb/\vl.rowAt w' (some ⟨gb,0,none⟩) (Cs (A1 p side).length))/\Bwz w w':=by
 have K1:=hIz (fun(w1:World)=>IA p x side w1)
 have HC:Hid (∀w1,vl.rowAt (World.alloc w1 (.cells (madeCells #[.int .i64 0,.int .i64 0,.string ⟨#[]⟩] ((A1 p side).length * 3)) 103)) (some ⟨w1.heap.size,0,none⟩) (Cs (A1 p side).length)):=fun w1=>Sr _ w1 h1 h4
 have HM:Hid (∀w1,(Instr.makeSlice 41 (.int .i64 ((A1 p side).length:Int)) (.int .i64 ((A1 p side).length:Int))).run Tryz.prog w1= .ok (.slice (some ⟨w1.heap.size,0,none⟩) (A1 p side).length (A1 p side).length) (w1.alloc (.cells (madeCells #[.int .i64 0,.int .i64 0,.string ⟨#[]⟩] ((A1 p side).length * 3)) 103))):=fun w1=>Sq _ w1 (by omega)
 obtain⟨n,hn⟩:∃n,(A1 p side).length=n:=⟨_,rfl⟩
 obtain⟨ca,hca⟩:=nM (cA x side)
 obtain⟨cc,hcc⟩:=nM (cC x side)
 rw[hn]at HC HM⊢
 rw[hn,hca,hcc]at K1
 clear hn hca hcc h1 h4
 obtain⟨kind,mode,low,high,size,limit,left,right,lkeys,rkeys,grouped,group,aggs⟩:=p
 obtain⟨l,lc,rr,rc,lk,lkc,rk,rkc,g,gc,a,ac⟩:=x
 unfold As at K1⊢
 dsimp only at K1⊢
 obtain⟨n6,h6⟩:∃n,left.length=n:=⟨_,rfl⟩
 obtain⟨n7,h7⟩:∃n,right.length=n:=⟨_,rfl⟩
 obtain⟨n8,h8⟩:∃n,lkeys.length=n:=⟨_,rfl⟩
 obtain⟨n9,h9⟩:∃n,rkeys.length=n:=⟨_,rfl⟩
 obtain⟨n11,h11⟩:∃n,group.length=n:=⟨_,rfl⟩
 obtain⟨n12,h12⟩:∃n,aggs.length=n:=⟨_,rfl⟩
 rw[h6,h7,h8,h9,h11,h12]at K1
 rw[h6,h7,h8,h9,h11,h12]
 clear h6 h7 h8 h9 h11 h12
 go_enter func275,ntmps275
 go_wp2_with fail
 refine(K1.out _).mono ?_
 rintro e w1 ⟨rfl,hb1⟩
 have hba:=(bR.alloc nR _).trans (hb1.mono (by simp))
 have hm:=HM.out w1
 have hs:=hba.size
 go_wp2
 go_ret
 exact⟨⟨_,rfl,hs,HC.out w1⟩,hba.alloc hs _⟩
end bt
end Go.Proofs.YtdohnkkbkfhphaaGreat
