import Derived.Test.YtdohnkkbkfhphaaGreatPc45
set_option linter.all false
set_option maxHeartbeats 16000000
set_option maxRecDepth 100000
namespace Go.Proofs.YtdohnkkbkfhphaaGreat
namespace jn
open Go.RowKit
open vl bf
end jn
namespace jn
open Go.ChangeShapes Go.WideShapes Go.ChangeAt Go.RowKit
open vl bf
attribute [local go_sem] Oper.semAt_some
theorem Qy(p:pl.Pln):Yl (startJ p):=by
 unfold startJ
 split
 ·exact⟨⟨fun l hl=>by rw[List.mem_singleton.1 hl];exact Nat.zero_le _,fun y hy=>absurd hy List.not_mem_nil⟩,⟨fun l hl=>by rw[List.mem_singleton.1 hl];exact Nat.zero_le _,fun y hy=>absurd hy List.not_mem_nil⟩⟩
 ·exact⟨⟨fun l hl=>by rw[List.mem_singleton.1 hl];exact Nat.zero_le _,fun y hy=>absurd hy List.not_mem_nil⟩,⟨fun l hl=>by rw[List.mem_singleton.1 hl];exact Nat.zero_le _,fun y hy=>absurd hy List.not_mem_nil⟩⟩
theorem Ll(p:pl.Pln)(w:World):joinAt w (startJ p) jx0:=by
 have key:∀n:Int,joinAt w ⟨⟨n,[],[]⟩,⟨n,[],[]⟩,(startJ p).lm,(startJ p).rm,(startJ p).seq⟩ jx0:=fun n=>jAt.at (s0:=j0) (y0:=jx0) (w:=w) (wr:=w) ⟨bR,.inr ⟨Ch (CA nR),Ch (CA nR)⟩⟩
 by_cases h:pl.Al p=0
 ·exact Fx h w
 ·have e:startJ p=j0:=if_neg h
  have:=key 0
  rw[e]at this⊢
  exact this
theorem OL(p:pl.Pln)(x:pl.PA)(s:Jn)(y:JX)(w:World)(hw:pl.wfPlan p)(hp:pl.planAt w p x)(h:joinAt w s y)(hwf:wfJ s)(hE:∀z∈Ab s.L++Ab s.R,wfE z/\z.key.size<=140737488355328/\z.row.length<=2000000):
 Calls Tryz.prog 3 #[pl.Ap p x,joinV s y] w fun e w'=>e= .returned (.bool true)/\Bwz w w':=by
 have hmx:Tryz.prog.follows .mixedOrders=true:=rfl
 have KS:=hIz (fun(w1:World) (hb:Bwz w w1)=>Ms p x w1 hw (pl.Af hp hb))
 have KP:=hIz (fun(w1:World) (hb:Bwz w w1)=>pl.GF p x w1 hw (pl.Af hp hb))
 have KO:Hid (pl.Al p=0->∀w1,CTz 11 #[.agg #[.int .i64 p.kind,.int .i64 p.mode,.int .i64 p.low,.int .i64 p.high,.int .i64 p.size,.int .i64 p.limit,.slice x.l p.left.length x.lc,.slice x.r p.right.length x.rc,.slice x.lk p.lkeys.length x.lkc,.slice x.rk p.rkeys.length x.rkc,.bool p.grouped,.slice x.g p.group.length x.gc,.slice x.a p.aggs.length x.ac]] w1 fun e w'=>e= .returned (joinV (startJ p) jx0)/\Bwz w1 w'):=fun h0 w1=>Ph p x w1 h0
 have KC0:=hIz (fun(w1:World) (hb:Bwz w w1)=>jn.Bn p x s y w1 hw (pl.Af hp hb) (h.below hb) hwf)
 have KR0:=hIz (fun(w1:World) (hb:Bwz w w1)=>Pj p x s y w1 hw (pl.Af hp hb) (h.below hb) hE hwf.l.size hwf.r.size)
 have KSJ:Hid (∀w1,CTz 13 #[.agg #[.int .i64 (startJ p).L.lim,.slice jx0.l.m.1.1 jx0.l.m.1.2.1 jx0.l.m.1.2.2,.slice jx0.l.ra jx0.l.rs.length jx0.l.rc,.int .i64 (startJ p).R.lim,.slice jx0.r.m.1.1 jx0.r.m.1.2.1 jx0.r.m.1.2.2,.slice jx0.r.ra jx0.r.rs.length jx0.r.rc,.int .i64 (startJ p).lm,.int .i64 (startJ p).rm,.int .i64 (startJ p).seq],.agg #[.int .i64 (startJ p).L.lim,.slice jx0.l.m.1.1 jx0.l.m.1.2.1 jx0.l.m.1.2.2,.slice jx0.l.ra jx0.l.rs.length jx0.l.rc,.int .i64 (startJ p).R.lim,.slice jx0.r.m.1.1 jx0.r.m.1.2.1 jx0.r.m.1.2.2,.slice jx0.r.ra jx0.r.rs.length jx0.r.rc,.int .i64 (startJ p).lm,.int .i64 (startJ p).rm,.int .i64 (startJ p).seq]] w1 fun e w'=>e= .returned (.bool true)/\Bwz w1 w'):=fun w1=>VH (startJ p) jx0 jx0 w1 (Ll p w1) (Ll p w1) (Qy p)
 have HJ0:Hid (pl.Al p≠0->startJ p=j0):=fun h0=>if_neg h0
 unfold pl.Ap
 rw[A6]
 obtain⟨pe,hpe⟩:=nM (pl.Al p)
 rw[hpe]at KS KP KO HJ0
 obtain⟨je,hje⟩:=nM (BB p s)
 rw[hje]at KC0 KR0
 clear hw hp h hwf hE hpe hje
 go_enter Tryz.func3,Tryz.ntmps3
 go_wp2_with fail
 generalize hV:(World.alloc (World.alloc w _) _)=V
 have hb0:Bwz w V:=by rw[<-hV];exact(bR.alloc nR _).alloc (by simp) _
 have HB:Hid (Br V w.heap.size p x/\AU V (w.heap.size+1) s y):=by
  subst hV
  refine⟨Aj (CM ..) (bR.alloc nR _),?_⟩
  have:=Bo (w.alloc (.cells #[.int .i64 p.kind,.int .i64 p.mode,.int .i64 p.low,.int .i64 p.high,.int .i64 p.size,.int .i64 p.limit,.slice x.l p.left.length x.lc,.slice x.r p.right.length x.rc,.slice x.lk p.lkeys.length x.lkc,.slice x.rk p.rkeys.length x.rkc,.bool p.grouped,.slice x.g p.group.length x.gc,.slice x.a p.aggs.length x.ac] 25)) s y 31
  rw[World.size_alloc]at this
  exact this
 clear hV
 refine(KS.out _ hb0).mono ?_
 rintro e w1 ⟨rfl,hb1⟩
 have bw1:Bwz w w1:=hb0.trans (hb1.mono hb0.size)
 replace HB:Hid (Br w1 w.heap.size p x/\AU w1 (w.heap.size+1) s y):=⟨Aj HB.out.1 hb1,Ag HB.out.2 hb1⟩
 clear KS hb0 hb1
 rw[A6]
 go_upto_region 2 with fail
 generalize hV:(World.alloc w1 _)=w2
 have hb2:Bwz w1 w2:=by rw[<-hV];exact bR.alloc nR _
 obtain⟨nb,hnb⟩:=nM w1.heap.size
 have HN:Hid (AU w2 nb (startJ p) jx0):=by
  subst hV
  rw[<-hnb]
  exact Bo ..
 have bw2:Bwz w w2:=bw1.trans (hb2.mono bw1.size)
 replace HB:Hid (Br w2 w.heap.size p x/\AU w2 (w.heap.size+1) s y):=⟨Aj HB.out.1 hb2,Ag HB.out.2 hb2⟩
 rw[hnb]
 clear hV hb2 bw1 hnb
 obtain⟨v0,v1,v2,v3,v4,v5,v6,v7,v8,v9,v10,v11,v12⟩:=HB.out.1
 go_wp2_with fail
 refine(KP.out _ bw2).mono ?_
 rintro e w3 ⟨rfl,hb3⟩
 have bw3:Bwz w w3:=bw2.trans (hb3.mono bw2.size)
 replace HB:Hid (Br w3 w.heap.size p x/\AU w3 (w.heap.size+1) s y):=⟨Aj HB.out.1 hb3,Ag HB.out.2 hb3⟩
 replace HN:Hid (AU w3 nb (startJ p) jx0):=Ag HN.out hb3
 clear v0 v1 v2 v3 v4 v5 v6 v7 v8 v9 v10 v11 v12 hb3 bw2 KP
 go_upto_region 4 with fail
 generalize hV:(World.alloc w3 _)=w4
 have hb4:Bwz w3 w4:=by rw[<-hV];exact bR.alloc nR _
 obtain⟨wb,hwb⟩:=nM w3.heap.size
 have HZ:Hid (noJ w4 wb/\AU w4 wb j0 jx0):=by
  subst hV
  rw[<-hwb]
  exact⟨Ef w3,Bo w3 j0 jx0 31⟩
 have lwb:w.heap.size<=wb/\w.heap.size+1<wb/\nb<wb:=by
  rw[<-hwb]
  exact⟨bw3.size,bLt _ _ HB.out.2.1,bLt _ _ HN.out.1⟩
 have bw4:Bwz w w4:=bw3.trans (hb4.mono bw3.size)
 replace HB:Hid (Br w4 w.heap.size p x/\AU w4 (w.heap.size+1) s y):=⟨Aj HB.out.1 hb4,Ag HB.out.2 hb4⟩
 replace HN:Hid (AU w4 nb (startJ p) jx0):=Ag HN.out hb4
 rw[hwb]
 clear hV hb4 bw3 hwb
 by_cases h0:pe=0
 ·subst h0
  obtain⟨v0,v1,v2,v3,v4,v5,v6,v7,v8,v9,v10,v11,v12⟩:=HB.out.1
  go_wp2_with fail
  refine(KO.out (by trivial) _).mono ?_
  rintro e w5 ⟨rfl,hb5⟩
  have bw5:Bwz w w5:=bw4.trans (hb5.mono bw4.size)
  clear v0 v1 v2 v3 v4 v5 v6 v7 v8 v9 v10 v11 v12
  replace HZ:Hid (noJ w5 wb):=AV HZ.out.1 hb5
  have HR:Hid ((World.setCells w5 wb 0 [.int .i64 (startJ p).L.lim,.slice jx0.l.m.1.1 jx0.l.m.1.2.1 jx0.l.m.1.2.2,.slice jx0.l.ra jx0.l.rs.length jx0.l.rc,.int .i64 (startJ p).R.lim,.slice jx0.r.m.1.1 jx0.r.m.1.2.1 jx0.r.m.1.2.2,.slice jx0.r.ra jx0.r.rs.length jx0.r.rc,.int .i64 (startJ p).lm,.int .i64 (startJ p).rm,.int .i64 (startJ p).seq]).rangeAt wb 0 [.int .i64 (startJ p).L.lim,.slice jx0.l.m.1.1 jx0.l.m.1.2.1 jx0.l.m.1.2.2,.slice jx0.l.ra jx0.l.rs.length jx0.l.rc,.int .i64 (startJ p).R.lim,.slice jx0.r.m.1.1 jx0.r.m.1.2.1 jx0.r.m.1.2.2,.slice jx0.r.ra jx0.r.rs.length jx0.r.rc,.int .i64 (startJ p).lm,.int .i64 (startJ p).rm,.int .i64 (startJ p).seq]):=C0 HZ.out rfl
  have HB9:Hid (Below wb w5 (World.setCells w5 wb 0 [.int .i64 (startJ p).L.lim,.slice jx0.l.m.1.1 jx0.l.m.1.2.1 jx0.l.m.1.2.2,.slice jx0.l.ra jx0.l.rs.length jx0.l.rc,.int .i64 (startJ p).R.lim,.slice jx0.r.m.1.1 jx0.r.m.1.2.1 jx0.r.m.1.2.2,.slice jx0.r.ra jx0.r.rs.length jx0.r.rc,.int .i64 (startJ p).lm,.int .i64 (startJ p).rm,.int .i64 (startJ p).seq])):=below_setCells nR _ 0 _ bR
  have HNB:Hid (Br w5 w.heap.size p x/\AU w5 (w.heap.size+1) s y/\AU w5 nb (startJ p) jx0):=⟨Aj HB.out.1 hb5,Ag HB.out.2 hb5,Ag HN.out hb5⟩
  clear HB HN
  rw[A6]
  go_upto_region 6 with((with_reducible refine wpList_store_mid ?_ 31 (.tmp 8) (.tmp 19) ?_ wb 0 #[.int .i64 (startJ p).L.lim,.slice jx0.l.m.1.1 jx0.l.m.1.2.1 jx0.l.m.1.2.2,.slice jx0.l.ra jx0.l.rs.length jx0.l.rc,.int .i64 (startJ p).R.lim,.slice jx0.r.m.1.1 jx0.r.m.1.2.1 jx0.r.m.1.2.2,.slice jx0.r.ra jx0.r.rs.length jx0.r.rc,.int .i64 (startJ p).lm,.int .i64 (startJ p).rm,.int .i64 (startJ p).seq] ?_ ?_ ?_ ?_ ?_ ?_);exact rfl;exact rfl;exact rfl;exact rfl;exact HZ.out;exact E4;exact(by simp[Value.oneCell']))
  generalize (World.setCells w5 wb 0 [.int .i64 (startJ p).L.lim,.slice jx0.l.m.1.1 jx0.l.m.1.2.1 jx0.l.m.1.2.2,.slice jx0.l.ra jx0.l.rs.length jx0.l.rc,.int .i64 (startJ p).R.lim,.slice jx0.r.m.1.1 jx0.r.m.1.2.1 jx0.r.m.1.2.2,.slice jx0.r.ra jx0.r.rs.length jx0.r.rc,.int .i64 (startJ p).lm,.int .i64 (startJ p).rm,.int .i64 (startJ p).seq])=W at HR HB9⊢
  have bW:Bwz w W:=bw5.trans (HB9.out.mono lwb.1)
  have HWT:Hid (AU W wb (startJ p) jx0):=by
   have z:=HR.out
   exact⟨z 0 _ rfl,z 1 _ rfl,z 2 _ rfl,z 3 _ rfl,z 4 _ rfl,z 5 _ rfl,z 6 _ rfl,z 7 _ rfl,z 8 _ rfl⟩
  have low:∀{b o:Nat} {v:Value},b<wb->w5.cell? ⟨b,o,none⟩=some v->W.cell? ⟨b,o,none⟩=some v:=fun hb hc=>(HB9.out.cell (p:=⟨_,_,none⟩) hb).trans hc
  have HBW:Hid (Br W w.heap.size p x/\AU W (w.heap.size+1) s y/\AU W nb (startJ p) jx0):=by
   obtain⟨hP,hJ,hN⟩:=HNB.out
   obtain⟨v0,v1,v2,v3,v4,v5,v6,v7,v8,v9,v10,v11,v12⟩:=hP
   obtain⟨c0,c1,c2,c3,c4,c5,c6,c7,c8⟩:=hJ
   obtain⟨d0,d1,d2,d3,d4,d5,d6,d7,d8⟩:=hN
   have l1:w.heap.size<wb:=by omega
   exact⟨⟨low l1 v0,low l1 v1,low l1 v2,low l1 v3,low l1 v4,low l1 v5,low l1 v6,low l1 v7,low l1 v8,low l1 v9,low l1 v10,low l1 v11,low l1 v12⟩,⟨low lwb.2.1 c0,low lwb.2.1 c1,low lwb.2.1 c2,low lwb.2.1 c3,low lwb.2.1 c4,low lwb.2.1 c5,low lwb.2.1 c6,low lwb.2.1 c7,low lwb.2.1 c8⟩,low lwb.2.2 d0,low lwb.2.2 d1,low lwb.2.2 d2,low lwb.2.2 d3,low lwb.2.2 d4,low lwb.2.2 d5,low lwb.2.2 d6,low lwb.2.2 d7,low lwb.2.2 d8⟩
  have SK:Hid (∀w',Bwz W w'->Br w' w.heap.size p x/\AU w' (w.heap.size+1) s y/\AU w' nb (startJ p) jx0/\AU w' wb (startJ p) jx0):=fun w' hz=>⟨Aj HBW.out.1 hz,Ag HBW.out.2.1 hz,Ag HBW.out.2.2 hz,Ag HWT.out hz⟩
  have KCH:Hid (∀w1,Bwz W w1->CTz 14 #[.agg #[.int .i64 p.kind,.int .i64 p.mode,.int .i64 p.low,.int .i64 p.high,.int .i64 p.size,.int .i64 p.limit,.slice x.l p.left.length x.lc,.slice x.r p.right.length x.rc,.slice x.lk p.lkeys.length x.lkc,.slice x.rk p.rkeys.length x.rkc,.bool p.grouped,.slice x.g p.group.length x.gc,.slice x.a p.aggs.length x.ac],.agg #[.int .i64 s.L.lim,.slice y.l.m.1.1 y.l.m.1.2.1 y.l.m.1.2.2,.slice y.l.ra y.l.rs.length y.l.rc,.int .i64 s.R.lim,.slice y.r.m.1.1 y.r.m.1.2.1 y.r.m.1.2.2,.slice y.r.ra y.r.rs.length y.r.rc,.int .i64 s.lm,.int .i64 s.rm,.int .i64 s.seq]] w1 fun e w'=>e= .returned (.int .i64 je)/\Bwz w1 w'):=fun w1 hb=>KC0.out w1 (bW.trans (hb.mono bW.size))
  have KRC:Hid (∀w1,Bwz W w1->CTz 15 #[.agg #[.int .i64 p.kind,.int .i64 p.mode,.int .i64 p.low,.int .i64 p.high,.int .i64 p.size,.int .i64 p.limit,.slice x.l p.left.length x.lc,.slice x.r p.right.length x.rc,.slice x.lk p.lkeys.length x.lkc,.slice x.rk p.rkeys.length x.rkc,.bool p.grouped,.slice x.g p.group.length x.gc,.slice x.a p.aggs.length x.ac],.agg #[.int .i64 s.L.lim,.slice y.l.m.1.1 y.l.m.1.2.1 y.l.m.1.2.2,.slice y.l.ra y.l.rs.length y.l.rc,.int .i64 s.R.lim,.slice y.r.m.1.1 y.r.m.1.2.1 y.r.m.1.2.2,.slice y.r.ra y.r.rs.length y.r.rc,.int .i64 s.lm,.int .i64 s.rm,.int .i64 s.seq]] w1 fun e w'=>e= .returned (.int .i64 je)/\Bwz w1 w'):=fun w1 hb=>KR0.out w1 (bW.trans (hb.mono bW.size))
  clear low HNB HBW HWT HR HB9 HZ KO HJ0 KC0 KR0 bw4 bw5 hb5
  refine gr.BI (S:=fun w'=>Br w' w.heap.size p x/\AU w' (w.heap.size+1) s y/\AU w' nb (startJ p) jx0/\AU w' wb (startJ p) jx0) 21 rfl hmx (SK.out _ bR.drew) ?_
  intro hHz
  refine wpAnyH_ready (rs:=[0]) (by kernel_rfl) (by simp) ?_
  refine AllReadyH.cons rfl (fun K hK=>?_) AllReadyH.nil
  go_simp
  go_at_call 12
  (with_reducible refine(MC _).mono ?_)
  rintro e x1 ⟨rfl,hx1⟩
  have nx1:Bwz W x1:=(Below.refl W.heap.size W).drew.trans (hx1.mono (Below.refl W.heap.size W).drew.size)
  go_wp2_with fail
  refine hK.out _ _ (SK.out _ nx1) (fun hHz=>?_)
  clear hK K
  try simp only[Act.put,sI,sZ,sSz]
  refine tkz 1 21 hHz ?_;refine tkz 2 22 hHz ?_;refine tkz 3 23 hHz ?_;refine tkz 4 24 hHz ?_;refine tkz 5 25 hHz ?_;refine tkz 6 26 hHz ?_
  refine tkz 7 27 hHz ?_ (hy:=by intro w' hSw;(try dsimp only at hSw);obtain⟨u0,u1,u2,u3,u4,u5,u6,u7,u8⟩:=hSw.2.2.1;first|(go_simp;done)|(go_simp;with_reducible rfl))
  refine tkz 8 28 hHz ?_ (hy:=by intro w' hSw;(try dsimp only at hSw);obtain⟨u0,u1,u2,u3,u4,u5,u6,u7,u8⟩:=hSw.2.2.2;first|(go_simp;done)|(go_simp;with_reducible rfl))
  refine wpAnyH_ready (rs:=[9]) (by kernel_rfl) (by simp) ?_
  refine AllReadyH.cons rfl (fun K hK=>?_) AllReadyH.nil
  go_simp
  go_at_call 13
  (with_reducible refine(KSJ.out _).mono ?_)
  rintro e x2 ⟨rfl,hx2⟩
  have nx2:Bwz W x2:=nx1.trans (hx2.mono nx1.size)
  go_wp2_with fail
  refine hK.out _ _ (SK.out _ nx2) (fun hHz=>?_)
  clear hK K
  try simp only[Act.put,sI,sZ,sSz]
  refine tkz 10 30 hHz ?_;refine tkz 11 31 hHz ?_
  refine tkz 12 32 hHz ?_ (hy:=by intro w' hSw;(try dsimp only at hSw);obtain⟨v0,v1,v2,v3,v4,v5,v6,v7,v8,v9,v10,v11,v12⟩:=hSw.1;first|(go_simp;done)|(go_simp;with_reducible rfl))
  refine tkz 13 33 hHz ?_ (hy:=by intro w' hSw;(try dsimp only at hSw);obtain⟨u0,u1,u2,u3,u4,u5,u6,u7,u8⟩:=hSw.2.1;first|(go_simp;done)|(go_simp;with_reducible rfl))
  refine tkz 15 35 hHz ?_ (hy:=by intro w' hSw;(try dsimp only at hSw);obtain⟨v0,v1,v2,v3,v4,v5,v6,v7,v8,v9,v10,v11,v12⟩:=hSw.1;first|(go_simp;done)|(go_simp;with_reducible rfl))
  refine tkz 16 36 hHz ?_ (hy:=by intro w' hSw;(try dsimp only at hSw);obtain⟨u0,u1,u2,u3,u4,u5,u6,u7,u8⟩:=hSw.2.1;first|(go_simp;done)|(go_simp;with_reducible rfl))
  refine wpAnyH_ready (rs:=[14]) (by kernel_rfl) (by simp) ?_
  refine AllReadyH.cons rfl (fun K hK=>?_) AllReadyH.nil
  go_simp
  go_at_call 14
  (with_reducible refine(KCH.out _ nx2).mono ?_)
  rintro e x3 ⟨rfl,hx3⟩
  have nx3:Bwz W x3:=nx2.trans (hx3.mono nx2.size)
  go_wp2_with fail
  refine hK.out _ _ (SK.out _ nx3) (fun hHz=>?_)
  clear hK K
  try simp only[Act.put,sI,sZ,sSz]
  refine wpAnyH_ready (rs:=[17]) (by kernel_rfl) (by simp) ?_
  refine AllReadyH.cons rfl (fun K hK=>?_) AllReadyH.nil
  go_simp
  go_at_call 15
  (with_reducible refine(KRC.out _ nx3).mono ?_)
  rintro e x4 ⟨rfl,hx4⟩
  have nx4:Bwz W x4:=nx3.trans (hx4.mono nx3.size)
  go_wp2_with fail
  refine hK.out _ _ (SK.out _ nx4) (fun hHz=>?_)
  clear hK K
  try simp only[Act.put,sI,sZ,sSz]
  refine tkz 18 38 hHz ?_;refine tkz 19 39 hHz ?_;refine tkz 20 4 hHz ?_
  refine wpAnyH_done (by kernel_rfl) ?_ _
  go_wp2
  go_ret
  exact⟨by simp,bW.trans (nx4.mono bW.size)⟩
 ·have hne:(pe==0)=false:=by simpa using h0
  have HWT:Hid (AU w4 wb (startJ p) jx0):=by
   rw[HJ0.out h0]
   exact HZ.out.2
  obtain⟨W,hW⟩:=nM w4
  rw[hW]at HB HN HWT bw4⊢
  have bW:Bwz w W:=bw4
  have SK:Hid (∀w',Bwz W w'->Br w' w.heap.size p x/\AU w' (w.heap.size+1) s y/\AU w' nb (startJ p) jx0/\AU w' wb (startJ p) jx0):=fun w' hz=>⟨Aj HB.out.1 hz,Ag HB.out.2 hz,Ag HN.out hz,Ag HWT.out hz⟩
  have KCH:Hid (∀w1,Bwz W w1->CTz 14 #[.agg #[.int .i64 p.kind,.int .i64 p.mode,.int .i64 p.low,.int .i64 p.high,.int .i64 p.size,.int .i64 p.limit,.slice x.l p.left.length x.lc,.slice x.r p.right.length x.rc,.slice x.lk p.lkeys.length x.lkc,.slice x.rk p.rkeys.length x.rkc,.bool p.grouped,.slice x.g p.group.length x.gc,.slice x.a p.aggs.length x.ac],.agg #[.int .i64 s.L.lim,.slice y.l.m.1.1 y.l.m.1.2.1 y.l.m.1.2.2,.slice y.l.ra y.l.rs.length y.l.rc,.int .i64 s.R.lim,.slice y.r.m.1.1 y.r.m.1.2.1 y.r.m.1.2.2,.slice y.r.ra y.r.rs.length y.r.rc,.int .i64 s.lm,.int .i64 s.rm,.int .i64 s.seq]] w1 fun e w'=>e= .returned (.int .i64 je)/\Bwz w1 w'):=fun w1 hb=>KC0.out w1 (bW.trans (hb.mono bW.size))
  have KRC:Hid (∀w1,Bwz W w1->CTz 15 #[.agg #[.int .i64 p.kind,.int .i64 p.mode,.int .i64 p.low,.int .i64 p.high,.int .i64 p.size,.int .i64 p.limit,.slice x.l p.left.length x.lc,.slice x.r p.right.length x.rc,.slice x.lk p.lkeys.length x.lkc,.slice x.rk p.rkeys.length x.rkc,.bool p.grouped,.slice x.g p.group.length x.gc,.slice x.a p.aggs.length x.ac],.agg #[.int .i64 s.L.lim,.slice y.l.m.1.1 y.l.m.1.2.1 y.l.m.1.2.2,.slice y.l.ra y.l.rs.length y.l.rc,.int .i64 s.R.lim,.slice y.r.m.1.1 y.r.m.1.2.1 y.r.m.1.2.2,.slice y.r.ra y.r.rs.length y.r.rc,.int .i64 s.lm,.int .i64 s.rm,.int .i64 s.seq]] w1 fun e w'=>e= .returned (.int .i64 je)/\Bwz w1 w'):=fun w1 hb=>KR0.out w1 (bW.trans (hb.mono bW.size))
  clear hW bw4 HB HN HWT HZ KO HJ0 h0 KC0 KR0
  go_upto_region 6 with fail
  refine gr.BI (S:=fun w'=>Br w' w.heap.size p x/\AU w' (w.heap.size+1) s y/\AU w' nb (startJ p) jx0/\AU w' wb (startJ p) jx0) 21 rfl hmx (SK.out _ bR.drew) ?_
  intro hHz
  refine wpAnyH_ready (rs:=[0]) (by kernel_rfl) (by simp) ?_
  refine AllReadyH.cons rfl (fun K hK=>?_) AllReadyH.nil
  go_simp
  go_at_call 12
  (with_reducible refine(MC _).mono ?_)
  rintro e x1 ⟨rfl,hx1⟩
  have nx1:Bwz W x1:=(Below.refl W.heap.size W).drew.trans (hx1.mono (Below.refl W.heap.size W).drew.size)
  go_wp2_with fail
  refine hK.out _ _ (SK.out _ nx1) (fun hHz=>?_)
  clear hK K
  try simp only[Act.put,sI,sZ,sSz]
  refine tkz 1 21 hHz ?_;refine tkz 2 22 hHz ?_;refine tkz 3 23 hHz ?_;refine tkz 4 24 hHz ?_;refine tkz 5 25 hHz ?_;refine tkz 6 26 hHz ?_
  refine tkz 7 27 hHz ?_ (hy:=by intro w' hSw;(try dsimp only at hSw);obtain⟨u0,u1,u2,u3,u4,u5,u6,u7,u8⟩:=hSw.2.2.1;first|(go_simp;done)|(go_simp;with_reducible rfl))
  refine tkz 8 28 hHz ?_ (hy:=by intro w' hSw;(try dsimp only at hSw);obtain⟨u0,u1,u2,u3,u4,u5,u6,u7,u8⟩:=hSw.2.2.2;first|(go_simp;done)|(go_simp;with_reducible rfl))
  refine wpAnyH_ready (rs:=[9]) (by kernel_rfl) (by simp) ?_
  refine AllReadyH.cons rfl (fun K hK=>?_) AllReadyH.nil
  go_simp
  go_at_call 13
  (with_reducible refine(KSJ.out _).mono ?_)
  rintro e x2 ⟨rfl,hx2⟩
  have nx2:Bwz W x2:=nx1.trans (hx2.mono nx1.size)
  go_wp2_with fail
  refine hK.out _ _ (SK.out _ nx2) (fun hHz=>?_)
  clear hK K
  try simp only[Act.put,sI,sZ,sSz]
  refine tkz 10 30 hHz ?_;refine tkz 11 31 hHz ?_
  refine tkz 12 32 hHz ?_ (hy:=by intro w' hSw;(try dsimp only at hSw);obtain⟨v0,v1,v2,v3,v4,v5,v6,v7,v8,v9,v10,v11,v12⟩:=hSw.1;first|(go_simp;done)|(go_simp;with_reducible rfl))
  refine tkz 13 33 hHz ?_ (hy:=by intro w' hSw;(try dsimp only at hSw);obtain⟨u0,u1,u2,u3,u4,u5,u6,u7,u8⟩:=hSw.2.1;first|(go_simp;done)|(go_simp;with_reducible rfl))
  refine tkz 15 35 hHz ?_ (hy:=by intro w' hSw;(try dsimp only at hSw);obtain⟨v0,v1,v2,v3,v4,v5,v6,v7,v8,v9,v10,v11,v12⟩:=hSw.1;first|(go_simp;done)|(go_simp;with_reducible rfl))
  refine tkz 16 36 hHz ?_ (hy:=by intro w' hSw;(try dsimp only at hSw);obtain⟨u0,u1,u2,u3,u4,u5,u6,u7,u8⟩:=hSw.2.1;first|(go_simp;done)|(go_simp;with_reducible rfl))
  refine wpAnyH_ready (rs:=[14]) (by kernel_rfl) (by simp) ?_
  refine AllReadyH.cons rfl (fun K hK=>?_) AllReadyH.nil
  go_simp
  go_at_call 14
  (with_reducible refine(KCH.out _ nx2).mono ?_)
  rintro e x3 ⟨rfl,hx3⟩
  have nx3:Bwz W x3:=nx2.trans (hx3.mono nx2.size)
  go_wp2_with fail
  refine hK.out _ _ (SK.out _ nx3) (fun hHz=>?_)
  clear hK K
  try simp only[Act.put,sI,sZ,sSz]
  refine wpAnyH_ready (rs:=[17]) (by kernel_rfl) (by simp) ?_
  refine AllReadyH.cons rfl (fun K hK=>?_) AllReadyH.nil
  go_simp
  go_at_call 15
  (with_reducible refine(KRC.out _ nx3).mono ?_)
  rintro e x4 ⟨rfl,hx4⟩
  have nx4:Bwz W x4:=nx3.trans (hx4.mono nx3.size)
  go_wp2_with fail
  refine hK.out _ _ (SK.out _ nx4) (fun hHz=>?_)
  clear hK K
  try simp only[Act.put,sI,sZ,sSz]
  refine tkz 18 38 hHz ?_;refine tkz 19 39 hHz ?_;refine tkz 20 4 hHz ?_
  refine wpAnyH_done (by kernel_rfl) ?_ _
  go_wp2
  go_ret
  exact⟨by simp,bW.trans (nx4.mono bW.size)⟩
end jn
end Go.Proofs.YtdohnkkbkfhphaaGreat
