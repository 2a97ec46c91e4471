import Derived.Test.YtdohnkkbkfhphaaGreatPc36
set_option linter.all false
set_option maxHeartbeats 8000000
set_option maxRecDepth 100000
namespace Go.Proofs.YtdohnkkbkfhphaaGreat
open Go.Proofs.Tryz
namespace jn
open Go.ChangeShapes Go.WideShapes Go.ChangeAt Go.RowKit
open vl bf
attribute [local go_sem] Oper.semAt_some
variable {b base : Nat} {p : pl.Pln} {x : pl.PA} {s : Jn} {t : Value} {L : List CO} {w : World}
structure stepAt(w0 w':World)(s:Jn)(y:JX)(t:Value)(L:List CO):Prop where
 l:OB w' w0.heap.size y.l s.L
 r:OB w' w0.heap.size y.r s.R
 cg:CG w' w0.heap.size t L
theorem UP{y:JX}(h:boxC w b p x s y t)(hc:CG w base t L):
 Calls Tryz.prog 257 #[.pointer (some ⟨b,0,none⟩)] w fun e w'=>e= .returned (.tuple #[joinV s y,t])/\Bwz w w':=by
 have e:=(CG.chgs hc).1
 rw[e]at h⊢
 exact Vl b p x s y _ _ _ w h
theorem SV{v:Ev}(hg:goodJ p s)(hc:comeJ p s v):goodJ p (FV p s v)/\comeJ p (FV p s v) v:=by
 unfold FV
 split
 ·split
  ·exact⟨hg,hc⟩
  ·have e:Am s 1=s.L:=rfl
   have h1:=Hj hg 1 ((Dx p s v).map (·.seq))
   have h2:=Hk hc 1 ((Dx p s v).map (·.seq))
   rw[e]at h1 h2
   exact⟨h1,h2⟩
 ·exact⟨Hj hg _ _,Hk hc _ _⟩
theorem Fv{w':World}{o n:Nat}(h:w.there b o n)(hs:w'.heap[b]? =w.heap[b]?):w'.there b o n:=fun j hj=>by
 obtain⟨u,hu⟩:=Option.isSome_iff_exists.1 (h j hj).1
 exact⟨by rw[(cOb (w:=w) (a:=⟨b,o+j,none⟩) hs).trans hu];rfl,(World.frozen?_of_block (w:=w) (a:=⟨b,o+j,none⟩) hs).trans (h j hj).2⟩
theorem Ib{base N:Nat}{v:Value}{L:List CO}:∀(l:List Value) (o:Nat) (w:World),CG w base v L->Ar w N 31->CG (w.setCells N o l) base v L
 |[],_,_,h,_=>h
 |u::l,o,w,h,hN=>Ib l (o+1) _ (N0 h hN (by decide) (by decide) o u) (AM hN _ _)
theorem RD{base':Nat}{v:Value}(h:CG w base v L)(hb:base'<=base):CG w base' v L:=by
 have hE:bt.Est w base ((⟨v,55,2,L.length,ch.Bh (L.map CO.pair)⟩:bt.Own1)::L.map fun x=>Cu x.rv x.row):=h
 exact bt.Est.mk (Nat.le_trans hb (bt.Est.low hE)) (fun z hz=>C5 (bt.Est.own hE z hz) hb) (bt.Est.two hE)
theorem step_end{w2 w5 w6:World}{K:Nat}{T:TypeId}{NS:Jn}{y5:JX}{R0:Nat}(hj:JSt w2 w5 K T p x NS y5 t L)(hw2:Bwz w w2)(h6:Bwz w5 w6)(c:Array Value)(hR:w.heap.size<=R0)(hT:Ar w6 R0 31)(l:List Value):
 stepAt w (World.setCells (w6.alloc (.cells c 31)) R0 0 l) NS y5 t L/\Bwz w (World.setCells (w6.alloc (.cells c 31)) R0 0 l):=by
 have hba:Bwz w6 (w6.alloc (.cells c 31)):=bR.alloc nR _
 have h56:Bwz w5 (w6.alloc (.cells c 31)):=h6.trans (hba.mono h6.size)
 have hT2:=Ah hT hba
 refine⟨⟨Bm Ew _ _ _ (Cw (hj.l.below h56) hw2.size) hT2,Bm Ew _ _ _ (Cw (hj.r.below h56) hw2.size) hT2,Ib _ _ _ (RD (hj.cg.below h56) hw2.size) hT2⟩,below_setCells hR _ _ _ ?_⟩
 exact(hw2.trans (hj.bl.mono hw2.size)).trans (h56.mono (Nat.le_trans hw2.size hj.bl.size))
theorem UQ(p:pl.Pln)(x:pl.PA)(s:Jn)(y:JX)(v:Ev)(ra:Option Addr)(rc:Nat)(w:World)(hw:pl.wfPlan p)(hp:pl.planAt w p x)(h:joinAt w s y)(hwf:wfJ s)(hv:evAt w v ra):
 Calls Tryz.prog 16 #[pl.Ap p x,joinV s y,evV v ra rc] w fun e w'=>(∃y' t L,e= .returned (.tuple #[joinV (stepJ p s v).2.1 y',t,.int .i64 (stepJ p s v).1])/\L.map CO.chg=(stepJ p s v).2.2/\stepAt w w' (stepJ p s v).2.1 y' t L)/\Bwz w w':=by
 have KC:=hIz (fun(w1:World) (hb:Bwz w w1)=>jn.Bn p x s y w1 hw (pl.Af hp hb) (h.below hb) hwf)
 have KE:=hIz (fun(w1:World) (hb:Bwz w w1)=>K6 p x s y v ra rc w1 hw (pl.Af hp hb) (h.below hb) hwf (hv.below hb))
 have HS:Hid (stepJ p s v=if BB p s≠0 then(BB p s,j0,[])else if A7 p s v≠0 then(A7 p s v,j0,[])else if v.kind=2 then(0,Cn p (DI s v.side v.time),[])else(0,GA p s v)):=rfl
 have KK:Hid (BB p s=0->∀w1,Bwz w w1->CTz 48 #[pl.Ap p x,joinV s y] w1 fun e w'=> ∃K y',e= .returned (.iface (kindP p.kind) (.pointer (some ⟨K,0,none⟩)))/\JSt w1 w' K (kindT p.kind) p x s y' (.slice none 0 0) []):=fun he w1 hb=>QL p x s y w1 (h.below hb) (Du he).2.L (Du he).2.R
 have KCo:=hIz (fun(w1:World) (hb:Bwz w w1)=>NW p x v ra rc w1 hw (pl.Af hp hb) (hv.below hb))
 have HX:Hid (BB p s=0->goodJ p s/\∃ff fm,KindK p (kindT p.kind) (kindP p.kind) ff fm):=fun he=>by
  obtain⟨h1,h2⟩:=Du he
  exact⟨⟨h2,fun z hz=>by
   rcases List.mem_append.1 hz with hz|hz
   ·exact hwf.l.ents z hz
   ·exact hwf.r.ents z hz⟩,kinds h1⟩
 have HP:Hid (pl.wfPlan p/\(∀w1,Bwz w w1->pl.planAt w1 p x)/\∀w1,Bwz w w1->evAt w1 v ra):=⟨hw,fun w1 hb=>pl.Af hp hb,fun w1 hb=>hv.below hb⟩
 obtain⟨SJ,hSJ⟩:=nM (stepJ p s v)
 rw[hSJ]at HS⊢
 clear hw hp h hwf hv hSJ
 obtain⟨JE,hJE⟩:=nM (BB p s)
 obtain⟨EE,hEE⟩:=nM (A7 p s v)
 have HJE:Hid (BB p s=JE):=hJE
 have HEE:Hid (A7 p s v=EE):=hEE
 rw[hJE]at KC HS KK HX
 rw[hEE]at KE HS
 clear hJE hEE
 unfold pl.Ap at KC KE KK KCo⊢
 rw[A6]at KC KE KK⊢
 unfold evV at KE KCo⊢
 obtain⟨kd,hkd⟩:=nM v.kind
 obtain⟨sd,hsd⟩:=nM v.side
 obtain⟨tm',htm⟩:=nM v.time
 obtain⟨rl,hrl⟩:=nM v.row.length
 have HVE:Hid (v.kind=kd/\v.side=sd/\v.time=tm'/\v.row.length=rl):=⟨hkd,hsd,htm,hrl⟩
 rw[hkd,hsd,htm,hrl]at KE KCo⊢
 rw[hkd,hsd,htm]at HS
 clear hkd hsd htm hrl
 go_enter func16,ntmps16
 go_wp2_with fail
 generalize hV:(World.alloc (World.alloc (World.alloc (World.alloc w _) _) _) _)=V
 have hb0:Bwz w V:=by rw[<-hV];exact(((bR.alloc nR _).alloc (by simp) _).alloc (by simp<;>omega) _).alloc (by simp<;>omega) _
 have HB:Hid (Br V w.heap.size p x):=by
  subst hV
  exact Aj (CM ..) (((bR.alloc nR _).alloc (by simp) _).alloc (by simp<;>omega) _)
 have HJ0:Hid (AU V (w.heap.size+1) s y):=by
  subst hV
  have:=Bo (w.alloc (.cells #[.int .i64 p.kind,.int .i64 p.mode,.int .i64 p.low,.int .i64 p.high,.int .i64 p.size,.int .i64 p.limit,.slice x.l p.left.length x.lc,.slice x.r p.right.length x.rc,.slice x.lk p.lkeys.length x.lkc,.slice x.rk p.rkeys.length x.rkc,.bool p.grouped,.slice x.g p.group.length x.gc,.slice x.a p.aggs.length x.ac] 25)) s y 31
  rw[World.size_alloc]at this
  exact Ag this ((bR.alloc nR _).alloc (by simp) _)
 have HE0:Hid (V.cell? ⟨w.heap.size+1+1,0,none⟩=some (.int .i64 kd)/\V.cell? ⟨w.heap.size+1+1,1,none⟩=some (.int .i64 sd)/\V.cell? ⟨w.heap.size+1+1,2,none⟩=some (.int .i64 tm')/\V.cell? ⟨w.heap.size+1+1,3,none⟩=some (.slice ra rl rc)):=by
  subst hV
  exact⟨by go_simp,by go_simp,by go_simp,by go_simp⟩
 have HZ:Hid (noJ V (w.heap.size+1+1+1)/\Ar V (w.heap.size+1+1+1) 31):=by
  subst hV
  have h1:=Ef (((w.alloc (.cells #[.int .i64 p.kind,.int .i64 p.mode,.int .i64 p.low,.int .i64 p.high,.int .i64 p.size,.int .i64 p.limit,.slice x.l p.left.length x.lc,.slice x.r p.right.length x.rc,.slice x.lk p.lkeys.length x.lkc,.slice x.rk p.rkeys.length x.rkc,.bool p.grouped,.slice x.g p.group.length x.gc,.slice x.a p.aggs.length x.ac] 25)).alloc (.cells #[.int .i64 s.L.lim,.slice y.l.m.1.1 y.l.m.1.2.1 y.l.m.1.2.2,.slice y.l.ra y.l.rs.length y.l.rc,.int .i64 s.R.lim,.slice y.r.m.1.1 y.r.m.1.2.1 y.r.m.1.2.2,.slice y.r.ra y.r.rs.length y.r.rc,.int .i64 s.lm,.int .i64 s.rm,.int .i64 s.seq] 31)).alloc (.cells #[.int .i64 kd,.int .i64 sd,.int .i64 tm',.slice ra rl rc] 43))
  have h2:=World.alloc_heap_new (((w.alloc (.cells #[.int .i64 p.kind,.int .i64 p.mode,.int .i64 p.low,.int .i64 p.high,.int .i64 p.size,.int .i64 p.limit,.slice x.l p.left.length x.lc,.slice x.r p.right.length x.rc,.slice x.lk p.lkeys.length x.lkc,.slice x.rk p.rkeys.length x.rkc,.bool p.grouped,.slice x.g p.group.length x.gc,.slice x.a p.aggs.length x.ac] 25)).alloc (.cells #[.int .i64 s.L.lim,.slice y.l.m.1.1 y.l.m.1.2.1 y.l.m.1.2.2,.slice y.l.ra y.l.rs.length y.l.rc,.int .i64 s.R.lim,.slice y.r.m.1.1 y.r.m.1.2.1 y.r.m.1.2.2,.slice y.r.ra y.r.rs.length y.r.rc,.int .i64 s.lm,.int .i64 s.rm,.int .i64 s.seq] 31)).alloc (.cells #[.int .i64 kd,.int .i64 sd,.int .i64 tm',.slice ra rl rc] 43)) (.cells #[.int .i64 0,.slice none 0 0,.slice none 0 0,.int .i64 0,.slice none 0 0,.slice none 0 0,.int .i64 0,.int .i64 0,.int .i64 0] 31)
  rw[World.size_alloc,World.size_alloc,World.size_alloc]at h1 h2
  exact⟨h1,_,_,h2⟩
 have HET:Hid (Ar V (w.heap.size+1+1) 43):=by
  subst hV
  have h2:=World.alloc_heap_new ((w.alloc (.cells #[.int .i64 p.kind,.int .i64 p.mode,.int .i64 p.low,.int .i64 p.high,.int .i64 p.size,.int .i64 p.limit,.slice x.l p.left.length x.lc,.slice x.r p.right.length x.rc,.slice x.lk p.lkeys.length x.lkc,.slice x.rk p.rkeys.length x.rkc,.bool p.grouped,.slice x.g p.group.length x.gc,.slice x.a p.aggs.length x.ac] 25)).alloc (.cells #[.int .i64 s.L.lim,.slice y.l.m.1.1 y.l.m.1.2.1 y.l.m.1.2.2,.slice y.l.ra y.l.rs.length y.l.rc,.int .i64 s.R.lim,.slice y.r.m.1.1 y.r.m.1.2.1 y.r.m.1.2.2,.slice y.r.ra y.r.rs.length y.r.rc,.int .i64 s.lm,.int .i64 s.rm,.int .i64 s.seq] 31)) (.cells #[.int .i64 kd,.int .i64 sd,.int .i64 tm',.slice ra rl rc] 43)
  rw[World.size_alloc,World.size_alloc]at h2
  exact Ah ⟨_,_,h2⟩ (bR.alloc (by simp) _)
 clear hV
 refine(KC.out _ hb0).mono ?_
 rintro e w1 ⟨rfl,hb1⟩
 have hbw1:Bwz w w1:=hb0.trans (hb1.mono hb0.size)
 replace HB:Hid (Br w1 w.heap.size p x):=Aj HB.out hb1
 replace HJ0:Hid (AU w1 (w.heap.size+1) s y):=Ag HJ0.out hb1
 replace HE0:Hid (w1.cell? ⟨w.heap.size+1+1,0,none⟩=some (.int .i64 kd)/\w1.cell? ⟨w.heap.size+1+1,1,none⟩=some (.int .i64 sd)/\w1.cell? ⟨w.heap.size+1+1,2,none⟩=some (.int .i64 tm')/\w1.cell? ⟨w.heap.size+1+1,3,none⟩=some (.slice ra rl rc)):=⟨cLz hb1 HE0.out.1,cLz hb1 HE0.out.2.1,cLz hb1 HE0.out.2.2.1,cLz hb1 HE0.out.2.2.2⟩
 replace HZ:Hid (noJ w1 (w.heap.size+1+1+1)/\Ar w1 (w.heap.size+1+1+1) 31):=⟨AV HZ.out.1 hb1,Ah HZ.out.2 hb1⟩
 replace HET:Hid (Ar w1 (w.heap.size+1+1) 43):=Ah HET.out hb1
 clear hb1 hb0 KC
 by_cases h0:JE=0
 ·subst h0
  obtain⟨v0,v1,v2,v3,v4,v5,v6,v7,v8,v9,v10,v11,v12⟩:=HB.out
  obtain⟨u0,u1,u2,u3,u4,u5,u6,u7,u8⟩:=HJ0.out
  obtain⟨e0,e1,e2,e3⟩:=HE0.out
  go_wp2_with fail
  refine(KE.out _ hbw1).mono ?_
  rintro e w2 ⟨rfl,hb2⟩
  have hbw2:Bwz w w2:=hbw1.trans (hb2.mono hbw1.size)
  replace HB:Hid (Br w2 w.heap.size p x):=Aj HB.out hb2
  replace HJ0:Hid (AU w2 (w.heap.size+1) s y):=Ag HJ0.out hb2
  replace HE0:Hid (w2.cell? ⟨w.heap.size+1+1,0,none⟩=some (.int .i64 kd)/\w2.cell? ⟨w.heap.size+1+1,1,none⟩=some (.int .i64 sd)/\w2.cell? ⟨w.heap.size+1+1,2,none⟩=some (.int .i64 tm')/\w2.cell? ⟨w.heap.size+1+1,3,none⟩=some (.slice ra rl rc)):=⟨cLz hb2 HE0.out.1,cLz hb2 HE0.out.2.1,cLz hb2 HE0.out.2.2.1,cLz hb2 HE0.out.2.2.2⟩
  replace HZ:Hid (noJ w2 (w.heap.size+1+1+1)/\Ar w2 (w.heap.size+1+1+1) 31):=⟨AV HZ.out.1 hb2,Ah HZ.out.2 hb2⟩
  replace HET:Hid (Ar w2 (w.heap.size+1+1) 43):=Ah HET.out hb2
  clear hb2 KE v0 v1 v2 v3 v4 v5 v6 v7 v8 v9 v10 v11 v12 u0 u1 u2 u3 u4 u5 u6 u7 u8 e0 e1 e2 e3
  by_cases h1:EE=0
  ·subst h1
   obtain⟨v0,v1,v2,v3,v4,v5,v6,v7,v8,v9,v10,v11,v12⟩:=HB.out
   obtain⟨u0,u1,u2,u3,u4,u5,u6,u7,u8⟩:=HJ0.out
   go_wp2_with fail
   refine(KK.out trivial _ hbw2).mono ?_
   rintro e w3 ⟨K,y3,rfl,hj3⟩
   obtain⟨hgd,ff,fm,hk⟩:=HX.out trivial
   generalize kindT p.kind=T at hj3 hk
   generalize kindP p.kind=kp at hk⊢
   have HJ3:Hid (JSt w2 w3 K T p x s y3 (.slice none 0 0) []):=hj3
   have HKD:Hid (KindK p T kp ff fm):=hk
   have HGD:Hid (goodJ p s):=hgd
   have hb3:=hj3.bl
   have hbw3:Bwz w w3:=hbw2.trans (hb3.mono hbw2.size)
   have HE3:Hid (w3.cell? ⟨w.heap.size+1+1,0,none⟩=some (.int .i64 kd)/\w3.cell? ⟨w.heap.size+1+1,1,none⟩=some (.int .i64 sd)/\w3.cell? ⟨w.heap.size+1+1,2,none⟩=some (.int .i64 tm')/\w3.cell? ⟨w.heap.size+1+1,3,none⟩=some (.slice ra rl rc)):=⟨cLz hb3 HE0.out.1,cLz hb3 HE0.out.2.1,cLz hb3 HE0.out.2.2.1,cLz hb3 HE0.out.2.2.2⟩
   have HB3:Hid (Br w3 w.heap.size p x):=Aj HB.out hb3
   have HZ3:Hid (noJ w3 (w.heap.size+1+1+1)/\Ar w3 (w.heap.size+1+1+1) 31):=⟨AV HZ.out.1 hb3,Ah HZ.out.2 hb3⟩
   have HET3:Hid (Ar w3 (w.heap.size+1+1) 43):=Ah HET.out hb3
   have hgo:=hk.go K
   have hfo:=hk.fo K
   have hme:=hk.me K
   have hke:=hk.ke K
   have hma:=hk.ma K
   have hni:=hk.ni K
   have hef:=hk.ef
   have hem:=hk.em
   have HEV:Hid (A7 p s v=0):=HEE.out
   have HUP:Hid (w2.heap.size<=K):=hj3.up
   have hRl:(w.heap.size+1+1+1)<w2.heap.size:=QO HZ.out.1
   clear hj3 hk hgd v0 v1 v2 v3 v4 v5 v6 v7 v8 v9 v10 v11 v12 u0 u1 u2 u3 u4 u5 u6 u7 u8 KK HX
   by_cases h2:kd=2
   ·subst h2
    have hmk:=Rr HEV.out HVE.out.1
    have HSE:Hid (SJ=(0,Cn p (DI s sd tm'),[])):=by show _=_;rw[HS.out,if_neg (by simp),if_neg (by simp),if_pos rfl]
    have HG4:Hid (goodJ p (DI s sd tm')):=Rp HGD.out sd tm' (by rw[<-HVE.out.2.2.1];exact hmk.2.1)
    obtain⟨NS,hNS⟩:=nM (Cn p (DI s sd tm'))
    have KGO:Hid (CTz 255 #[.pointer (some ⟨K,0,none⟩),.int .i64 sd,.int .i64 tm'] w3 fun e w'=>e= .returned (.tuple #[])/\JSt w2 w' K T p x (DI s sd tm') y3 (.slice none 0 0) []/\Bs T w3 w'):=(Vk K p x s y3 _ sd tm' w3 HJ3.out.box).mono (by
     rintro e w' ⟨rfl,rfl⟩
     exact⟨rfl,XG HJ3.out HKD.out.calm sd tm',DS HJ3.out.ty _ _⟩)
    have KFO:Hid (∀w4,JSt w2 w4 K T p x (DI s sd tm') y3 (.slice none 0 0) []->CTz ff #[.pointer (some ⟨K,0,none⟩)] w4 fun e w'=>e= .returned (.tuple #[])/\∃y',JSt w2 w' K T p x NS y' (.slice none 0 0) []/\Bs T w4 w'):=fun w4 hj=>by
     rw[<-hNS]
     exact HKD.out.cf K x _ y3 _ [] w2 w4 hj HP.out.1 (HP.out.2.1 w2 hbw2) HG4.out
    rw[hNS]at HSE
    obtain⟨e0,e1,e2,e3⟩:=HE3.out
    clear hmk hNS
    go_wp2_with (first
     |(go_at_call 255;refine KGO.out.mono ?_;rintro e w4 ⟨rfl,hj4,hk4⟩)
     |(go_at_fn ff;refine(KFO.out _ hj4).mono ?_;rintro e w5 ⟨rfl,y5,hj5,hk5⟩;have HKM:Hid (Bs T w3 w5):=hk4.trans hk5)
     |(go_at_call 257;refine(UP hj5.box hj5.cg).mono ?_;rintro e w6 ⟨rfl,hb6⟩;rw[A6];have hT6:Ar w6 (w.heap.size+1+1+1) 31:=Ah (AH HZ3.out.2 (HKM.out.2 _ _ HZ3.out.2 HKD.out.cj.symm (by decide) (by decide))) hb6;have hroom:(w6.alloc (.cells #[.int .i64 NS.L.lim,.slice y5.l.m.1.1 y5.l.m.1.2.1 y5.l.m.1.2.2,.slice y5.l.ra y5.l.rs.length y5.l.rc,.int .i64 NS.R.lim,.slice y5.r.m.1.1 y5.r.m.1.2.1 y5.r.m.1.2.2,.slice y5.r.ra y5.r.rs.length y5.r.rc,.int .i64 NS.lm,.int .i64 NS.rm,.int .i64 NS.seq] 31)).there (w.heap.size+1+1+1) 0 9:=BL (BL (Fv HZ3.out.1 (HKM.out.2 _ _ HZ3.out.2 HKD.out.cj.symm (by decide) (by decide))) hb6) (bR.alloc nR _))
     |((with_reducible refine wpList_store_mid ?_ 31 (.tmp 6) (.tmp 61) ?_ (w.heap.size+1+1+1) 0 #[.int .i64 NS.L.lim,.slice y5.l.m.1.1 y5.l.m.1.2.1 y5.l.m.1.2.2,.slice y5.l.ra y5.l.rs.length y5.l.rc,.int .i64 NS.R.lim,.slice y5.r.m.1.1 y5.r.m.1.2.1 y5.r.m.1.2.2,.slice y5.r.ra y5.r.rs.length y5.r.rc,.int .i64 NS.lm,.int .i64 NS.rm,.int .i64 NS.seq] ?_ ?_ ?_ ?_ ?_ ?_);exact rfl;exact rfl;exact rfl;exact rfl;exact hroom;exact E4;exact(by simp[Value.oneCell'])))
    have HEND:=step_end hj5 hbw2 hb6 #[.int .i64 NS.L.lim,.slice y5.l.m.1.1 y5.l.m.1.2.1 y5.l.m.1.2.2,.slice y5.l.ra y5.l.rs.length y5.l.rc,.int .i64 NS.R.lim,.slice y5.r.m.1.1 y5.r.m.1.2.1 y5.r.m.1.2.2,.slice y5.r.ra y5.r.rs.length y5.r.rc,.int .i64 NS.lm,.int .i64 NS.rm,.int .i64 NS.seq] (show w.heap.size<=(w.heap.size+1+1+1) by omega) hT6 [.int .i64 NS.L.lim,.slice y5.l.m.1.1 y5.l.m.1.2.1 y5.l.m.1.2.2,.slice y5.l.ra y5.l.rs.length y5.l.rc,.int .i64 NS.R.lim,.slice y5.r.m.1.1 y5.r.m.1.2.1 y5.r.m.1.2.2,.slice y5.r.ra y5.r.rs.length y5.r.rc,.int .i64 NS.lm,.int .i64 NS.rm,.int .i64 NS.seq]
    have HR:Hid ((World.setCells (w6.alloc (.cells #[.int .i64 NS.L.lim,.slice y5.l.m.1.1 y5.l.m.1.2.1 y5.l.m.1.2.2,.slice y5.l.ra y5.l.rs.length y5.l.rc,.int .i64 NS.R.lim,.slice y5.r.m.1.1 y5.r.m.1.2.1 y5.r.m.1.2.2,.slice y5.r.ra y5.r.rs.length y5.r.rc,.int .i64 NS.lm,.int .i64 NS.rm,.int .i64 NS.seq] 31)) (w.heap.size+1+1+1) 0 [.int .i64 NS.L.lim,.slice y5.l.m.1.1 y5.l.m.1.2.1 y5.l.m.1.2.2,.slice y5.l.ra y5.l.rs.length y5.l.rc,.int .i64 NS.R.lim,.slice y5.r.m.1.1 y5.r.m.1.2.1 y5.r.m.1.2.2,.slice y5.r.ra y5.r.rs.length y5.r.rc,.int .i64 NS.lm,.int .i64 NS.rm,.int .i64 NS.seq]).rangeAt (w.heap.size+1+1+1) 0 [.int .i64 NS.L.lim,.slice y5.l.m.1.1 y5.l.m.1.2.1 y5.l.m.1.2.2,.slice y5.l.ra y5.l.rs.length y5.l.rc,.int .i64 NS.R.lim,.slice y5.r.m.1.1 y5.r.m.1.2.1 y5.r.m.1.2.2,.slice y5.r.ra y5.r.rs.length y5.r.rc,.int .i64 NS.lm,.int .i64 NS.rm,.int .i64 NS.seq]):=C0 hroom rfl
    generalize (World.setCells (w6.alloc (.cells #[.int .i64 NS.L.lim,.slice y5.l.m.1.1 y5.l.m.1.2.1 y5.l.m.1.2.2,.slice y5.l.ra y5.l.rs.length y5.l.rc,.int .i64 NS.R.lim,.slice y5.r.m.1.1 y5.r.m.1.2.1 y5.r.m.1.2.2,.slice y5.r.ra y5.r.rs.length y5.r.rc,.int .i64 NS.lm,.int .i64 NS.rm,.int .i64 NS.seq] 31)) (w.heap.size+1+1+1) 0 [.int .i64 NS.L.lim,.slice y5.l.m.1.1 y5.l.m.1.2.1 y5.l.m.1.2.2,.slice y5.l.ra y5.l.rs.length y5.l.rc,.int .i64 NS.R.lim,.slice y5.r.m.1.1 y5.r.m.1.2.1 y5.r.m.1.2.2,.slice y5.r.ra y5.r.rs.length y5.r.rc,.int .i64 NS.lm,.int .i64 NS.rm,.int .i64 NS.seq])=W' at HR HEND⊢
    have z0:=HR.out 0 _ rfl
    have z1:=HR.out 1 _ rfl
    have z2:=HR.out 2 _ rfl
    have z3:=HR.out 3 _ rfl
    have z4:=HR.out 4 _ rfl
    have z5:=HR.out 5 _ rfl
    have z6:=HR.out 6 _ rfl
    have z7:=HR.out 7 _ rfl
    have z8:=HR.out 8 _ rfl
    simp only[Nat.zero_add]at z0 z1 z2 z3 z4 z5 z6 z7 z8
    exact bodyPost_ret (v:=.tuple #[.agg #[.int .i64 NS.L.lim,.slice y5.l.m.1.1 y5.l.m.1.2.1 y5.l.m.1.2.2,.slice y5.l.ra y5.l.rs.length y5.l.rc,.int .i64 NS.R.lim,.slice y5.r.m.1.1 y5.r.m.1.2.1 y5.r.m.1.2.2,.slice y5.r.ra y5.r.rs.length y5.r.rc,.int .i64 NS.lm,.int .i64 NS.rm,.int .i64 NS.seq],.slice none 0 0,.int .i64 0]) (by simp[results,results16,go_sem,z0,z1,z2,z3,z4,z5,z6,z7,z8]) rfl ⟨⟨y5,.slice none 0 0,[],by rw[HSE.out];rfl,by rw[HSE.out];rfl,by rw[HSE.out];exact HEND.1⟩,HEND.2⟩
   ·have HC:Hid (comeJ p s v):=Rq HEV.out (by rw[HVE.out.1];exact h2)
    obtain⟨hgm,hcm⟩:=SV HGD.out HC.out
    have HSE:Hid (SJ=(0,Dy p (FV p s v) v (Jc p s v),Iv p s v)):=by show _=_;rw[HS.out,if_neg (by simp),if_neg (by simp),if_neg h2,RZ]
    have hk2:(kd==2)=false:=by simpa using h2
    have HCK:Hid (∀w1,Bwz w w1->CTz 49 #[pl.Ap p x,.agg #[.int .i64 kd,.int .i64 sd,.int .i64 tm',.slice ra rl rc]] w1 fun e w'=>e= .returned (Bz p v ra rc)/\Bwz w1 w'):=KCo.out
    have KME:Hid (∀w1,Bwz w3 w1->CTz fm #[.pointer (some ⟨K,0,none⟩),Bz p v ra rc] w1 fun e w'=>e= .returned (.bool (Jc p s v))/\∃y' t' L',JSt w2 w' K T p x (FV p s v) y' t' L'/\L'.map CO.chg=Iv p s v/\Bs T w1 w'):=fun w1 hb=>HKD.out.cm K x s y3 v ra rc w2 w1 (HJ3.out.below hb) HGD.out HC.out (HP.out.2.2 w2 hbw2).row
    have KKE:=hIz (fun(w1:World) y' t' L' (hj:JSt w2 w1 K T p x (FV p s v) y' t' L')=>BM K T p x (FV p s v) y' t' L' v ra rc (Jc p s v) w2 w1 hj HKD.out.calm HP.out.1 (HP.out.2.1 w2 hbw2) hgm hcm (HP.out.2.2 w2 hbw2))
    obtain⟨MB,hMB⟩:=nM (Jc p s v)
    obtain⟨MJ,hMJ⟩:=nM (FV p s v)
    obtain⟨MT,hMT⟩:=nM (Iv p s v)
    rw[hMB,hMJ]at KME KKE HSE
    rw[hMT]at KME HSE
    obtain⟨NS,hNS⟩:=nM (Dy p MJ v MB)
    rw[hNS]at KKE HSE
    unfold Bz at HCK KME KKE
    obtain⟨kb,h3⟩:=nM (pl.Aq p v.side v.row)
    obtain⟨kh,h4⟩:=nM (pl.hasB p v.side v.row)
    rw[h3,h4,HVE.out.2.1,HVE.out.2.2.1,HVE.out.2.2.2]at HCK KME KKE
    obtain⟨e0,e1,e2,e3⟩:=HE3.out
    obtain⟨v0,v1,v2,v3,v4,v5,v6,v7,v8,v9,v10,v11,v12⟩:=HB3.out
    clear hgm hcm h2 hMB hMJ hMT hNS h3 h4 KCo
    go_upto_region 12 with(go_at_call 49;refine(HCK.out _ hbw3).mono ?_;rintro e wc ⟨rfl,hbc⟩)
    have hc3:Bwz w3 (wc.alloc (.cells #[.int .i64 sd,.int .i64 tm',.slice ra rl rc,.string kb,.bool kh] 92)):=hbc.alloc hbc.size _
    have HCT:Hid (Ar (wc.alloc (.cells #[.int .i64 sd,.int .i64 tm',.slice ra rl rc,.string kb,.bool kh] 92)) wc.heap.size 92):=⟨_,_,World.alloc_heap_new wc _⟩
    have sc0:(wc.alloc (.cells #[.int .i64 sd,.int .i64 tm',.slice ra rl rc,.string kb,.bool kh] 92)).cell? ⟨wc.heap.size,0,none⟩=some (.int .i64 sd):=by go_simp
    have sc1:(wc.alloc (.cells #[.int .i64 sd,.int .i64 tm',.slice ra rl rc,.string kb,.bool kh] 92)).cell? ⟨wc.heap.size,1,none⟩=some (.int .i64 tm'):=by go_simp
    have sc2:(wc.alloc (.cells #[.int .i64 sd,.int .i64 tm',.slice ra rl rc,.string kb,.bool kh] 92)).cell? ⟨wc.heap.size,2,none⟩=some (.slice ra rl rc):=by go_simp
    have sc3:(wc.alloc (.cells #[.int .i64 sd,.int .i64 tm',.slice ra rl rc,.string kb,.bool kh] 92)).cell? ⟨wc.heap.size,3,none⟩=some (.string kb):=by go_simp
    have sc4:(wc.alloc (.cells #[.int .i64 sd,.int .i64 tm',.slice ra rl rc,.string kb,.bool kh] 92)).cell? ⟨wc.heap.size,4,none⟩=some (.bool kh):=by go_simp
    generalize (wc.alloc (.cells #[.int .i64 sd,.int .i64 tm',.slice ra rl rc,.string kb,.bool kh] 92))=W4 at *
    have SKM:Hid (∀w',Bs T W4 w'->w'.cell? ⟨wc.heap.size,0,none⟩=some (.int .i64 sd)/\w'.cell? ⟨wc.heap.size,1,none⟩=some (.int .i64 tm')/\w'.cell? ⟨wc.heap.size,2,none⟩=some (.slice ra rl rc)/\w'.cell? ⟨wc.heap.size,3,none⟩=some (.string kb)/\w'.cell? ⟨wc.heap.size,4,none⟩=some (.bool kh)):=fun w' hkm=>⟨hkm.cell HCT.out HKD.out.co.symm (by decide) (by decide) sc0,hkm.cell HCT.out HKD.out.co.symm (by decide) (by decide) sc1,hkm.cell HCT.out HKD.out.co.symm (by decide) (by decide) sc2,hkm.cell HCT.out HKD.out.co.symm (by decide) (by decide) sc3,hkm.cell HCT.out HKD.out.co.symm (by decide) (by decide) sc4⟩
    clear v0 v1 v2 v3 v4 v5 v6 v7 v8 v9 v10 v11 v12 e0 e1 e2 e3 hbc
    refine gr.BI 9 rfl (by kernel_rfl) (S:=fun w'=>w'.cell? ⟨wc.heap.size,0,none⟩=some (.int .i64 sd)/\w'.cell? ⟨wc.heap.size,1,none⟩=some (.int .i64 tm')/\w'.cell? ⟨wc.heap.size,2,none⟩=some (.slice ra rl rc)/\w'.cell? ⟨wc.heap.size,3,none⟩=some (.string kb)/\w'.cell? ⟨wc.heap.size,4,none⟩=some (.bool kh)) (SKM.out _ (Av bR.drew)) (fun hHz=>?_)
    refine tkz 0 47 hHz ?_;refine tkz 1 48 hHz ?_;refine tkz 2 49 hHz ?_;refine tkz 3 50 hHz ?_;refine tkz 5 52 hHz ?_;refine tkz 6 53 hHz ?_;refine tkz 7 54 hHz ?_
    refine wpAnyH_ready (rs:=[4]) (by kernel_rfl) (by simp) ?_
    refine AllReadyH.cons rfl (fun K hK=>?_) AllReadyH.nil
    go_simp
    go_at_fn fm
    refine(KME.out _ hc3.drew).mono ?_
    rintro e w5 ⟨rfl,y5,t5,L5,hj5,hl5,hk5⟩
    have HK5:Hid (Bs T W4 w5):=(Av bR.drew).trans hk5
    go_wp2_with fail
    refine hK.out _ _ (SKM.out _ HK5.out) (fun hHz=>?_)
    clear hK K
    try simp only[Act.put,sI,sZ,sSz]
    refine wpAnyH_ready (rs:=[8]) (by kernel_rfl) (by simp) ?_
    refine AllReadyH.cons rfl (fun K hK=>?_) AllReadyH.nil
    go_simp
    go_at_call 256
    refine(KKE.out _ _ _ _ hj5).mono ?_
    rintro e w6 ⟨rfl,y6,hj6,hk6⟩
    have HK6:Hid (Bs T W4 w6):=HK5.out.trans hk6
    go_wp2_with fail
    refine hK.out _ _ (SKM.out _ HK6.out) (fun hHz=>?_)
    clear hK K
    refine wpAnyH_done (by kernel_rfl) ?_ _
    have HKM:Hid (Bs T w3 w6):=(Av hc3).trans HK6.out
    clear hj5 hk5 hk6 SKM sc0 sc1 sc2 sc3 sc4 hHz
    go_wp2_with (first
     |(go_at_call 257;refine(UP hj6.box hj6.cg).mono ?_;rintro e w7 ⟨rfl,hb7⟩;rw[A6];have hT6:Ar w7 (w.heap.size+1+1+1) 31:=Ah (AH HZ3.out.2 (HKM.out.2 _ _ HZ3.out.2 HKD.out.cj.symm (by decide) (by decide))) hb7;have hroom:(w7.alloc (.cells #[.int .i64 NS.L.lim,.slice y6.l.m.1.1 y6.l.m.1.2.1 y6.l.m.1.2.2,.slice y6.l.ra y6.l.rs.length y6.l.rc,.int .i64 NS.R.lim,.slice y6.r.m.1.1 y6.r.m.1.2.1 y6.r.m.1.2.2,.slice y6.r.ra y6.r.rs.length y6.r.rc,.int .i64 NS.lm,.int .i64 NS.rm,.int .i64 NS.seq] 31)).there (w.heap.size+1+1+1) 0 9:=BL (BL (Fv HZ3.out.1 (HKM.out.2 _ _ HZ3.out.2 HKD.out.cj.symm (by decide) (by decide))) hb7) (bR.alloc nR _))
     |((with_reducible refine wpList_store_mid ?_ 31 (.tmp 6) (.tmp 61) ?_ (w.heap.size+1+1+1) 0 #[.int .i64 NS.L.lim,.slice y6.l.m.1.1 y6.l.m.1.2.1 y6.l.m.1.2.2,.slice y6.l.ra y6.l.rs.length y6.l.rc,.int .i64 NS.R.lim,.slice y6.r.m.1.1 y6.r.m.1.2.1 y6.r.m.1.2.2,.slice y6.r.ra y6.r.rs.length y6.r.rc,.int .i64 NS.lm,.int .i64 NS.rm,.int .i64 NS.seq] ?_ ?_ ?_ ?_ ?_ ?_);exact rfl;exact rfl;exact rfl;exact rfl;exact hroom;exact E4;exact(by simp[Value.oneCell'])))
    have HEND:=step_end hj6 hbw2 hb7 #[.int .i64 NS.L.lim,.slice y6.l.m.1.1 y6.l.m.1.2.1 y6.l.m.1.2.2,.slice y6.l.ra y6.l.rs.length y6.l.rc,.int .i64 NS.R.lim,.slice y6.r.m.1.1 y6.r.m.1.2.1 y6.r.m.1.2.2,.slice y6.r.ra y6.r.rs.length y6.r.rc,.int .i64 NS.lm,.int .i64 NS.rm,.int .i64 NS.seq] (show w.heap.size<=(w.heap.size+1+1+1) by omega) hT6 [.int .i64 NS.L.lim,.slice y6.l.m.1.1 y6.l.m.1.2.1 y6.l.m.1.2.2,.slice y6.l.ra y6.l.rs.length y6.l.rc,.int .i64 NS.R.lim,.slice y6.r.m.1.1 y6.r.m.1.2.1 y6.r.m.1.2.2,.slice y6.r.ra y6.r.rs.length y6.r.rc,.int .i64 NS.lm,.int .i64 NS.rm,.int .i64 NS.seq]
    have HR:Hid ((World.setCells (w7.alloc (.cells #[.int .i64 NS.L.lim,.slice y6.l.m.1.1 y6.l.m.1.2.1 y6.l.m.1.2.2,.slice y6.l.ra y6.l.rs.length y6.l.rc,.int .i64 NS.R.lim,.slice y6.r.m.1.1 y6.r.m.1.2.1 y6.r.m.1.2.2,.slice y6.r.ra y6.r.rs.length y6.r.rc,.int .i64 NS.lm,.int .i64 NS.rm,.int .i64 NS.seq] 31)) (w.heap.size+1+1+1) 0 [.int .i64 NS.L.lim,.slice y6.l.m.1.1 y6.l.m.1.2.1 y6.l.m.1.2.2,.slice y6.l.ra y6.l.rs.length y6.l.rc,.int .i64 NS.R.lim,.slice y6.r.m.1.1 y6.r.m.1.2.1 y6.r.m.1.2.2,.slice y6.r.ra y6.r.rs.length y6.r.rc,.int .i64 NS.lm,.int .i64 NS.rm,.int .i64 NS.seq]).rangeAt (w.heap.size+1+1+1) 0 [.int .i64 NS.L.lim,.slice y6.l.m.1.1 y6.l.m.1.2.1 y6.l.m.1.2.2,.slice y6.l.ra y6.l.rs.length y6.l.rc,.int .i64 NS.R.lim,.slice y6.r.m.1.1 y6.r.m.1.2.1 y6.r.m.1.2.2,.slice y6.r.ra y6.r.rs.length y6.r.rc,.int .i64 NS.lm,.int .i64 NS.rm,.int .i64 NS.seq]):=C0 hroom rfl
    generalize (World.setCells (w7.alloc (.cells #[.int .i64 NS.L.lim,.slice y6.l.m.1.1 y6.l.m.1.2.1 y6.l.m.1.2.2,.slice y6.l.ra y6.l.rs.length y6.l.rc,.int .i64 NS.R.lim,.slice y6.r.m.1.1 y6.r.m.1.2.1 y6.r.m.1.2.2,.slice y6.r.ra y6.r.rs.length y6.r.rc,.int .i64 NS.lm,.int .i64 NS.rm,.int .i64 NS.seq] 31)) (w.heap.size+1+1+1) 0 [.int .i64 NS.L.lim,.slice y6.l.m.1.1 y6.l.m.1.2.1 y6.l.m.1.2.2,.slice y6.l.ra y6.l.rs.length y6.l.rc,.int .i64 NS.R.lim,.slice y6.r.m.1.1 y6.r.m.1.2.1 y6.r.m.1.2.2,.slice y6.r.ra y6.r.rs.length y6.r.rc,.int .i64 NS.lm,.int .i64 NS.rm,.int .i64 NS.seq])=W' at HR HEND⊢
    have z0:=HR.out 0 _ rfl
    have z1:=HR.out 1 _ rfl
    have z2:=HR.out 2 _ rfl
    have z3:=HR.out 3 _ rfl
    have z4:=HR.out 4 _ rfl
    have z5:=HR.out 5 _ rfl
    have z6:=HR.out 6 _ rfl
    have z7:=HR.out 7 _ rfl
    have z8:=HR.out 8 _ rfl
    simp only[Nat.zero_add]at z0 z1 z2 z3 z4 z5 z6 z7 z8
    exact bodyPost_ret (v:=.tuple #[.agg #[.int .i64 NS.L.lim,.slice y6.l.m.1.1 y6.l.m.1.2.1 y6.l.m.1.2.2,.slice y6.l.ra y6.l.rs.length y6.l.rc,.int .i64 NS.R.lim,.slice y6.r.m.1.1 y6.r.m.1.2.1 y6.r.m.1.2.2,.slice y6.r.ra y6.r.rs.length y6.r.rc,.int .i64 NS.lm,.int .i64 NS.rm,.int .i64 NS.seq],t5,.int .i64 0]) (by simp[results,results16,go_sem,z0,z1,z2,z3,z4,z5,z6,z7,z8]) rfl ⟨⟨y6,t5,L5,by rw[HSE.out];rfl,by rw[HSE.out];exact hl5,by rw[HSE.out];exact HEND.1⟩,HEND.2⟩
  ·have hne:(EE !=0)=true:=by simpa using h1
   have HSE:Hid (SJ=(EE,j0,[])):=by show _=_;rw[HS.out,if_neg (by simp),if_pos h1]
   have HR:Hid ((World.setCells w2 (w.heap.size+1+1+1) 0 [.int .i64 0,.slice none 0 0,.slice none 0 0,.int .i64 0,.slice none 0 0,.slice none 0 0,.int .i64 0,.int .i64 0,.int .i64 0]).rangeAt (w.heap.size+1+1+1) 0 [.int .i64 0,.slice none 0 0,.slice none 0 0,.int .i64 0,.slice none 0 0,.slice none 0 0,.int .i64 0,.int .i64 0,.int .i64 0]):=C0 HZ.out.1 rfl
   have HB9:Hid (Bwz w (World.setCells w2 (w.heap.size+1+1+1) 0 [.int .i64 0,.slice none 0 0,.slice none 0 0,.int .i64 0,.slice none 0 0,.slice none 0 0,.int .i64 0,.int .i64 0,.int .i64 0])):=below_setCells (by omega) _ 0 _ hbw2
   go_wp2_with ((with_reducible refine wpList_store_mid ?_ 31 (.tmp 6) (.tmp 28) ?_ (w.heap.size+1+1+1) 0 #[.int .i64 0,.slice none 0 0,.slice none 0 0,.int .i64 0,.slice none 0 0,.slice none 0 0,.int .i64 0,.int .i64 0,.int .i64 0] ?_ ?_ ?_ ?_ ?_ ?_);exact rfl;exact rfl;exact rfl;exact rfl;exact HZ.out.1;exact E4;exact(by simp[Value.oneCell']))
   generalize (World.setCells w2 (w.heap.size+1+1+1) 0 [.int .i64 0,.slice none 0 0,.slice none 0 0,.int .i64 0,.slice none 0 0,.slice none 0 0,.int .i64 0,.int .i64 0,.int .i64 0])=W' at HR HB9⊢
   have z0:=HR.out 0 _ rfl
   have z1:=HR.out 1 _ rfl
   have z2:=HR.out 2 _ rfl
   have z3:=HR.out 3 _ rfl
   have z4:=HR.out 4 _ rfl
   have z5:=HR.out 5 _ rfl
   have z6:=HR.out 6 _ rfl
   have z7:=HR.out 7 _ rfl
   have z8:=HR.out 8 _ rfl
   simp only[Nat.zero_add]at z0 z1 z2 z3 z4 z5 z6 z7 z8
   exact bodyPost_ret (v:=.tuple #[.agg #[.int .i64 0,.slice none 0 0,.slice none 0 0,.int .i64 0,.slice none 0 0,.slice none 0 0,.int .i64 0,.int .i64 0,.int .i64 0],.slice none 0 0,.int .i64 EE]) (by simp[results,results16,go_sem,z0,z1,z2,z3,z4,z5,z6,z7,z8]) rfl ⟨⟨jx0,.slice none 0 0,[],by rw[HSE.out];rfl,by rw[HSE.out];rfl,by rw[HSE.out];exact⟨Ch (CA HB9.out.size),Ch (CA HB9.out.size),CG.start HB9.out.size⟩⟩,HB9.out⟩
 ·have hne:(JE !=0)=true:=by simpa using h0
  have HSE:Hid (SJ=(JE,j0,[])):=by show _=_;rw[HS.out,if_pos h0]
  have HR:Hid ((World.setCells w1 (w.heap.size+1+1+1) 0 [.int .i64 0,.slice none 0 0,.slice none 0 0,.int .i64 0,.slice none 0 0,.slice none 0 0,.int .i64 0,.int .i64 0,.int .i64 0]).rangeAt (w.heap.size+1+1+1) 0 [.int .i64 0,.slice none 0 0,.slice none 0 0,.int .i64 0,.slice none 0 0,.slice none 0 0,.int .i64 0,.int .i64 0,.int .i64 0]):=C0 HZ.out.1 rfl
  have HB9:Hid (Bwz w (World.setCells w1 (w.heap.size+1+1+1) 0 [.int .i64 0,.slice none 0 0,.slice none 0 0,.int .i64 0,.slice none 0 0,.slice none 0 0,.int .i64 0,.int .i64 0,.int .i64 0])):=below_setCells (by omega) _ 0 _ hbw1
  go_wp2_with ((with_reducible refine wpList_store_mid ?_ 31 (.tmp 6) (.tmp 20) ?_ (w.heap.size+1+1+1) 0 #[.int .i64 0,.slice none 0 0,.slice none 0 0,.int .i64 0,.slice none 0 0,.slice none 0 0,.int .i64 0,.int .i64 0,.int .i64 0] ?_ ?_ ?_ ?_ ?_ ?_);exact rfl;exact rfl;exact rfl;exact rfl;exact HZ.out.1;exact E4;exact(by simp[Value.oneCell']))
  generalize (World.setCells w1 (w.heap.size+1+1+1) 0 [.int .i64 0,.slice none 0 0,.slice none 0 0,.int .i64 0,.slice none 0 0,.slice none 0 0,.int .i64 0,.int .i64 0,.int .i64 0])=W' at HR HB9⊢
  have z0:=HR.out 0 _ rfl
  have z1:=HR.out 1 _ rfl
  have z2:=HR.out 2 _ rfl
  have z3:=HR.out 3 _ rfl
  have z4:=HR.out 4 _ rfl
  have z5:=HR.out 5 _ rfl
  have z6:=HR.out 6 _ rfl
  have z7:=HR.out 7 _ rfl
  have z8:=HR.out 8 _ rfl
  simp only[Nat.zero_add]at z0 z1 z2 z3 z4 z5 z6 z7 z8
  exact bodyPost_ret (v:=.tuple #[.agg #[.int .i64 0,.slice none 0 0,.slice none 0 0,.int .i64 0,.slice none 0 0,.slice none 0 0,.int .i64 0,.int .i64 0,.int .i64 0],.slice none 0 0,.int .i64 JE]) (by simp[results,results16,go_sem,z0,z1,z2,z3,z4,z5,z6,z7,z8]) rfl ⟨⟨jx0,.slice none 0 0,[],by rw[HSE.out];rfl,by rw[HSE.out];rfl,by rw[HSE.out];exact⟨Ch (CA HB9.out.size),Ch (CA HB9.out.size),CG.start HB9.out.size⟩⟩,HB9.out⟩
end jn
end Go.Proofs.YtdohnkkbkfhphaaGreat
