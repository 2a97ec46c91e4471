import Derived.Test.YtdohnkkbkfhphaaGreatPq13
import Derived.Shelf.SlSortCmp.NoneTotal
set_option linter.all false
set_option maxHeartbeats 8000000
set_option maxRecDepth 100000
namespace Go.Proofs.YtdohnkkbkfhphaaGreat.jn
open Go.Proofs.Tryz
open Go.ChangeShapes Go.WideShapes Go.ChangeAt Go.RowKit
open vl
attribute [local go_sem] Oper.semAt_some
variable {U U' : World} {b : Nat} {s : Jn} {y : JX} {p : pl.Pln} {x : pl.PA} {t : Value}
theorem SZ(p:pl.Pln)(s:Jn)(v:Ev):Az p s v=if¬(v.kind=1\/v.kind=2)\/pl.A0 v.side=false then 4 else if tm.AP v.time=false then 3 else if v.kind=2 then FR s v else EO p s v:=rfl
theorem J0(p:pl.Pln)(x:pl.PA)(s:Jn)(y:JX)(v:Ev)(ra:Option Addr)(rc:Nat)(w:World)(hw:pl.wfPlan p)(hp:pl.planAt w p x)(h:joinAt w s y)(hwf:wfJ s)(hv:evAt w v ra):
 Calls Tryz.prog 47 #[pl.As p x,joinV s y,evV v ra rc] w fun e w'=>e= .returned (.int .i64 (Az p s v))/\Bwz w w':=by
 have KI:Hid (∀w1,Calls Tryz.prog 87 #[.int .i64 v.side] w1 fun e w'=>e= .returned (.bool (pl.A0 v.side))/\w'=w1):=fun w1=>pl.Ck _ w1
 have KF:Hid (∀w1,Calls Tryz.prog 88 #[.int .i64 v.time] w1 fun e w'=>e= .returned (.bool (tm.AP v.time))/\w'=w1):=fun w1=>tm.Ca _ w1
 have KM:=hIz (fun(w1:World)=>Ku s y v ra rc w1)
 have KR:=hIz (fun(w1:World) (hb:Bwz w w1)=>Mi p x s y v ra rc w1 hw (pl.Ah hp hb) (h.below hb) hwf (hv.below hb))
 obtain⟨R,hR⟩:=nM (Az p s v)
 have HR:Hid (Az p s v=R):=hR
 rw[hR]
 clear hR hw hp h hwf hv
 rw[SZ]at HR
 obtain⟨SB,h1⟩:=nM (pl.A0 v.side)
 obtain⟨FB,h2⟩:=nM (tm.AP v.time)
 obtain⟨E1,h3⟩:=nM (FR s v)
 obtain⟨E2,h4⟩:=nM (EO p s v)
 rw[h1]at KI HR
 rw[h2]at KF HR
 rw[h3]at KM HR
 rw[h4]at KR HR
 clear h1 h2 h3 h4
 unfold pl.As at KR⊢
 rw[AK]at KM KR⊢
 unfold evV at KM KR⊢
 obtain⟨kd,sd,tm,row⟩:=v
 dsimp only at *
 obtain⟨n,hn⟩:=nM row.length
 rw[hn]at KM KR⊢
 clear hn
 go_enter func47,ntmps47
 by_cases c1:kd=1
 ·have k1:(kd==1)=true:=by simpa using c1
  have k2:(kd !=1)=false:=by simpa using c1
  have k3:(kd==2)=false:=by rw[beq_eq_false_iff_ne];omega
  have r4:Hid (SB=false->(4:Int)=R):=fun h=>by rw[<-HR.out,if_pos (.inr h)]
  have r3:Hid (SB=true->FB=false->(3:Int)=R):=fun h1 h2=>by rw[<-HR.out,if_neg (by simp[c1,h1]),if_pos h2]
  have rE:Hid (SB=true->FB=true->E2=R):=fun h1 h2=>by rw[<-HR.out,if_neg (by simp[c1,h1]),if_neg (by simp[h2]),if_neg (by omega)]
  clear c1 HR
  go_wp2_with fail
  generalize hV:(World.alloc (World.alloc (World.alloc w _) _) _)=V
  have hb0:Bwz w V:=by rw[<-hV];exact((bR.alloc nR _).alloc (by simp) _).alloc (by simp;omega) _
  have HP:Hid (BB V w.heap.size p x):=by
   subst hV
   exact Al (Al (CH ..) (bR.alloc nR _)) (bR.alloc nR _)
  have HJ:Hid (BT V (w.heap.size+1) s y):=by
   subst hV
   have:=BI (w.alloc (.cells #[.int .i64 p.kind,.int .i64 p.mode,.int .i64 p.low,.int .i64 p.high,.int .i64 p.size,.int .i64 p.limit,.slice x.l p.left.length x.lc,.slice x.r p.right.length x.rc,.slice x.lk p.lkeys.length x.lkc,.slice x.rk p.rkeys.length x.rkc,.bool p.grouped,.slice x.g p.group.length x.gc,.slice x.a p.aggs.length x.ac] 25)) s y 31
   rw[World.size_alloc]at this
   exact Aw this (bR.alloc nR _)
  have q0:V.cell? ⟨w.heap.size+1+1,0,none⟩=some (.int .i64 kd):=by subst hV;go_simp
  have q1:V.cell? ⟨w.heap.size+1+1,1,none⟩=some (.int .i64 sd):=by subst hV;go_simp
  have q2:V.cell? ⟨w.heap.size+1+1,2,none⟩=some (.int .i64 tm):=by subst hV;go_simp
  have q3:V.cell? ⟨w.heap.size+1+1,3,none⟩=some (.slice ra n rc):=by subst hV;go_simp
  clear hV
  refine(KI.out _).mono ?_
  rintro e w1 ⟨rfl,e1⟩
  obtain rfl:V=w1:=e1.symm
  cases SB with
  |false=>
   have HE:Hid ((4:Int)=R):=r4.out (by trivial)
   go_wp2
   go_ret
   exact⟨Ao HE.out,hb0⟩
  |true=>
   go_wp2_with fail
   refine(KF.out _).mono ?_
   rintro e w2 ⟨rfl,e2⟩
   obtain rfl:V=w2:=e2.symm
   cases FB with
   |false=>
    have HE:Hid ((3:Int)=R):=r3.out (by trivial) (by trivial)
    go_wp2
    go_ret
    exact⟨Ao HE.out,hb0⟩
   |true=>
    obtain⟨u0,u1,u2,u3,u4,u5,u6,u7,u8⟩:=HJ.out
    obtain⟨v0,v1,v2,v3,v4,v5,v6,v7,v8,v9,v10,v11,v12⟩:=HP.out
    go_wp2_with fail
    refine(KR.out _ hb0).mono ?_
    rintro e w3 ⟨rfl,hb3⟩
    have HE:Hid (E2=R):=rE.out (by trivial) (by trivial)
    clear u0 u1 u2 u3 u4 u5 u6 u7 u8 v0 v1 v2 v3 v4 v5 v6 v7 v8 v9 v10 v11 v12
    go_wp2
    go_ret
    exact⟨Ao HE.out,hb0.trans (hb3.mono hb0.size)⟩
 ·by_cases c2:kd=2
  ·have k1:(kd==1)=false:=by rw[beq_eq_false_iff_ne];omega
   have k2:(kd !=1)=true:=by simpa using c1
   have k3:(kd==2)=true:=by simpa using c2
   have k5:(kd !=2)=false:=by simpa using c2
   have r4:Hid (SB=false->(4:Int)=R):=fun h=>by rw[<-HR.out,if_pos (.inr h)]
   have r3:Hid (SB=true->FB=false->(3:Int)=R):=fun h1 h2=>by rw[<-HR.out,if_neg (by simp[c2,h1]),if_pos h2]
   have rE:Hid (SB=true->FB=true->E1=R):=fun h1 h2=>by rw[<-HR.out,if_neg (by simp[c2,h1]),if_neg (by simp[h2]),if_pos c2]
   clear c1 c2 HR
   go_wp2_with fail
   generalize hV:(World.alloc (World.alloc (World.alloc w _) _) _)=V
   have hb0:Bwz w V:=by rw[<-hV];exact((bR.alloc nR _).alloc (by simp) _).alloc (by simp;omega) _
   have HP:Hid (BB V w.heap.size p x):=by
    subst hV
    exact Al (Al (CH ..) (bR.alloc nR _)) (bR.alloc nR _)
   have HJ:Hid (BT V (w.heap.size+1) s y):=by
    subst hV
    have:=BI (w.alloc (.cells #[.int .i64 p.kind,.int .i64 p.mode,.int .i64 p.low,.int .i64 p.high,.int .i64 p.size,.int .i64 p.limit,.slice x.l p.left.length x.lc,.slice x.r p.right.length x.rc,.slice x.lk p.lkeys.length x.lkc,.slice x.rk p.rkeys.length x.rkc,.bool p.grouped,.slice x.g p.group.length x.gc,.slice x.a p.aggs.length x.ac] 25)) s y 31
    rw[World.size_alloc]at this
    exact Aw this (bR.alloc nR _)
   have q0:V.cell? ⟨w.heap.size+1+1,0,none⟩=some (.int .i64 kd):=by subst hV;go_simp
   have q1:V.cell? ⟨w.heap.size+1+1,1,none⟩=some (.int .i64 sd):=by subst hV;go_simp
   have q2:V.cell? ⟨w.heap.size+1+1,2,none⟩=some (.int .i64 tm):=by subst hV;go_simp
   have q3:V.cell? ⟨w.heap.size+1+1,3,none⟩=some (.slice ra n rc):=by subst hV;go_simp
   clear hV
   refine(KI.out _).mono ?_
   rintro e w1 ⟨rfl,e1⟩
   obtain rfl:V=w1:=e1.symm
   cases SB with
   |false=>
    have HE:Hid ((4:Int)=R):=r4.out (by trivial)
    go_wp2
    go_ret
    exact⟨Ao HE.out,hb0⟩
   |true=>
    go_wp2_with fail
    refine(KF.out _).mono ?_
    rintro e w2 ⟨rfl,e2⟩
    obtain rfl:V=w2:=e2.symm
    cases FB with
    |false=>
     have HE:Hid ((3:Int)=R):=r3.out (by trivial) (by trivial)
     go_wp2
     go_ret
     exact⟨Ao HE.out,hb0⟩
    |true=>
     obtain⟨u0,u1,u2,u3,u4,u5,u6,u7,u8⟩:=HJ.out
     obtain⟨v0,v1,v2,v3,v4,v5,v6,v7,v8,v9,v10,v11,v12⟩:=HP.out
     go_wp2_with fail
     refine(KM.out _).mono ?_
     rintro e w3 ⟨rfl,hb3⟩
     have HE:Hid (E1=R):=rE.out (by trivial) (by trivial)
     clear u0 u1 u2 u3 u4 u5 u6 u7 u8 v0 v1 v2 v3 v4 v5 v6 v7 v8 v9 v10 v11 v12
     go_wp2
     go_ret
     exact⟨Ao HE.out,hb0.trans (hb3.mono hb0.size)⟩
  ·have c1':(kd==1)=false:=by simpa using c1
   have c2':(kd==2)=false:=by simpa using c2
   have c1'':(kd !=1)=true:=by simpa using c1
   have c2'':(kd !=2)=true:=by simpa using c2
   have HE:Hid ((4:Int)=R):=by show _=_;rw[<-HR.out,if_pos (.inl (fun k=>k.elim c1 c2))]
   go_wp2
   go_ret
   exact⟨Ao HE.out,((bR.alloc nR _).alloc (by simp) _).alloc (by simp;omega) _⟩
theorem FP(side:Int)(w:World)(h:pl.A0 side=true):Calls Tryz.prog 264 #[.int .i64 side] w fun e w'=>e= .returned (.int .i64 (3 - side))/\w'=w:=by
 have hs:side=1\/side=2:=by unfold pl.A0 at h;simpa using h
 rcases hs with rfl|rfl<;>
 ·go_enter func264,ntmps264
  go_wp2
  go_ret
  exact⟨rfl,rfl⟩
theorem Lo(b o:Nat)(side:Int)(w:World):Calls Tryz.prog 143 #[.pointer (some ⟨b,o,none⟩),.int .i64 side] w fun e w'=>e= .returned (.pointer (some ⟨b,o+Bp side,none⟩))/\w'=w:=by
 unfold Bp
 by_cases h:side=2
 ·subst h
  go_enter func143,ntmps143
  go_wp2
  go_ret
  exact⟨rfl,rfl⟩
 ·have h1:(side==2)=false:=by simpa using h
  rw[if_neg h]
  go_enter func143,ntmps143
  go_wp2
  go_ret
  exact⟨rfl,rfl⟩
theorem Em(b o:Nat)(side:Int)(w:World):Calls Tryz.prog 144 #[.pointer (some ⟨b,o,none⟩),.int .i64 side] w fun e w'=>e= .returned (.pointer (some ⟨b,o+Ap side,none⟩))/\w'=w:=by
 unfold Ap
 by_cases h:side=2
 ·subst h
  go_enter func144,ntmps144
  go_wp2
  go_ret
  exact⟨rfl,rfl⟩
 ·have h1:(side==2)=false:=by simpa using h
  rw[if_neg h]
  go_enter func144,ntmps144
  go_wp2
  go_ret
  exact⟨rfl,rfl⟩
def jnC(U:World)(b:Nat)(s:Jn)(y:JX):Prop:=U.cell? ⟨b,13,none⟩=some (.int .i64 s.L.lim)/\U.cell? ⟨b,14,none⟩=some (.slice y.l.m.1.1 y.l.m.1.2.1 y.l.m.1.2.2)/\U.cell? ⟨b,15,none⟩=some (.slice y.l.ra y.l.rs.length y.l.rc)/\U.cell? ⟨b,16,none⟩=some (.int .i64 s.R.lim)/\U.cell? ⟨b,17,none⟩=some (.slice y.r.m.1.1 y.r.m.1.2.1 y.r.m.1.2.2)/\U.cell? ⟨b,18,none⟩=some (.slice y.r.ra y.r.rs.length y.r.rc)/\U.cell? ⟨b,19,none⟩=some (.int .i64 s.lm)/\U.cell? ⟨b,20,none⟩=some (.int .i64 s.rm)/\U.cell? ⟨b,21,none⟩=some (.int .i64 s.seq)
structure boxC(U:World)(b:Nat)(p:pl.Pln)(x:pl.PA)(s:Jn)(y:JX)(t:Value):Prop where
 plan:BB U b p x
 join:jnC U b s y
 told:U.cell? ⟨b,22,none⟩=some t
 room:U.there b 0 23
theorem QZ(h:jnC U b s y)(hb:Bwz U U'):jnC U' b s y:=by
 obtain⟨u0,u1,u2,u3,u4,u5,u6,u7,u8⟩:=h
 exact⟨cLz hb u0,cLz hb u1,cLz hb u2,cLz hb u3,cLz hb u4,cLz hb u5,cLz hb u6,cLz hb u7,cLz hb u8⟩
theorem boxC.later(h:boxC U b p x s y t)(hb:Bwz U U'):boxC U' b p x s y t:=⟨Al h.plan hb,QZ h.join hb,cLz hb h.told,BA h.room hb⟩
theorem boxC.lt(h:boxC U b p x s y t):b<U.heap.size:=Mf h.plan
theorem LY(h:jnC U b s y)(side:Int):U.cell? ⟨b,13+Bp side,none⟩=some (.int .i64 (markOf s side)):=by
 obtain⟨u0,u1,u2,u3,u4,u5,u6,u7,u8⟩:=h
 unfold Bp markOf
 split
 ·exact u7
 ·exact u6
theorem DO(h:jnC U b s y)(side:Int):U.cell? ⟨b,13+Ap side,none⟩=some (.int .i64 (Ae s side).lim)/\U.cell? ⟨b,13+Ap side+1,none⟩=some (.slice (Bj y side).m.1.1 (Bj y side).m.1.2.1 (Bj y side).m.1.2.2)/\U.cell? ⟨b,13+Ap side+2,none⟩=some (.slice (Bj y side).ra (Bj y side).rs.length (Bj y side).rc):=by
 obtain⟨u0,u1,u2,u3,u4,u5,u6,u7,u8⟩:=h
 unfold Ap Ae Bj
 split
 ·exact⟨u3,u4,u5⟩
 ·exact⟨u0,u1,u2⟩
def Ay(p:pl.Pln)(s:Jn)(side:Int):Int:=if markOf s (3 - side)=noMark then noMark else pl.F6 p side (markOf s (3 - side))
theorem Fq(b:Nat)(p:pl.Pln)(x:pl.PA)(s:Jn)(y:JX)(t:Value)(side:Int)(w:World)(hw:pl.wfPlan p)(hp:pl.planAt w p x)(h:boxC w b p x s y t)(hs:pl.A0 side=true):
 Calls Tryz.prog 260 #[.pointer (some ⟨b,0,none⟩),.int .i64 side] w fun e w'=>e= .returned (.int .i64 (Ay p s side))/\Bwz w w':=by
 have KO:=hIz (fun(w1:World)=>FP side w1 hs)
 have KM:Hid (∀w1,Calls Tryz.prog 143 #[.pointer (some ⟨b,13,none⟩),.int .i64 (3 - side)] w1 fun e w'=>e= .returned (.pointer (some ⟨b,13+Bp (3 - side),none⟩))/\w'=w1):=fun w1=>Lo b 13 (3 - side) w1
 have KG:=hIz (fun m (w1:World) (hb:Bwz w w1)=>pl.Fq p x side m w1 hw (pl.Ah hp hb))
 have HC:=LY h.join (3 - side)
 have HP:Hid (BB w b p x):=h.plan
 obtain⟨R,hR⟩:=nM (Ay p s side)
 have HR:Hid (Ay p s side=R):=hR
 rw[hR]
 clear hR hw hp h hs
 unfold Ay at HR
 obtain⟨k,hk⟩:=nM (13+Bp (3 - side))
 obtain⟨M,hM⟩:=nM (markOf s (3 - side))
 obtain⟨od,hod⟩:=nM (3 - side)
 rw[hk]at KM HC
 rw[hM]at HC HR
 rw[hod]at KO KM
 clear hk hM hod
 unfold pl.As at KG
 go_enter func260,ntmps260
 by_cases h1:M=noMark
 ·have h1':(M== -1099511627777)=true:=by unfold noMark at h1;simpa using h1
  have HE:Hid ((-1099511627777:Int)=R):=by show _=_;rw[<-HR.out,if_pos h1];rfl
  clear KG HP
  go_wp2
  go_region_held3 (fun w'=>w'.cell? ⟨b,k,none⟩=some (.int .i64 M)) (first|go_keep|exact HC) (first
   |(go_at_call 143;refine(KM.out _).mono ?_;rintro e w3 ⟨rfl,rfl⟩)
   |(go_at_call 264;refine(KO.out _).mono ?_;rintro e w2 ⟨rfl,rfl⟩))
  all_goals
   go_wp2
   go_ret
   exact⟨Ao HE.out,by first|exact bR|exact bR.drew⟩
 ·have h1':(M== -1099511627777)=false:=by unfold noMark at h1;simpa using h1
  have HE:Hid (pl.F6 p side M=R):=by show _=_;rw[<-HR.out,if_neg h1]
  obtain⟨v0,v1,v2,v3,v4,v5,v6,v7,v8,v9,v10,v11,v12⟩:=HP.out
  go_wp2
  go_region_held3 (fun w'=>w'.cell? ⟨b,k,none⟩=some (.int .i64 M)) (first|go_keep|exact HC) (first
   |(go_at_call 143;refine(KM.out _).mono ?_;rintro e w3 ⟨rfl,rfl⟩)
   |(go_at_call 264;refine(KO.out _).mono ?_;rintro e w2 ⟨rfl,rfl⟩))
  all_goals
   go_wp2_with (go_at_call 57;refine(KG.out _ _ (by first|exact bR|exact bR.drew)).mono ?_;rintro e w4 ⟨rfl,hb4⟩)
   go_ret
   exact⟨Ao HE.out,by first|exact hb4|exact bR.drew.trans hb4⟩
end Go.Proofs.YtdohnkkbkfhphaaGreat.jn
namespace Go.Proofs.YtdohnkkbkfhphaaGreat.bf
open Go.ChangeShapes Go.WideShapes Go.ChangeAt Go.RowKit
open vl
attribute [local go_sem] Oper.semAt_some
end Go.Proofs.YtdohnkkbkfhphaaGreat.bf
namespace Go.Proofs.YtdohnkkbkfhphaaGreat.bf
open Go.ChangeShapes Go.WideShapes Go.ChangeAt Go.RowKit Go.Sort
open vl
variable {w w' : World}
def IJ(w w':World):Prop:=∃q os,w'=grow (w.drewN q) os
theorem IJ.refl(w:World):IJ w w:=⟨0,#[],by simp[World.drewN]⟩
theorem IJ.drew(h:IJ w w'):IJ w w'.drew:=by
 obtain⟨q,os,rfl⟩:=h
 exact⟨q+1,os,rfl⟩
theorem IJ.alloc(h:IJ w w')(o:Obj):IJ w (w'.alloc o):=by
 obtain⟨q,os,rfl⟩:=h
 exact⟨q,os.push o,by simp[grow,World.alloc]⟩
attribute [local go_sem ↓] Go.wp_at_zero Go.wp_at_succ
theorem LZ(e f:EM)(w:World):
 Calls Tryz.prog 116 #[e.val,f.val] w fun r w'=>r= .returned (.int .i64 (Dj e.ent f.ent))/\IJ w w':=by
 have HC:Hid (A8 [Lib.compareBytes e.key.data.toList f.key.data.toList,Cd e.time f.time,Cd e.seq f.seq]=Dj e.ent f.ent):=Gt e.ent f.ent
 obtain⟨k1,t1,s1,⟨a1,b1,c1⟩,m1⟩:=e
 obtain⟨k2,t2,s2,⟨a2,b2,c2⟩,m2⟩:=f
 rw[<-HC.out]
 clear HC
 unfold EM.val hdV
 dsimp only
 go_enter Tryz.func116,Tryz.ntmps116
 go_wp2
 go_region_held3 (fun w'=>w'.cell? ⟨w.heap.size,0,none⟩=some (.string k1)/\w'.cell? ⟨w.heap.size,1,none⟩=some (.int .i64 t1)/\w'.cell? ⟨w.heap.size,2,none⟩=some (.int .i64 s1)/\w'.cell? ⟨w.heap.size+1,0,none⟩=some (.string k2)/\w'.cell? ⟨w.heap.size+1,1,none⟩=some (.int .i64 t2)/\w'.cell? ⟨w.heap.size+1,2,none⟩=some (.int .i64 s2)) (go_keep)
  (first
   |(go_at_call 166;refine(Gq _ _ _).mono ?_;rintro e w' ⟨rfl,rfl⟩)
   |(go_at_call 165;refine(Gp _ _ _).mono ?_;rintro e w' ⟨rfl,rfl⟩)
   |(go_at_call 164;refine(or3 _ (Lib.compareBytes k1.data.toList k2.data.toList) (Cd t1 t2) (Cd s1 s2) _ ?_ ?_ ?_).mono ?_;(go_simp);(go_simp);(go_simp);rintro e w' ⟨rfl,rfl⟩))
 all_goals
  go_wp2
  go_ret
  refine⟨rfl,?_⟩
  repeat (first|exact IJ.refl _|apply IJ.drew|(refine IJ.alloc ?_ _))
theorem Wf(a b:EM):(decide (Dj a.ent b.ent<0))=decide (ltP a.ent b.ent):=decide_eq_decide.2 Ns
theorem Ra{α β:Type}(f:α->β):∀{m n:List β},m.Perm n->∀l:List α,n=l.map f->∃l':List α,l'.Perm l/\m=l'.map f:=by
 intro m n h
 induction h with
 |nil=>intro l hl;exact⟨l,List.Perm.refl _,hl⟩
 |cons x _ ih=>
  intro l hl
  cases l with
  |nil=>cases hl
  |cons a l=>
   rw[List.map_cons]at hl
   injection hl with h1 h2
   obtain⟨l',hp,e⟩:=ih l h2
   exact⟨a::l',hp.cons a,by rw[List.map_cons,<-h1,e]⟩
 |swap x y _=>
  intro l hl
  match l,hl with
  |a::b::l,hl=>
   rw[List.map_cons,List.map_cons]at hl
   injection hl with h1 h2
   injection h2 with h2 h3
   exact⟨b::a::l,List.Perm.swap ..,by rw[List.map_cons,List.map_cons,<-h1,<-h2,<-h3]⟩
 |trans _ _ ih1 ih2=>
  intro l hl
  obtain⟨l1,p1,e1⟩:=ih2 l hl
  obtain⟨l2,p2,e2⟩:=ih1 l1 e1
  exact⟨l2,p2.trans p1,e2⟩
end Go.Proofs.YtdohnkkbkfhphaaGreat.bf
namespace Go.Proofs.YtdohnkkbkfhphaaGreat.bf
open Go.ChangeShapes Go.WideShapes Go.ChangeAt Go.RowKit Go.Sort Go.Shelf
open vl
variable {w : World} {base cap g n : Nat} {es : List EM} {d : Array EM}
def Hh(e:EM):List Value:=[.string e.key,.int .i64 e.time,.int .i64 e.seq,hdV e.row,.bool e.met]
theorem Ta(e:EM):(Hh e).length=5:=rfl
theorem Tb(e:EM):∀v∈Hh e,v.oneCell'=true:=by
 intro v hv
 unfold Hh hdV at hv
 simp at hv
 rcases hv with rfl|rfl|rfl|rfl|rfl<;>rfl
theorem Ma(l:List EM)(t:Nat)(h:t<l.length * 5):(Ar l)[t]? =some ((Hh (l.getD (t/5) default))[t % 5]!):=by
 obtain⟨h0,h1,h2,h3,h4⟩:=Ei l (t/5) (by omega)
 have hm:t % 5=0\/t % 5=1\/t % 5=2\/t % 5=3\/t % 5=4:=by omega
 rcases hm with e|e|e|e|e
 ·have ht:t=t/5 * 5:=by omega
  rw[e];rw[<-ht]at h0;exact h0
 ·have ht:t=t/5 * 5+1:=by omega
  rw[e];rw[<-ht]at h1;exact h1
 ·have ht:t=t/5 * 5+2:=by omega
  rw[e];rw[<-ht]at h2;exact h2
 ·have ht:t=t/5 * 5+3:=by omega
  rw[e];rw[<-ht]at h3;exact h3
 ·have ht:t=t/5 * 5+4:=by omega
  rw[e];rw[<-ht]at h4;exact h4
theorem Fr(l:List EM)(i:Nat)(h:i<l.length):l.toArray[i]! =l.getD i default:=by
 rw[getElem!_pos l.toArray i (by simpa using h),gDe,gEe h];rfl
theorem flat_get(l:List EM)(t:Nat)(h:t<l.length * 5):(Ar l)[t]? =some ((flatK Hh 5 l.toArray)[t]!):=by
 rw[get_flatK _ _ _ _ (by simpa using h),Fr l (t/5) (by omega)]
 exact Ma l t h
theorem Rb(h:w.ownsRow base 63 5 (.slice (some ⟨g,0,none⟩) es.length cap) es.length (Ar es)):HoldsK Hh 5 w g 0 es.toArray:=by
 intro j hj
 rw[size_flatK]at hj
 have hj':j<es.length * 5:=by simpa using hj
 constructor
 ·have:=World.ownsRow.cells h (g:=g) rfl j _ (flat_get es j hj')
  rw[C9]at this
  exact this
 ·rcases h.2 with⟨hv,_⟩|⟨g',cap',cur,hv,h1,hg,_⟩
  ·cases hv
  ·cases hv
   simp[World.frozen?,hg]
theorem Mb{os:Array Obj}{b:Nat}(hb:b<w.heap.size)(hne:b≠g):(sortWorldK Hh 5 w g 0 n d os).heap[b]? =w.heap[b]? :=by
 show((w.heap.modify g _)++os)[b]? =_
 rw[Array.getElem?_append_left (by rw[Array.size_modify];exact hb),Array.getElem?_modify,if_neg (fun e=>hne e.symm)]
theorem PW{os:Array Obj}:w.heap.size<=(sortWorldK Hh 5 w g 0 n d os).heap.size:=by
 show _<=((w.heap.modify g _)++os).size
 rw[Array.size_append,Array.size_modify];omega
theorem Tc{os:Array Obj}(hg:base<=g)(hs:base<=w.heap.size):Below base w (sortWorldK Hh 5 w g 0 n d os):=
 ⟨rfl,rfl,rfl,PW,fun k hk=>Mb (by omega) (by omega)⟩
theorem Wg{d:List EM}{os:Array Obj}(h:w.ownsRow base 63 5 (.slice (some ⟨g,0,none⟩) es.length cap) es.length (Ar es))(hd:d.length=es.length):
 (sortWorldK Hh 5 w g 0 n d.toArray os).ownsRow base 63 5 (.slice (some ⟨g,0,none⟩) es.length cap) es.length (Ar d):=by
 refine⟨by rw[GR,hd],?_⟩
 rcases h.2 with⟨hv,_⟩|⟨g',cap',cur,hv,h1,hg,h2,h3,h4,h5⟩
 ·cases hv
 ·cases hv
  have hlt:g<w.heap.size:=(Array.getElem?_eq_some_iff.1 hg).1
  refine .inr ⟨g,cap,putCells id 0 (flatK Hh 5 d.toArray) cur,rfl,h1,?_,h2,h3,by simpa[putCells]using h4,?_⟩
  ·show((w.heap.modify g _)++os)[g]? =_
   rw[Array.getElem?_append_left (by rw[Array.size_modify];exact hlt),Array.getElem?_modify,if_pos rfl,hg]
   rfl
  ·apply List.ext_getElem?
   intro t
   have hsz:es.length * 5<=cur.size:=by rw[h4];exact Nat.mul_le_mul_right _ h2
   by_cases ht:t<es.length * 5
   ·rw[List.getElem?_take_of_lt ht,flat_get d t (by rw[hd];exact ht)]
    have htc:t<cur.size:=by omega
    simp only[putCells,Array.getElem?_toList,Array.getElem?_mapIdx,Array.getElem?_eq_getElem htc,Option.map_some]
    rw[if_pos ⟨Nat.zero_le _,by rw[size_flatK];simp;omega⟩]
    rfl
   ·rw[List.getElem?_eq_none (by rw[List.length_take];omega),List.getElem?_eq_none (by rw[GR,hd];omega)]
theorem Rc{l:List Ent}{d:List EM}{os:Array Obj}(h:OE w base (.slice (some ⟨g,0,none⟩) es.length cap) es l)(hp:d.Perm es):
 ∃l',l'.Perm l/\OE (sortWorldK Hh 5 w g 0 n d.toArray os) base (.slice (some ⟨g,0,none⟩) es.length cap) d l':=by
 have hl:=hp.length_eq
 have ez:es=(es.zip l).map Prod.fst:=(List.map_fst_zip (by rw[h.len];exact Nat.le_refl _)).symm
 have el:(es.zip l).map Prod.snd=l:=List.map_snd_zip (by rw[h.len];exact Nat.le_refl _)
 obtain⟨zs,pz,dz⟩:=Ra Prod.fst hp (es.zip l) ez
 refine⟨zs.map Prod.snd,by have:=pz.map Prod.snd;rwa[el]at this,⟨Nat.le_trans h.low PW,?_,?_,fun i hi=>?_⟩⟩
 ·rw[hl];exact Wg h.own hl
 ·rw[dz,lMp,lMp]
 ·rw[lMp]at hi
  have hz:zs[i]∈es.zip l:=pz.mem_iff.1 (List.getElem_mem hi)
  obtain⟨j,hj,ej⟩:=List.getElem_of_mem hz
  have hjl:j<l.length:=by rw[List.length_zip]at hj;omega
  have hje:j<es.length:=by rw[h.len];exact hjl
  rw[List.getElem_zip]at ej
  have e1:d.getD i default=es.getD j default:=by
   rw[dz,gDe,List.getElem?_map,gEe hi,<-ej,gDe,gEe hje];rfl
  have e2:(zs.map Prod.snd).getD i default=l.getD j default:=by
   rw[gDe,List.getElem?_map,gEe hi,<-ej,gDe,gEe hjl];rfl
  rw[e1,e2]
  obtain⟨a1,a2,a3,a4,a5,a6⟩:=h.rows j hjl
  refine⟨a1,a2,a3,a4,a5,A2 a6 (fun b hb=>Mb (AG a6 hb).2 (fun e=>?_))⟩
  exact FG h.own a6 (by decide) (show(Value.slice (some ⟨g,0,none⟩) es.length cap).ownBlock=some b by rw[e];rfl) hb
end Go.Proofs.YtdohnkkbkfhphaaGreat.bf
namespace Go.Proofs
open Go.Shelf
def Tryz.sortE_ren:Go.Shelf.Ren:=⟨fun|6=>115|15=>163|14=>162|28=>203|29=>204|20=>195|21=>196|22=>197|23=>198|24=>199|25=>200|26=>201|27=>202|46=>213|47=>214|48=>215|49=>216|50=>217|57=>223|n=>n,fun|22=>26|24=>63|25=>104|3=>3|39=>211|0=>0|53=>251|55=>253|4=>4|46=>244|45=>243|50=>248|5=>5|9=>9|66=>259|70=>193|76=>269|77=>270|n=>n,fun|n=>n⟩
theorem Tryz.sortE:Go.Proofs.SlLaysF0.n6 Tryz.prog Tryz.sortE_ren:={
 mixed:=by kernel_rfl
 f6:=⟨Tryz.f115.name,by decide,Tryz.func115.trans (congrArg some (by kernel_rfl))⟩
 f14:=⟨Tryz.f162.name,by decide,Tryz.func162.trans (congrArg some (by kernel_rfl))⟩
 f15:=Tryz.func163.trans (congrArg some (by kernel_rfl))
 f20:=⟨Tryz.f195.name,by decide,Tryz.func195.trans (congrArg some (by kernel_rfl))⟩
 f21:=⟨Tryz.f196.name,by decide,Tryz.func196.trans (congrArg some (by kernel_rfl))⟩
 f22:=⟨Tryz.f197.name,by decide,Tryz.func197.trans (congrArg some (by kernel_rfl))⟩
 f23:=⟨Tryz.f198.name,by decide,Tryz.func198.trans (congrArg some (by kernel_rfl))⟩
 f24:=⟨Tryz.f199.name,by decide,Tryz.func199.trans (congrArg some (by kernel_rfl))⟩
 f25:=⟨Tryz.f200.name,by decide,Tryz.func200.trans (congrArg some (by kernel_rfl))⟩
 f26:=⟨Tryz.f201.name,by decide,Tryz.func201.trans (congrArg some (by kernel_rfl))⟩
 f27:=⟨Tryz.f202.name,by decide,Tryz.func202.trans (congrArg some (by kernel_rfl))⟩
 f28:=Tryz.func203.trans (congrArg some (by kernel_rfl))
 f29:=Tryz.func204.trans (congrArg some (by kernel_rfl))
 f46:=⟨Tryz.f213.name,by decide,Tryz.func213.trans (congrArg some (by kernel_rfl))⟩
 f47:=Tryz.func214.trans (congrArg some (by kernel_rfl))
 f48:=Tryz.func215.trans (congrArg some (by kernel_rfl))
 f49:=⟨Tryz.f216.name,by decide,Tryz.func216.trans (congrArg some (by kernel_rfl))⟩
 f50:=⟨Tryz.f217.name,by decide,Tryz.func217.trans (congrArg some (by kernel_rfl))⟩
 f57:=⟨Tryz.f223.name,by decide,Tryz.func223.trans (congrArg some (by kernel_rfl))⟩
 t0:=Tryz.underlying0
 a0:=Tryz.isAgg0
 z0:=Tryz.sizeOf0
 v0:=Tryz.zeroValue0
 t3:=Tryz.underlying3
 a3:=Tryz.isAgg3
 z3:=Tryz.sizeOf3
 v3:=Tryz.zeroValue3
 t4:=Tryz.underlying4
 a4:=Tryz.isAgg4
 z4:=Tryz.sizeOf4
 v4:=Tryz.zeroValue4
 t5:=Tryz.underlying5
 a5:=Tryz.isAgg5
 z5:=Tryz.sizeOf5
 v5:=Tryz.zeroValue5
 t9:=Tryz.underlying9
 a9:=Tryz.isAgg9
 z9:=Tryz.sizeOf9
 v9:=Tryz.zeroValue9
 t22:=Tryz.underlying26
 a22:=Tryz.isAgg26
 z22:=Tryz.sizeOf26
 v22:=Tryz.zeroValue26
 t25:=Tryz.underlying104
 a25:=Tryz.isAgg104
 z25:=Tryz.sizeOf104
 v25:=Tryz.zeroValue104
 t39:=Tryz.underlying211
 a39:=Tryz.isAgg211
 z39:=Tryz.sizeOf211
 v39:=Tryz.zeroValue211
 t45:=Tryz.underlying243
 a45:=Tryz.isAgg243
 z45:=Tryz.sizeOf243
 v45:=Tryz.zeroValue243
 t46:=Tryz.underlying244
 a46:=Tryz.isAgg244
 z46:=Tryz.sizeOf244
 v46:=Tryz.zeroValue244
 t50:=Tryz.underlying248
 a50:=Tryz.isAgg248
 z50:=Tryz.sizeOf248
 v50:=Tryz.zeroValue248
 t53:=Tryz.underlying251
 a53:=Tryz.isAgg251
 z53:=Tryz.sizeOf251
 v53:=Tryz.zeroValue251
 t55:=Tryz.underlying253
 a55:=Tryz.isAgg253
 z55:=Tryz.sizeOf253
 v55:=Tryz.zeroValue253
 t66:=Tryz.underlying259
 a66:=Tryz.isAgg259
 z66:=Tryz.sizeOf259
 v66:=Tryz.zeroValue259
 t70:=Tryz.underlying193
 a70:=Tryz.isAgg193
 z70:=Tryz.sizeOf193
 v70:=Tryz.zeroValue193
 t76:=Tryz.underlying269
 a76:=Tryz.isAgg269
 z76:=Tryz.sizeOf269
 v76:=Tryz.zeroValue269
 t77:=Tryz.underlying270
 a77:=Tryz.isAgg270
 z77:=Tryz.sizeOf270
 v77:=Tryz.zeroValue270}
end Go.Proofs
namespace Go.Proofs.YtdohnkkbkfhphaaGreat.bf
open Go.ChangeShapes Go.WideShapes Go.ChangeAt Go.RowKit Go.Sort Go.Shelf
open vl
def cfE(a b:EM):Int:=Dj a.ent b.ent
theorem Mc(a b:EM):ltOf cfE a b=decide (ltP a.ent b.ent):=Wf a b
theorem swoE:SWO (ltOf cfE) where
 irrefl x:=by rw[Mc];exact decide_eq_false (BH _)
 trans x y z h1 h2:=by
  rw[Mc]at *
  exact decide_eq_true (B4 (of_decide_eq_true h1) (of_decide_eq_true h2))
 ntrans x y z h1 h2:=by
  rw[Mc]at *
  have n1:=of_decide_eq_false h1
  have n2:=of_decide_eq_false h2
  refine decide_eq_false (fun h=>?_)
  rcases ltP_tri x.ent y.ent with h3|h3|h3
  ·exact n1 h3
  ·exact n2 (Tj (DV h3) h)
  ·exact n2 (B4 h3 h)
theorem cmpE(g off size:Nat)(w:World):CmpLays Tryz.prog 116 #[] Hh 5 cfE g off size w:=by
 intro m os dk _ x y
 rw[Array.append_empty]
 exact LZ x y _
theorem Wh{w w':World}{base base':Nat}{e f:EM}{x y:Ent}(h:OR w base e x)(k:OR w' base' f y):ltP e.ent f.ent↔ltP x y:=by
 unfold ltP EM.ent
 simp only[h.key,h.time,h.seq,k.key,k.time,k.seq]
theorem Nk(base:Nat)(v:Value)(es:List EM)(l:List Ent)(w:World)(h:OE w base v es l)(hl:es.length<=1000000):
 Calls Tryz.prog 115 #[v,.func (.func 116) #[] #[]] w fun e w'=>e= .returned (.tuple #[])/\∃es' l',l'.Perm l/\(∀i j,i<j->j<l'.length->¬ltP (l'.getD j default) (l'.getD i default))/\OE w' base v es' l'/\Below base w w'/\(∀b,b<w.heap.size->v.ownBlock≠some b->w'.heap[b]? =w.heap[b]?):=by
 rcases h.own.2 with⟨hv,h0⟩|⟨g,cap,cur,hv,h1,hg,_⟩
 ·subst hv
  refine(AnyF.slices_SortFunc_none Tryz.sortE none 0 (.func (.func 116) #[] #[]) w).mono ?_
  rintro e w' ⟨rfl,rfl⟩
  exact⟨rfl,es,l,List.Perm.refl _,fun i j hij hj=>by rw[<-h.len,h0]at hj;omega,h,bR,fun _ _ _=>rfl⟩
 ·subst hv
  have hlt:g<w.heap.size:=(Array.getElem?_eq_some_iff.1 hg).1
  have eg:∀args w,(callFunc 116 args).run Tryz.prog w= .ok (.enter 116 args) w:=enters_of Tryz.func116 (by kernel_rfl) rfl
  have hc:=AnyQ.slices_SortFunc Tryz.sortE 5 Tryz.isAgg63 Tryz.sizeOf63 Hh Ta Tb cfE swoE 116 #[] g 0 cap es.toArray w eg (cmpE g 0 es.toArray.size w) (Rb h.own) hlt (by simp;omega)
  rw[List.size_toArray]at hc
  refine Calls.mono hc ?_
  rintro e w' ⟨rfl,d',n,os,hp,hs,rfl⟩
  obtain⟨d',rfl⟩:∃z:List EM,d'=z.toArray:=⟨d'.toList,by simp⟩
  have hdl:d'.length=es.length:=by have:=hp.1;simpa using this
  have hpp:d'.Perm es:=by
   have:=hp.2.2
   simpa[hdl,List.take_of_length_le]using this
  obtain⟨l',pl,hoe⟩:=Rc (n:=n) (os:=os) h hpp
  refine⟨rfl,d',l',pl,fun i j hij hj=>?_,hoe,Tc h1 h.low,fun b hb hne=>Mb hb (fun e=>hne (by rw[e];rfl))⟩
  have hjd:j<d'.length:=by rw[hoe.len];exact hj
  have:=hs i j (Nat.zero_le _) hij (by rw[<-hdl];exact hjd)
  rw[Fr d' j hjd,Fr d' i (by omega),Mc]at this
  have hn:=of_decide_eq_false this
  exact fun hlt'=>hn ((Wh (hoe.rows j hj) (hoe.rows i (by omega))).2 hlt')
end Go.Proofs.YtdohnkkbkfhphaaGreat.bf
namespace Go.Proofs.YtdohnkkbkfhphaaGreat.bf
open Go.ChangeShapes Go.WideShapes Go.ChangeAt Go.RowKit Go.Shelf
open vl
attribute [local go_sem] Oper.semAt_some
variable {LB b n : Nat} {W X Y w3 w4 : World} {v : Value} {es : List EM} {l : List Ent} {o : Obj}
def I5(n LB:Nat):Nat->Obj->Prop:=fun b o=>b≠LB/\∀c f,o= .cells c 63 f->b<n
theorem Rd(h:b<n)(hL:n<=LB):names (I5 n LB) W b:=fun o _=>⟨by omega,fun _ _ _=>h⟩
theorem Nl{t:TypeId}(h:An W b t)(ht:t≠63)(hb:b≠LB):names (I5 n LB) W b:=fun o ho=>⟨hb,fun c f e=>by
 obtain⟨c',f',h'⟩:=h
 rw[ho]at h'
 rw[e]at h'
 injection h' with e1
 injection e1 with _ e2 _
 exact absurd e2.symm ht⟩
structure Mk(X:World)(n LB:Nat)(v:Value)(es:List EM)(l:List Ent):Prop where
 oe:OE X n v es l
 c:X.cell? ⟨LB,0,none⟩=some v
 f:X.frozen? ⟨LB,0,none⟩=false
 ty:An X LB 26
theorem Mk.below(h:Mk X n LB v es l)(hb:Bwz X Y):Mk Y n LB v es l:=
 ⟨h.oe.below hb,cLz hb h.c,(hb.frozen (p:=⟨LB,0,none⟩) (Ba h.ty)).trans h.f,Af h.ty hb⟩
theorem Mk.row{row:Option Nat}(h:Mk X n LB v es l)(hg:X.grownBy Y row)(hr:∀r,row=some r->∃x:Obj,X.heap[r]? =some x/\x.isCells=false):Mk Y n LB v es l:=by
 have hk:∀(b:Nat) (c:Array Value) (t:TypeId) (f:Nat×Nat),X.heap[b]? =some (.cells c t f)->Y.heap[b]? =X.heap[b]? :=fun b c t f hb=>hg.block b (Array.getElem?_eq_some_iff.1 hb).1 (fun e=>by
  obtain⟨x,h1,h2⟩:=hr b e.symm
  rw[hb]at h1;cases h1;cases h2)
 obtain⟨c',f',ht⟩:=h.ty
 have e:=hk _ _ _ _ ht
 exact⟨h.oe.same hg.size (fun g cur t hg' _=>hk _ _ _ _ hg'),(cOb (a:=⟨LB,0,none⟩) e).trans h.c,(A6 (p:=⟨LB,0,none⟩) e).trans h.f,AD h.ty e⟩
theorem IP{e:EM}{y:Ent}{g c4:Nat}(h:Mk X n LB v es l)(hb:Bwz X w3)(hx:OR w3 n e y)(hL:n<=LB)
 (hown:w4.ownsRow n 63 5 (.slice (some ⟨g,0,none⟩) (es.length+1) c4) (es.length+1) (Ar es++[.string e.key,.int .i64 e.time,.int .i64 e.seq,hdV e.row,.bool e.met])) (hg:(w3.alloc o).grownBy w4 v.ownBlock) (B:Nat):
 Mk (w4.setCell ⟨LB,0,none⟩ (.slice (some ⟨g,0,none⟩) (es.length+1) c4)) n LB (.slice (some ⟨g,0,none⟩) (es.length+1) c4) (es++[e]) (l++[y])/\Below n X (w4.setCell ⟨LB,0,none⟩ (.slice (some ⟨g,0,none⟩) (es.length+1) c4))/\
 Aj (I5 n LB) X (w4.setCell ⟨LB,0,none⟩ (.slice (some ⟨g,0,none⟩) (es.length+1) c4))/\KeepsFrom B X (w4.setCell ⟨LB,0,none⟩ (.slice (some ⟨g,0,none⟩) (es.length+1) c4)):=by
 have h3:=h.below hb
 have hsn:=LM h.oe hb hx hown hg
 have hlt:=Ba h3.ty
 have hbl:∀b,b<w3.heap.size->v.ownBlock≠some b->w4.heap[b]? =w3.heap[b]? :=fun b hb' ho=>by
  rw[hg.block b (by simp;omega) (fun e=>ho e.symm)]
  exact Below.heap_alloc _ _ b hb'
 have eL:w4.heap[LB]? =w3.heap[LB]? :=hbl LB hlt (fun e=>tyAt_apart (A7 h3.oe.own e) h3.ty (by decide) rfl)
 have t4:An w4 LB 26:=AD h3.ty eL
 have c4':=(cOb (a:=⟨LB,0,none⟩) eL).trans h3.c
 have f4:=(A6 (p:=⟨LB,0,none⟩) eL).trans h3.f
 have eO:∀b u,b≠LB->(w4.setCell ⟨LB,0,none⟩ u).heap[b]? =w4.heap[b]? :=fun b u hb'=>heap_setCell_other _ _ _ _ hb'
 refine⟨⟨hsn.1.other (by simp[World.setCell]) (fun b hb'=>eO b _ (by rcases hb' with k|k;exact tyAt_apart k t4 (by decide);exact tyAt_apart k t4 (by decide))),World.cell?_setCell_same _ _ _ c4',by go_simp,AC t4 _ _⟩,hsn.2.setCell hL _,fun b ob h1 h2 hP=>?_,?_⟩
 ·have hlb:b<X.heap.size:=(Array.getElem?_eq_some_iff.1 h1).1
  have e3:=hb.block b hlb
  rw[eO b _ hP.1,hbl b (Nat.lt_of_lt_of_le hlb hb.size) (fun e=>?_),e3]
  ·exact h1
  ·obtain⟨cc,ff,k⟩:=A7 h3.oe.own e
   rw[e3,h1]at k
   injection k with k
   have:=hP.2 cc ff k
   have:=(AG h3.oe.own e).1
   omega
 ·have k1:KeepsFrom B X w3:=Bs hb
  have k2:KeepsFrom B w3 w4:=⟨by have:=hg.size;simp at this;omega,fun k ob hk h1 h2=>by
   have hlk:k<w3.heap.size:=(Array.getElem?_eq_some_iff.1 h1).1
   rw[hbl k hlk (fun e=>?_)]
   ·exact h1
   ·obtain⟨cc,ff,k'⟩:=A7 h3.oe.own e
    rw[h1]at k'
    injection k' with k'
    rw[k']at h2
    cases h2⟩
  exact(k1.trans k2).trans ((KeepsOthers.setCell _ _ _).from _)
theorem OI(h:Mk X n LB v es l)(hb:Bwz X w3)(hg:(w3.alloc o).grownBy w4 v.ownBlock):w4.cell? ⟨LB,0,none⟩=some v/\w4.frozen? ⟨LB,0,none⟩=false:=by
 have h3:=h.below hb
 have hlt:=Ba h3.ty
 have eL:w4.heap[LB]? =w3.heap[LB]? :=by
  rw[hg.block LB (by simp;omega) (fun e=>tyAt_apart (A7 h3.oe.own e.symm) h3.ty (by decide) rfl)]
  exact Below.heap_alloc _ _ LB hlt
 exact⟨(cOb (a:=⟨LB,0,none⟩) eL).trans h3.c,(A6 (p:=⟨LB,0,none⟩) eL).trans h3.f⟩
end Go.Proofs.YtdohnkkbkfhphaaGreat.bf
