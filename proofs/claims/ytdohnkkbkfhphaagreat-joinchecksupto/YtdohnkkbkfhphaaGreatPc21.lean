import Derived.Test.YtdohnkkbkfhphaaGreatPc20
set_option linter.all false
set_option maxHeartbeats 8000000
set_option maxRecDepth 100000
namespace Go.Proofs.YtdohnkkbkfhphaaGreat
open Go.Proofs.Tryz
namespace jn
open Go.ChangeShapes Go.WideShapes Go.ChangeAt Go.RowKit
open vl
attribute [local go_sem] Oper.semAt_some
variable {U U' : World} {b : Nat} {s : Jn} {y : JX} {p : pl.Pln} {x : pl.PA} {t : Value}
def B4(side:Int):Nat:=if side=2 then 7 else 6
def At(side:Int):Nat:=if side=2 then 3 else 0
theorem Kz(b:Nat)(side:Int)(w:World):Calls Tryz.prog 143 #[.pointer (some ⟨b,0,none⟩),.int .i64 side] w fun e w'=>e= .returned (.pointer (some ⟨b,B4 side,none⟩))/\w'=w:=by
 unfold B4
 by_cases h:side=2
 ·subst h
  go_enter func143,ntmps143
  go_wp2
  go_ret
  exact⟨rfl,rfl⟩
 ·have h1:(side==2)=false:=by simpa using h
  rw[if_neg h]
  go_enter func143,ntmps143
  go_wp2
  go_ret
  exact⟨rfl,rfl⟩
theorem Nd(b:Nat)(side:Int)(w:World):Calls Tryz.prog 144 #[.pointer (some ⟨b,0,none⟩),.int .i64 side] w fun e w'=>e= .returned (.pointer (some ⟨b,At side,none⟩))/\w'=w:=by
 unfold At
 by_cases h:side=2
 ·subst h
  go_enter func144,ntmps144
  go_wp2
  go_ret
  exact⟨rfl,rfl⟩
 ·have h1:(side==2)=false:=by simpa using h
  rw[if_neg h]
  go_enter func144,ntmps144
  go_wp2
  go_ret
  exact⟨rfl,rfl⟩
theorem M0(h:AU U b s y)(side:Int):U.cell? ⟨b,B4 side,none⟩=some (.int .i64 (B6 s side)):=by
 obtain⟨u0,u1,u2,u3,u4,u5,u6,u7,u8⟩:=h
 unfold B4 B6
 split
 ·exact u7
 ·exact u6
def Gn(s:Jn)(v:Ev):Int:=if 0<v.row.length then 1 else if v.time<B6 s v.side then 8 else 0
theorem LL(s:Jn)(y:JX)(v:Ev)(ra:Option Addr)(rc:Nat)(w:World):
 Calls Tryz.prog 89 #[joinV s y,evV v ra rc] w fun e w'=>e= .returned (.int .i64 (Gn s v))/\Bwz w w':=by
 obtain⟨R,hR⟩:=nM (Gn s v)
 have HR:Hid (Gn s v=R):=hR
 rw[hR]
 clear hR
 unfold Gn at HR
 have KM:Hid (∀w1,CTz 143 #[.pointer (some ⟨w.heap.size,0,none⟩),.int .i64 v.side] w1 fun e w'=>e= .returned (.pointer (some ⟨w.heap.size,B4 v.side,none⟩))/\w'=w1):=fun w1=>Kz _ _ w1
 have HM:Hid (∀(U:World) (b:Nat),AU U b s y->U.cell? ⟨b,B4 v.side,none⟩=some (.int .i64 (B6 s v.side))):=fun U b h=>M0 h v.side
 obtain⟨k,hk⟩:=nM (B4 v.side)
 obtain⟨M,hM⟩:=nM (B6 s v.side)
 rw[hk]at KM HM
 rw[hM]at HM HR
 clear hk hM
 rw[A6]
 unfold evV
 obtain⟨kd,sd,tm,row⟩:=v
 dsimp only at *
 obtain⟨n,hn⟩:=nM row.length
 rw[hn]at HR⊢
 clear hn
 have HB:Hid (Bwz w ((w.alloc (.cells #[.int .i64 s.L.lim,.slice y.l.m.1.1 y.l.m.1.2.1 y.l.m.1.2.2,.slice y.l.ra y.l.rs.length y.l.rc,.int .i64 s.R.lim,.slice y.r.m.1.1 y.r.m.1.2.1 y.r.m.1.2.2,.slice y.r.ra y.r.rs.length y.r.rc,.int .i64 s.lm,.int .i64 s.rm,.int .i64 s.seq] 31)).alloc (.cells #[.int .i64 kd,.int .i64 sd,.int .i64 tm,.slice ra n rc] 43))):=(bR.alloc nR _).alloc (by simp) _
 have HC:=HM.out _ _ (Ag (Bo w s y 31) (bR.alloc nR (.cells #[.int .i64 kd,.int .i64 sd,.int .i64 tm,.slice ra n rc] 43)))
 clear HM
 go_enter func89,ntmps89
 by_cases h0:0<n
 ·have h0':(0:Int)<(n:Int):=by omega
  have HE:Hid ((1:Int)=R):=by show _=_;rw[<-HR.out,if_pos h0]
  go_wp2
  go_ret
  exact⟨Ad HE.out,HB.out⟩
 ·have h0':¬(0:Int)<(n:Int):=by omega
  rw[if_neg h0]at HR
  by_cases h1:tm<M
  ·have HE:Hid ((8:Int)=R):=by show _=_;rw[<-HR.out,if_pos h1]
   go_wp2
   generalize hV:(World.alloc (World.alloc w _) _)=V at HC HB⊢
   have q1:V.cell? ⟨w.heap.size+1,1,none⟩=some (.int .i64 sd):=by subst hV;go_simp
   have q2:V.cell? ⟨w.heap.size+1,2,none⟩=some (.int .i64 tm):=by subst hV;go_simp
   clear hV
   go_region_held3 (fun w'=>w'.cell? ⟨w.heap.size+1,1,none⟩=some (.int .i64 sd)/\w'.cell? ⟨w.heap.size+1,2,none⟩=some (.int .i64 tm)/\w'.cell? ⟨w.heap.size,k,none⟩=some (.int .i64 M)) (first|go_keep|exact⟨q1,q2,HC⟩) (first|(go_at_call 143;refine(KM.out _).mono ?_;rintro e w2 ⟨rfl,rfl⟩))
   all_goals
    go_wp2
    go_ret
    exact⟨Ad HE.out,by first|exact HB.out|exact HB.out.drew⟩
  ·have HE:Hid ((0:Int)=R):=by show _=_;rw[<-HR.out,if_neg h1]
   go_wp2
   generalize hV:(World.alloc (World.alloc w _) _)=V at HC HB⊢
   have q1:V.cell? ⟨w.heap.size+1,1,none⟩=some (.int .i64 sd):=by subst hV;go_simp
   have q2:V.cell? ⟨w.heap.size+1,2,none⟩=some (.int .i64 tm):=by subst hV;go_simp
   clear hV
   go_region_held3 (fun w'=>w'.cell? ⟨w.heap.size+1,1,none⟩=some (.int .i64 sd)/\w'.cell? ⟨w.heap.size+1,2,none⟩=some (.int .i64 tm)/\w'.cell? ⟨w.heap.size,k,none⟩=some (.int .i64 M)) (first|go_keep|exact⟨q1,q2,HC⟩) (first|(go_at_call 143;refine(KM.out _).mono ?_;rintro e w2 ⟨rfl,rfl⟩))
   all_goals
    go_wp2
    go_ret
    exact⟨Ad HE.out,by first|exact HB.out|exact HB.out.drew⟩
theorem Nf(h:AU U b s y)(side:Int):U.cell? ⟨b,At side,none⟩=some (.int .i64 (Am s side).lim)/\U.cell? ⟨b,At side+1,none⟩=some (.slice (Bv y side).m.1.1 (Bv y side).m.1.2.1 (Bv y side).m.1.2.2)/\U.cell? ⟨b,At side+2,none⟩=some (.slice (Bv y side).ra (Bv y side).rs.length (Bv y side).rc):=by
 obtain⟨u0,u1,u2,u3,u4,u5,u6,u7,u8⟩:=h
 unfold At Am Bv
 split
 ·exact⟨u3,u4,u5⟩
 ·exact⟨u0,u1,u2⟩
def Fe(p:pl.Pln)(s:Jn)(v:Ev):Int:=if pl.AB p v.side v.row≠0 then pl.AB p v.side v.row else if v.time<=B6 s v.side then 7 else if s.seq=1099511627776\/(bf.Ab (Am s v.side)).length=4096 then 2 else 0
theorem Ng(p:pl.Pln)(x:pl.PA)(s:Jn)(y:JX)(v:Ev)(ra:Option Addr)(rc:Nat)(w:World)(hw:pl.wfPlan p)(hp:pl.planAt w p x)(h:joinAt w s y)(hwf:wfJ s)(hv:evAt w v ra):
 Calls Tryz.prog 90 #[pl.Ap p x,joinV s y,evV v ra rc] w fun e w'=>e= .returned (.int .i64 (Fe p s v))/\Bwz w w':=by
 have KR:=hIz (fun(w1:World) (hb:Bwz w w1)=>pl.Sf p x v.side ra rc v.row w1 hw (pl.Af hp hb) (vl.Ac hv.row hb) hv.wf hv.len)
 have KM:Hid (∀w1,CTz 143 #[.pointer (some ⟨w.heap.size+1,0,none⟩),.int .i64 v.side] w1 fun e w'=>e= .returned (.pointer (some ⟨w.heap.size+1,B4 v.side,none⟩))/\w'=w1):=fun w1=>Kz _ _ w1
 have KB:Hid (∀w1,CTz 144 #[.pointer (some ⟨w.heap.size+1,0,none⟩),.int .i64 v.side] w1 fun e w'=>e= .returned (.pointer (some ⟨w.heap.size+1,At v.side,none⟩))/\w'=w1):=fun w1=>Nd _ _ w1
 have KZ:Hid (∀w1,Bwz w w1->CTz 135 #[bf.AN (Am s v.side) (Bv y v.side)] w1 fun e w'=>e= .returned (.int .i64 ((bf.Ab (Am s v.side)).length:Nat))/\Bwz w1 w'):=fun w1 hb=>bf.Ks _ _ w1 (bf.Ai (h.of v.side) hb) (hwf.of v.side).size
 have HM:Hid (∀(U:World) (b:Nat),AU U b s y->U.cell? ⟨b,B4 v.side,none⟩=some (.int .i64 (B6 s v.side))):=fun U b h=>M0 h v.side
 have HBC:Hid (∀(U:World) (b:Nat),AU U b s y->U.cell? ⟨b,At v.side,none⟩=some (.int .i64 (Am s v.side).lim)/\U.cell? ⟨b,At v.side+1,none⟩=some (.slice (Bv y v.side).m.1.1 (Bv y v.side).m.1.2.1 (Bv y v.side).m.1.2.2)/\U.cell? ⟨b,At v.side+2,none⟩=some (.slice (Bv y v.side).ra (Bv y v.side).rs.length (Bv y v.side).rc)):=fun U b h=>Nf h v.side
 obtain⟨R,hR⟩:=nM (Fe p s v)
 have HR:Hid (Fe p s v=R):=hR
 rw[hR]
 clear hR hw hp h hwf hv
 unfold Fe at HR
 obtain⟨k,hk⟩:=nM (B4 v.side)
 obtain⟨M,hM⟩:=nM (B6 s v.side)
 obtain⟨kb,hkb⟩:=nM (At v.side)
 obtain⟨E,hE⟩:=nM (pl.AB p v.side v.row)
 obtain⟨q,hq⟩:=nM ((bf.Ab (Am s v.side)).length)
 obtain⟨bb,hbb⟩:=nM (Am s v.side)
 obtain⟨bx,hbx⟩:=nM (Bv y v.side)
 rw[hk]at KM HM
 rw[hM]at HM HR
 rw[hkb]at KB HBC
 rw[hE]at KR HR
 rw[hq]at KZ HR
 rw[hbb,hbx]at KZ HBC
 clear hk hM hkb hE hq hbb hbx
 unfold pl.Ap at KR⊢
 unfold bf.AN bf.hdV at KZ
 rw[A6]
 unfold evV
 obtain⟨kd,sd,tm,row⟩:=v
 dsimp only at *
 obtain⟨n,hn⟩:=nM row.length
 rw[hn]at KR⊢
 clear hn
 obtain⟨bl,bm,br⟩:=bb
 obtain⟨xa,xc,⟨⟨x1,x2,x3⟩,xl⟩,xs⟩:=bx
 dsimp only at *
 obtain⟨xn,hxn⟩:=nM xs.length
 rw[hxn]at KZ HBC
 clear hxn
 go_enter func90,ntmps90
 go_wp2_with fail
 generalize hV:(World.alloc (World.alloc (World.alloc w _) _) _)=V
 have hb0:Bwz w V:=by rw[<-hV];exact((bR.alloc nR _).alloc (by simp) _).alloc (by simp;omega) _
 have HJ:Hid (AU V (w.heap.size+1) s y):=by
  subst hV
  have:=Bo (w.alloc (.cells #[.int .i64 p.kind,.int .i64 p.mode,.int .i64 p.low,.int .i64 p.high,.int .i64 p.size,.int .i64 p.limit,.slice x.l p.left.length x.lc,.slice x.r p.right.length x.rc,.slice x.lk p.lkeys.length x.lkc,.slice x.rk p.rkeys.length x.rkc,.bool p.grouped,.slice x.g p.group.length x.gc,.slice x.a p.aggs.length x.ac] 25)) s y 31
  rw[World.size_alloc]at this
  exact Ag this (bR.alloc nR _)
 have q1:V.cell? ⟨w.heap.size+1+1,1,none⟩=some (.int .i64 sd):=by subst hV;go_simp
 have q2:V.cell? ⟨w.heap.size+1+1,2,none⟩=some (.int .i64 tm):=by subst hV;go_simp
 clear hV
 refine(KR.out _ hb0).mono ?_
 rintro e w1 ⟨rfl,hb1⟩
 have hbw:Bwz w w1:=hb0.trans (hb1.mono hb0.size)
 replace HJ:Hid (AU w1 (w.heap.size+1) s y):=Ag HJ.out hb1
 replace q1:=cLz hb1 q1
 replace q2:=cLz hb1 q2
 clear hb1 hb0 KR
 by_cases k1:E=0
 rotate_left
 ·have k1':(E !=0)=true:=by simpa using k1
  have HE:Hid (E=R):=by show _=_;rw[<-HR.out,if_pos k1]
  go_wp2
  go_ret
  exact⟨Ad HE.out,hbw⟩
 subst k1
 rw[if_neg (by decide)]at HR
 have HC:=HM.out _ _ HJ.out
 have HQ:=HBC.out _ _ HJ.out
 have u8:=HJ.out.2.2.2.2.2.2.2.2
 obtain⟨g0,g1,g2⟩:=HQ
 clear HM HBC
 by_cases h1:tm<=M
 ·have HE:Hid ((7:Int)=R):=by show _=_;rw[<-HR.out,if_pos h1]
  go_wp2
  go_region_held3 (fun w'=>w'.cell? ⟨w.heap.size+1+1,1,none⟩=some (.int .i64 sd)/\w'.cell? ⟨w.heap.size+1+1,2,none⟩=some (.int .i64 tm)/\w'.cell? ⟨w.heap.size+1,k,none⟩=some (.int .i64 M)) (first|go_keep|exact⟨q1,q2,HC⟩) (first|(go_at_call 143;refine(KM.out _).mono ?_;rintro e w2 ⟨rfl,rfl⟩))
  all_goals
   go_wp2
   go_ret
   exact⟨Ad HE.out,by first|exact hbw|exact hbw.drew⟩
 ·rw[if_neg h1]at HR
  by_cases h2:s.seq=1099511627776
  ·have h2':(s.seq==1099511627776)=true:=by simpa using h2
   have HE:Hid ((2:Int)=R):=by show _=_;rw[<-HR.out,if_pos (.inl h2)]
   go_wp2
   go_region_held3 (fun w'=>w'.cell? ⟨w.heap.size+1+1,1,none⟩=some (.int .i64 sd)/\w'.cell? ⟨w.heap.size+1+1,2,none⟩=some (.int .i64 tm)/\w'.cell? ⟨w.heap.size+1,k,none⟩=some (.int .i64 M)) (first|go_keep|exact⟨q1,q2,HC⟩) (first|(go_at_call 143;refine(KM.out _).mono ?_;rintro e w2 ⟨rfl,rfl⟩))
   all_goals
    go_wp2
    go_ret
    exact⟨Ad HE.out,by first|exact hbw|exact hbw.drew⟩
  ·have h2':(s.seq==1099511627776)=false:=by simpa using h2
   by_cases h3:q=4096
   ·subst h3
    have HE:Hid ((2:Int)=R):=by show _=_;rw[<-HR.out,if_pos (.inr rfl)]
    go_wp2
    go_region_held3 (fun w'=>w'.cell? ⟨w.heap.size+1+1,1,none⟩=some (.int .i64 sd)/\w'.cell? ⟨w.heap.size+1+1,2,none⟩=some (.int .i64 tm)/\w'.cell? ⟨w.heap.size+1,k,none⟩=some (.int .i64 M)) (first|go_keep|exact⟨q1,q2,HC⟩) (first|(go_at_call 143;refine(KM.out _).mono ?_;rintro e w2 ⟨rfl,rfl⟩))
    all_goals
     go_wp2_with (first
      |(go_at_call 144;refine(KB.out _).mono ?_;rintro e w3 ⟨rfl,rfl⟩)
      |(go_at_call 135;refine(KZ.out _ (by first|exact hbw|exact hbw.drew)).mono ?_;rintro e w4 ⟨rfl,hb4⟩))
     go_ret
     exact⟨Ad HE.out,by first|exact hbw.trans (hb4.mono hbw.size)|exact hbw.drew.trans (hb4.mono hbw.size)⟩
   ·have h3':((q:Int)==4096)=false:=by rw[beq_eq_false_iff_ne];omega
    have HE:Hid ((0:Int)=R):=by show _=_;rw[<-HR.out,if_neg (fun k=>k.elim h2 h3)]
    go_wp2
    go_region_held3 (fun w'=>w'.cell? ⟨w.heap.size+1+1,1,none⟩=some (.int .i64 sd)/\w'.cell? ⟨w.heap.size+1+1,2,none⟩=some (.int .i64 tm)/\w'.cell? ⟨w.heap.size+1,k,none⟩=some (.int .i64 M)) (first|go_keep|exact⟨q1,q2,HC⟩) (first|(go_at_call 143;refine(KM.out _).mono ?_;rintro e w2 ⟨rfl,rfl⟩))
    all_goals
     go_wp2_with (first
      |(go_at_call 144;refine(KB.out _).mono ?_;rintro e w3 ⟨rfl,rfl⟩)
      |(go_at_call 135;refine(KZ.out _ (by first|exact hbw|exact hbw.drew)).mono ?_;rintro e w4 ⟨rfl,hb4⟩))
     go_ret
     exact⟨Ad HE.out,by first|exact hbw.trans (hb4.mono hbw.size)|exact hbw.drew.trans (hb4.mono hbw.size)⟩
theorem UN(p:pl.Pln)(s:Jn)(v:Ev):A7 p s v=if¬(v.kind=1\/v.kind=2)\/pl.Be v.side=false then 4 else if tm.Bb v.time=false then 3 else if v.kind=2 then Gn s v else Fe p s v:=rfl
theorem K6(p:pl.Pln)(x:pl.PA)(s:Jn)(y:JX)(v:Ev)(ra:Option Addr)(rc:Nat)(w:World)(hw:pl.wfPlan p)(hp:pl.planAt w p x)(h:joinAt w s y)(hwf:wfJ s)(hv:evAt w v ra):
 Calls Tryz.prog 47 #[pl.Ap p x,joinV s y,evV v ra rc] w fun e w'=>e= .returned (.int .i64 (A7 p s v))/\Bwz w w':=by
 have KI:Hid (∀w1,CTz 87 #[.int .i64 v.side] w1 fun e w'=>e= .returned (.bool (pl.Be v.side))/\w'=w1):=fun w1=>pl.Cz _ w1
 have KF:Hid (∀w1,CTz 88 #[.int .i64 v.time] w1 fun e w'=>e= .returned (.bool (tm.Bb v.time))/\w'=w1):=fun w1=>tm.Cr _ w1
 have KM:=hIz (fun(w1:World)=>LL s y v ra rc w1)
 have KR:=hIz (fun(w1:World) (hb:Bwz w w1)=>Ng p x s y v ra rc w1 hw (pl.Af hp hb) (h.below hb) hwf (hv.below hb))
 obtain⟨R,hR⟩:=nM (A7 p s v)
 have HR:Hid (A7 p s v=R):=hR
 rw[hR]
 clear hR hw hp h hwf hv
 rw[UN]at HR
 obtain⟨SB,h1⟩:=nM (pl.Be v.side)
 obtain⟨FB,h2⟩:=nM (tm.Bb v.time)
 obtain⟨E1,h3⟩:=nM (Gn s v)
 obtain⟨E2,h4⟩:=nM (Fe p s v)
 rw[h1]at KI HR
 rw[h2]at KF HR
 rw[h3]at KM HR
 rw[h4]at KR HR
 clear h1 h2 h3 h4
 unfold pl.Ap at KR⊢
 rw[A6]at KM KR⊢
 unfold evV at KM KR⊢
 obtain⟨kd,sd,tm,row⟩:=v
 dsimp only at *
 obtain⟨n,hn⟩:=nM row.length
 rw[hn]at KM KR⊢
 clear hn
 go_enter func47,ntmps47
 by_cases c1:kd=1
 ·have k1:(kd==1)=true:=by simpa using c1
  have k2:(kd !=1)=false:=by simpa using c1
  have k3:(kd==2)=false:=by rw[beq_eq_false_iff_ne];omega
  have r4:Hid (SB=false->(4:Int)=R):=fun h=>by rw[<-HR.out,if_pos (.inr h)]
  have r3:Hid (SB=true->FB=false->(3:Int)=R):=fun h1 h2=>by rw[<-HR.out,if_neg (by simp[c1,h1]),if_pos h2]
  have rE:Hid (SB=true->FB=true->E2=R):=fun h1 h2=>by rw[<-HR.out,if_neg (by simp[c1,h1]),if_neg (by simp[h2]),if_neg (by omega)]
  clear c1 HR
  go_wp2_with fail
  generalize hV:(World.alloc (World.alloc (World.alloc w _) _) _)=V
  have hb0:Bwz w V:=by rw[<-hV];exact((bR.alloc nR _).alloc (by simp) _).alloc (by simp;omega) _
  have HP:Hid (Br V w.heap.size p x):=by
   subst hV
   exact Aj (Aj (CM ..) (bR.alloc nR _)) (bR.alloc nR _)
  have HJ:Hid (AU V (w.heap.size+1) s y):=by
   subst hV
   have:=Bo (w.alloc (.cells #[.int .i64 p.kind,.int .i64 p.mode,.int .i64 p.low,.int .i64 p.high,.int .i64 p.size,.int .i64 p.limit,.slice x.l p.left.length x.lc,.slice x.r p.right.length x.rc,.slice x.lk p.lkeys.length x.lkc,.slice x.rk p.rkeys.length x.rkc,.bool p.grouped,.slice x.g p.group.length x.gc,.slice x.a p.aggs.length x.ac] 25)) s y 31
   rw[World.size_alloc]at this
   exact Ag this (bR.alloc nR _)
  have q0:V.cell? ⟨w.heap.size+1+1,0,none⟩=some (.int .i64 kd):=by subst hV;go_simp
  have q1:V.cell? ⟨w.heap.size+1+1,1,none⟩=some (.int .i64 sd):=by subst hV;go_simp
  have q2:V.cell? ⟨w.heap.size+1+1,2,none⟩=some (.int .i64 tm):=by subst hV;go_simp
  have q3:V.cell? ⟨w.heap.size+1+1,3,none⟩=some (.slice ra n rc):=by subst hV;go_simp
  clear hV
  refine(KI.out _).mono ?_
  rintro e w1 ⟨rfl,e1⟩
  obtain rfl:V=w1:=e1.symm
  cases SB with
  |false=>
   have HE:Hid ((4:Int)=R):=r4.out (by trivial)
   go_wp2
   go_ret
   exact⟨Ad HE.out,hb0⟩
  |true=>
   go_wp2_with fail
   refine(KF.out _).mono ?_
   rintro e w2 ⟨rfl,e2⟩
   obtain rfl:V=w2:=e2.symm
   cases FB with
   |false=>
    have HE:Hid ((3:Int)=R):=r3.out (by trivial) (by trivial)
    go_wp2
    go_ret
    exact⟨Ad HE.out,hb0⟩
   |true=>
    obtain⟨u0,u1,u2,u3,u4,u5,u6,u7,u8⟩:=HJ.out
    obtain⟨v0,v1,v2,v3,v4,v5,v6,v7,v8,v9,v10,v11,v12⟩:=HP.out
    go_wp2_with fail
    refine(KR.out _ hb0).mono ?_
    rintro e w3 ⟨rfl,hb3⟩
    have HE:Hid (E2=R):=rE.out (by trivial) (by trivial)
    clear u0 u1 u2 u3 u4 u5 u6 u7 u8 v0 v1 v2 v3 v4 v5 v6 v7 v8 v9 v10 v11 v12
    go_wp2
    go_ret
    exact⟨Ad HE.out,hb0.trans (hb3.mono hb0.size)⟩
 ·by_cases c2:kd=2
  ·have k1:(kd==1)=false:=by rw[beq_eq_false_iff_ne];omega
   have k2:(kd !=1)=true:=by simpa using c1
   have k3:(kd==2)=true:=by simpa using c2
   have k5:(kd !=2)=false:=by simpa using c2
   have r4:Hid (SB=false->(4:Int)=R):=fun h=>by rw[<-HR.out,if_pos (.inr h)]
   have r3:Hid (SB=true->FB=false->(3:Int)=R):=fun h1 h2=>by rw[<-HR.out,if_neg (by simp[c2,h1]),if_pos h2]
   have rE:Hid (SB=true->FB=true->E1=R):=fun h1 h2=>by rw[<-HR.out,if_neg (by simp[c2,h1]),if_neg (by simp[h2]),if_pos c2]
   clear c1 c2 HR
   go_wp2_with fail
   generalize hV:(World.alloc (World.alloc (World.alloc w _) _) _)=V
   have hb0:Bwz w V:=by rw[<-hV];exact((bR.alloc nR _).alloc (by simp) _).alloc (by simp;omega) _
   have HP:Hid (Br V w.heap.size p x):=by
    subst hV
    exact Aj (Aj (CM ..) (bR.alloc nR _)) (bR.alloc nR _)
   have HJ:Hid (AU V (w.heap.size+1) s y):=by
    subst hV
    have:=Bo (w.alloc (.cells #[.int .i64 p.kind,.int .i64 p.mode,.int .i64 p.low,.int .i64 p.high,.int .i64 p.size,.int .i64 p.limit,.slice x.l p.left.length x.lc,.slice x.r p.right.length x.rc,.slice x.lk p.lkeys.length x.lkc,.slice x.rk p.rkeys.length x.rkc,.bool p.grouped,.slice x.g p.group.length x.gc,.slice x.a p.aggs.length x.ac] 25)) s y 31
    rw[World.size_alloc]at this
    exact Ag this (bR.alloc nR _)
   have q0:V.cell? ⟨w.heap.size+1+1,0,none⟩=some (.int .i64 kd):=by subst hV;go_simp
   have q1:V.cell? ⟨w.heap.size+1+1,1,none⟩=some (.int .i64 sd):=by subst hV;go_simp
   have q2:V.cell? ⟨w.heap.size+1+1,2,none⟩=some (.int .i64 tm):=by subst hV;go_simp
   have q3:V.cell? ⟨w.heap.size+1+1,3,none⟩=some (.slice ra n rc):=by subst hV;go_simp
   clear hV
   refine(KI.out _).mono ?_
   rintro e w1 ⟨rfl,e1⟩
   obtain rfl:V=w1:=e1.symm
   cases SB with
   |false=>
    have HE:Hid ((4:Int)=R):=r4.out (by trivial)
    go_wp2
    go_ret
    exact⟨Ad HE.out,hb0⟩
   |true=>
    go_wp2_with fail
    refine(KF.out _).mono ?_
    rintro e w2 ⟨rfl,e2⟩
    obtain rfl:V=w2:=e2.symm
    cases FB with
    |false=>
     have HE:Hid ((3:Int)=R):=r3.out (by trivial) (by trivial)
     go_wp2
     go_ret
     exact⟨Ad HE.out,hb0⟩
    |true=>
     obtain⟨u0,u1,u2,u3,u4,u5,u6,u7,u8⟩:=HJ.out
     obtain⟨v0,v1,v2,v3,v4,v5,v6,v7,v8,v9,v10,v11,v12⟩:=HP.out
     go_wp2_with fail
     refine(KM.out _).mono ?_
     rintro e w3 ⟨rfl,hb3⟩
     have HE:Hid (E1=R):=rE.out (by trivial) (by trivial)
     clear u0 u1 u2 u3 u4 u5 u6 u7 u8 v0 v1 v2 v3 v4 v5 v6 v7 v8 v9 v10 v11 v12
     go_wp2
     go_ret
     exact⟨Ad HE.out,hb0.trans (hb3.mono hb0.size)⟩
  ·have c1':(kd==1)=false:=by simpa using c1
   have c2':(kd==2)=false:=by simpa using c2
   have c1'':(kd !=1)=true:=by simpa using c1
   have c2'':(kd !=2)=true:=by simpa using c2
   have HE:Hid ((4:Int)=R):=by show _=_;rw[<-HR.out,if_pos (.inl (fun k=>k.elim c1 c2))]
   go_wp2
   go_ret
   exact⟨Ad HE.out,((bR.alloc nR _).alloc (by simp) _).alloc (by simp;omega) _⟩
theorem Gp(side:Int)(w:World)(h:pl.Be side=true):Calls Tryz.prog 264 #[.int .i64 side] w fun e w'=>e= .returned (.int .i64 (3 - side))/\w'=w:=by
 have hs:side=1\/side=2:=by unfold pl.Be at h;simpa using h
 rcases hs with rfl|rfl<;>
 ·go_enter func264,ntmps264
  go_wp2
  go_ret
  exact⟨rfl,rfl⟩
theorem M3(b o:Nat)(side:Int)(w:World):Calls Tryz.prog 143 #[.pointer (some ⟨b,o,none⟩),.int .i64 side] w fun e w'=>e= .returned (.pointer (some ⟨b,o+B4 side,none⟩))/\w'=w:=by
 unfold B4
 by_cases h:side=2
 ·subst h
  go_enter func143,ntmps143
  go_wp2
  go_ret
  exact⟨rfl,rfl⟩
 ·have h1:(side==2)=false:=by simpa using h
  rw[if_neg h]
  go_enter func143,ntmps143
  go_wp2
  go_ret
  exact⟨rfl,rfl⟩
theorem EI(b o:Nat)(side:Int)(w:World):Calls Tryz.prog 144 #[.pointer (some ⟨b,o,none⟩),.int .i64 side] w fun e w'=>e= .returned (.pointer (some ⟨b,o+At side,none⟩))/\w'=w:=by
 unfold At
 by_cases h:side=2
 ·subst h
  go_enter func144,ntmps144
  go_wp2
  go_ret
  exact⟨rfl,rfl⟩
 ·have h1:(side==2)=false:=by simpa using h
  rw[if_neg h]
  go_enter func144,ntmps144
  go_wp2
  go_ret
  exact⟨rfl,rfl⟩
def jnC(U:World)(b:Nat)(s:Jn)(y:JX):Prop:=U.cell? ⟨b,13,none⟩=some (.int .i64 s.L.lim)/\U.cell? ⟨b,14,none⟩=some (.slice y.l.m.1.1 y.l.m.1.2.1 y.l.m.1.2.2)/\U.cell? ⟨b,15,none⟩=some (.slice y.l.ra y.l.rs.length y.l.rc)/\U.cell? ⟨b,16,none⟩=some (.int .i64 s.R.lim)/\U.cell? ⟨b,17,none⟩=some (.slice y.r.m.1.1 y.r.m.1.2.1 y.r.m.1.2.2)/\U.cell? ⟨b,18,none⟩=some (.slice y.r.ra y.r.rs.length y.r.rc)/\U.cell? ⟨b,19,none⟩=some (.int .i64 s.lm)/\U.cell? ⟨b,20,none⟩=some (.int .i64 s.rm)/\U.cell? ⟨b,21,none⟩=some (.int .i64 s.seq)
structure boxC(U:World)(b:Nat)(p:pl.Pln)(x:pl.PA)(s:Jn)(y:JX)(t:Value):Prop where
 plan:Br U b p x
 join:jnC U b s y
 told:U.cell? ⟨b,22,none⟩=some t
 room:U.there b 0 23
theorem SR(h:jnC U b s y)(hb:Bwz U U'):jnC U' b s y:=by
 obtain⟨u0,u1,u2,u3,u4,u5,u6,u7,u8⟩:=h
 exact⟨cLz hb u0,cLz hb u1,cLz hb u2,cLz hb u3,cLz hb u4,cLz hb u5,cLz hb u6,cLz hb u7,cLz hb u8⟩
theorem boxC.later(h:boxC U b p x s y t)(hb:Bwz U U'):boxC U' b p x s y t:=⟨Aj h.plan hb,SR h.join hb,cLz hb h.told,BL h.room hb⟩
theorem boxC.lt(h:boxC U b p x s y t):b<U.heap.size:=NA h.plan
theorem Nh(h:jnC U b s y)(side:Int):U.cell? ⟨b,13+B4 side,none⟩=some (.int .i64 (B6 s side)):=by
 obtain⟨u0,u1,u2,u3,u4,u5,u6,u7,u8⟩:=h
 unfold B4 B6
 split
 ·exact u7
 ·exact u6
theorem Ek(h:jnC U b s y)(side:Int):U.cell? ⟨b,13+At side,none⟩=some (.int .i64 (Am s side).lim)/\U.cell? ⟨b,13+At side+1,none⟩=some (.slice (Bv y side).m.1.1 (Bv y side).m.1.2.1 (Bv y side).m.1.2.2)/\U.cell? ⟨b,13+At side+2,none⟩=some (.slice (Bv y side).ra (Bv y side).rs.length (Bv y side).rc):=by
 obtain⟨u0,u1,u2,u3,u4,u5,u6,u7,u8⟩:=h
 unfold At Am Bv
 split
 ·exact⟨u3,u4,u5⟩
 ·exact⟨u0,u1,u2⟩
def Cm(p:pl.Pln)(s:Jn)(side:Int):Int:=if B6 s (3 - side)=noMark then noMark else pl.M5 p side (B6 s (3 - side))
theorem Ia(b:Nat)(p:pl.Pln)(x:pl.PA)(s:Jn)(y:JX)(t:Value)(side:Int)(w:World)(hw:pl.wfPlan p)(hp:pl.planAt w p x)(h:boxC w b p x s y t)(hs:pl.Be side=true):
 Calls Tryz.prog 260 #[.pointer (some ⟨b,0,none⟩),.int .i64 side] w fun e w'=>e= .returned (.int .i64 (Cm p s side))/\Bwz w w':=by
 have KO:=hIz (fun(w1:World)=>Gp side w1 hs)
 have KM:Hid (∀w1,CTz 143 #[.pointer (some ⟨b,13,none⟩),.int .i64 (3 - side)] w1 fun e w'=>e= .returned (.pointer (some ⟨b,13+B4 (3 - side),none⟩))/\w'=w1):=fun w1=>M3 b 13 (3 - side) w1
 have KG:=hIz (fun m (w1:World) (hb:Bwz w w1)=>pl.Ia p x side m w1 hw (pl.Af hp hb))
 have HC:=Nh h.join (3 - side)
 have HP:Hid (Br w b p x):=h.plan
 obtain⟨R,hR⟩:=nM (Cm p s side)
 have HR:Hid (Cm p s side=R):=hR
 rw[hR]
 clear hR hw hp h hs
 unfold Cm at HR
 obtain⟨k,hk⟩:=nM (13+B4 (3 - side))
 obtain⟨M,hM⟩:=nM (B6 s (3 - side))
 obtain⟨od,hod⟩:=nM (3 - side)
 rw[hk]at KM HC
 rw[hM]at HC HR
 rw[hod]at KO KM
 clear hk hM hod
 unfold pl.Ap at KG
 go_enter func260,ntmps260
 by_cases h1:M=noMark
 ·have h1':(M== -1099511627777)=true:=by unfold noMark at h1;simpa using h1
  have HE:Hid ((-1099511627777:Int)=R):=by show _=_;rw[<-HR.out,if_pos h1];rfl
  clear KG HP
  go_wp2
  go_region_held3 (fun w'=>w'.cell? ⟨b,k,none⟩=some (.int .i64 M)) (first|go_keep|exact HC) (first
   |(go_at_call 143;refine(KM.out _).mono ?_;rintro e w3 ⟨rfl,rfl⟩)
   |(go_at_call 264;refine(KO.out _).mono ?_;rintro e w2 ⟨rfl,rfl⟩))
  all_goals
   go_wp2
   go_ret
   exact⟨Ad HE.out,by first|exact bR|exact bR.drew⟩
 ·have h1':(M== -1099511627777)=false:=by unfold noMark at h1;simpa using h1
  have HE:Hid (pl.M5 p side M=R):=by show _=_;rw[<-HR.out,if_neg h1]
  obtain⟨v0,v1,v2,v3,v4,v5,v6,v7,v8,v9,v10,v11,v12⟩:=HP.out
  go_wp2
  go_region_held3 (fun w'=>w'.cell? ⟨b,k,none⟩=some (.int .i64 M)) (first|go_keep|exact HC) (first
   |(go_at_call 143;refine(KM.out _).mono ?_;rintro e w3 ⟨rfl,rfl⟩)
   |(go_at_call 264;refine(KO.out _).mono ?_;rintro e w2 ⟨rfl,rfl⟩))
  all_goals
   go_wp2_with (go_at_call 57;refine(KG.out _ _ (by first|exact bR|exact bR.drew)).mono ?_;rintro e w4 ⟨rfl,hb4⟩)
   go_ret
   exact⟨Ad HE.out,by first|exact hb4|exact bR.drew.trans hb4⟩
end jn
namespace jn
open Go.ChangeShapes Go.WideShapes Go.ChangeAt Go.RowKit
open vl bf
attribute [local go_sem] Oper.semAt_some
variable {W w : World} {N base : Nat} {T : TypeId} {x : BX} {b : Buf} {s : Jn} {y : JX}
structure calmT(T:TypeId):Prop where
 e:T≠63
 v:T≠103
 h:T≠26
theorem RA{v:Value}{es:List EM}{l:List Ent}(h:OE w base v es l)(hN:Ar w N T)(hT:calmT T)(k:Nat)(u:Value):OE (w.setCell ⟨N,k,none⟩ u) base v es l:=
 h.other (by simp[World.setCell]) (fun g hg=>heap_setCell_other _ _ _ _ (by
  rcases hg with hg|hg
  ·exact tyAt_apart hg hN hT.e.symm
  ·exact tyAt_apart hg hN hT.v.symm))
theorem EJ(h:OB w base x b)(hN:Ar w N T)(hT:calmT T)(k:Nat)(u:Value):OB (w.setCell ⟨N,k,none⟩ u) base x b:=
 ⟨by simp[World.setCell];exact h.low,RA h.mem hN hT k u,A0 h.hds (fun g hg=>heap_setCell_other _ _ _ _ (tyAt_apart (A8 h.hds hg) hN hT.h.symm)),h.rlen,fun i hi=>RA (h.runs i hi) hN hT k u,h.two⟩
theorem Bm{base N:Nat}{T:TypeId}{x:BX}{b:Buf}(hT:calmT T):∀(l:List Value) (o:Nat) (w:World),OB w base x b->Ar w N T->OB (w.setCells N o l) base x b
 |[],_,_,h,_=>h
 |v::l,o,w,h,hN=>Bm hT l (o+1) _ (EJ h hN hT o v) (AM hN _ _)
theorem El{b N:Nat}{T:TypeId}:∀(l:List Value) (o:Nat) (w:World),Ar w b T->Ar (w.setCells N o l) b T
 |[],_,_,h=>h
 |v::l,o,w,h=>El l (o+1) _ (AM h _ _)
theorem Ye:(Tryz.prog.info? 29).map (·.size)=some 3:=by kernel_rfl
theorem size_setCells(N:Nat):∀(l:List Value) (o:Nat) (w:World),(w.setCells N o l).heap.size=w.heap.size
 |[],_,_=>rfl
 |v::l,o,w=>(size_setCells N l (o+1) _).trans (by simp[World.setCell])
theorem Ew:calmT 31:=⟨by decide,by decide,by decide⟩
theorem Zb(w:World)(c:Fin 9->Value)(h:∀i,(c i).oneCell'=true)(t:TypeId):(w.alloc (.cells #[c 0,c 1,c 2,c 3,c 4,c 5,c 6,c 7,c 8] t)).there w.heap.size 0 9:=by
 intro j hj
 match j,hj with
 |0,_=>exact⟨by go_simp,by go_simp⟩
 |1,_=>exact⟨by go_simp,by go_simp⟩
 |2,_=>exact⟨by go_simp,by go_simp⟩
 |3,_=>exact⟨by go_simp,by go_simp⟩
 |4,_=>exact⟨by go_simp,by go_simp⟩
 |5,_=>exact⟨by go_simp,by go_simp⟩
 |6,_=>exact⟨by go_simp,by go_simp⟩
 |7,_=>exact⟨by go_simp,by go_simp⟩
 |8,_=>exact⟨by go_simp,by go_simp⟩
theorem SS{b:Nat}(h:AU W b s y)(hr:W.there b 0 9)(z:BX):AU (W.setCells b 0 [.int .i64 s.L.lim,.slice z.m.1.1 z.m.1.2.1 z.m.1.2.2,.slice z.ra z.rs.length z.rc]) b s ⟨z,y.r⟩:=by
 have hs:=World.rangeAt_setCells_same W b 0 [.int .i64 s.L.lim,.slice z.m.1.1 z.m.1.2.1 z.m.1.2.2,.slice z.ra z.rs.length z.rc] (fun j hj=>by
  have:=hr (0+j) (by simp at hj;omega)
  simpa using this)
 have ho:∀i,i<0\/3<=i->(W.setCells b 0 [.int .i64 s.L.lim,.slice z.m.1.1 z.m.1.2.1 z.m.1.2.2,.slice z.ra z.rs.length z.rc]).cell? ⟨b,i,none⟩=W.cell? ⟨b,i,none⟩:=fun i hi=>World.cell?_setCells_out b _ 0 W ⟨b,i,none⟩ (fun _ _=>by simpa using hi)
 obtain⟨u0,u1,u2,u3,u4,u5,u6,u7,u8⟩:=h
 refine⟨?_,?_,?_,?_,?_,?_,?_,?_,?_⟩
 ·exact hs 0 _ rfl
 ·exact hs 1 _ rfl
 ·exact hs 2 _ rfl
 ·rw[ho 3 (by omega)];exact u3
 ·rw[ho 4 (by omega)];exact u4
 ·rw[ho 5 (by omega)];exact u5
 ·rw[ho 6 (by omega)];exact u6
 ·rw[ho 7 (by omega)];exact u7
 ·rw[ho 8 (by omega)];exact u8
theorem SU{b:Nat}(h:AU W b s y)(hr:W.there b 0 9)(z:BX):AU (W.setCells b 3 [.int .i64 s.R.lim,.slice z.m.1.1 z.m.1.2.1 z.m.1.2.2,.slice z.ra z.rs.length z.rc]) b s ⟨y.l,z⟩:=by
 have hs:=World.rangeAt_setCells_same W b 3 [.int .i64 s.R.lim,.slice z.m.1.1 z.m.1.2.1 z.m.1.2.2,.slice z.ra z.rs.length z.rc] (fun j hj=>by
  have:=hr (3+j) (by simp at hj;omega)
  simpa using this)
 have ho:∀i,i<3\/6<=i->(W.setCells b 3 [.int .i64 s.R.lim,.slice z.m.1.1 z.m.1.2.1 z.m.1.2.2,.slice z.ra z.rs.length z.rc]).cell? ⟨b,i,none⟩=W.cell? ⟨b,i,none⟩:=fun i hi=>World.cell?_setCells_out b _ 3 W ⟨b,i,none⟩ (fun _ _=>by simpa using hi)
 obtain⟨u0,u1,u2,u3,u4,u5,u6,u7,u8⟩:=h
 refine⟨?_,?_,?_,?_,?_,?_,?_,?_,?_⟩
 ·rw[ho 0 (by omega)];exact u0
 ·rw[ho 1 (by omega)];exact u1
 ·rw[ho 2 (by omega)];exact u2
 ·exact hs 0 _ rfl
 ·exact hs 1 _ rfl
 ·exact hs 2 _ rfl
 ·rw[ho 6 (by omega)];exact u6
 ·rw[ho 7 (by omega)];exact u7
 ·rw[ho 8 (by omega)];exact u8
def UO(x1 x2:BX):Prop:=∀p∈x1.m::x1.rs,∀q∈x2.m::x2.rs,apB (hdV p.1) (hdV q.1)
theorem RC(h:OB w base x b){p:Part}(hp:p∈x.m::x.rs){g:Nat}(hg:(hdV p.1).ownBlock=some g):base<=g/\g<w.heap.size:=by
 have key:∀{v:Value} {es:List EM} {l:List Ent},OE w base v es l->v.ownBlock=some g->base<=g/\g<w.heap.size:=fun h hg=>AD h.own hg
 rcases List.mem_cons.1 hp with rfl|hp
 ·exact key h.mem hg
 ·obtain⟨i,hi,rfl⟩:=List.getElem_of_mem hp
  have e:x.rs.getD i default=x.rs[i]:=by rw[gDe,gEe hi];rfl
  have:=h.runs i (by rw[<-h.rlen];exact hi)
  rw[e]at this
  exact key this hg
theorem K7{w1 w2:World}{b1 b2:Nat}{x1 x2:BX}{c1 c2:Buf}(h1:OB w1 b1 x1 c1)(h2:OB w2 b2 x2 c2)(hb:w1.heap.size<=b2):UO x1 x2:=fun p hp q hq g hg hg2=>by
 have:=(RC h1 hp hg).2
 have:=(RC h2 hq hg2).1
 omega
theorem Qk(s:Jn)(y:JX)(w:World)(h:joinAt w s y)(hL:okB s.L)(hR:okB s.R):
 Calls Tryz.prog 91 #[joinV s y] w fun e w'=>(∃x1 x2,e= .returned (joinV s ⟨x1,x2⟩)/\OB w' w.heap.size x1 s.L/\OB w' w.heap.size x2 s.R/\UO x1 x2)/\Bwz w w':=by
 have KL:Hid (∀w1,Bwz w w1->CTz 145 #[AN s.L y.l,.func (.func 59) #[] #[]] w1 fun e w'=>(∃x',e= .returned (AN s.L x')/\OB w' w1.heap.size x' s.L)/\Bwz w1 w'):=fun w1 hb=>by
  have hk:=FI 59 (enters_of func59 (by kernel_rfl) rfl) #[] (fun _=>true) s.L y.l w1 (Ai h.l hb) hL.small.1 hL.small.2.1 hL.small.2.2 (fun e z w2 her _ hb2=>Fp e w2)
  rw[Hd hL]at hk
  exact hk
 have KR:Hid (∀w1,Bwz w w1->CTz 145 #[AN s.R y.r,.func (.func 59) #[] #[]] w1 fun e w'=>(∃x',e= .returned (AN s.R x')/\OB w' w1.heap.size x' s.R)/\Bwz w1 w'):=fun w1 hb=>by
  have hk:=FI 59 (enters_of func59 (by kernel_rfl) rfl) #[] (fun _=>true) s.R y.r w1 (Ai h.r hb) hR.small.1 hR.small.2.1 hR.small.2.2 (fun e z w2 her _ hb2=>Fp e w2)
  rw[Hd hR]at hk
  exact hk
 clear h hL hR
 rw[A6]
 unfold AN hdV at KL KR
 go_enter func91,ntmps91
 go_wp2_with fail
 generalize hV:(World.alloc (World.alloc w _) _)=V
 have hb0:Bwz w V:=by rw[<-hV];exact(bR.alloc nR _).alloc (by simp) _
 have hsz:V.heap.size=w.heap.size+1+1:=by rw[<-hV];simp
 have HJ:Hid (AU V w.heap.size s y):=by
  subst hV
  exact Ag (Bo ..) (bR.alloc nR _)
 have HT:Hid (V.there w.heap.size 0 9/\Ar V w.heap.size 31):=by
  subst hV
  refine⟨BL (Zb w (fun i=>match i with|0=>.int .i64 s.L.lim|1=>.slice y.l.m.1.1 y.l.m.1.2.1 y.l.m.1.2.2|2=>.slice y.l.ra y.l.rs.length y.l.rc|3=>.int .i64 s.R.lim|4=>.slice y.r.m.1.1 y.r.m.1.2.1 y.r.m.1.2.2|5=>.slice y.r.ra y.r.rs.length y.r.rc|6=>.int .i64 s.lm|7=>.int .i64 s.rm|8=>.int .i64 s.seq) (fun i=>by match i with|0|1|2|3|4|5|6|7|8=>rfl) 31) (bR.alloc nR _),?_⟩
  exact Ah ⟨_,_,World.alloc_heap_new w _⟩ (bR.alloc nR _)
 have HZ:Hid (noJ V (w.heap.size+1)/\Ar V (w.heap.size+1) 31):=by
  subst hV
  have h1:=Ef (w.alloc (.cells #[.int .i64 s.L.lim,.slice y.l.m.1.1 y.l.m.1.2.1 y.l.m.1.2.2,.slice y.l.ra y.l.rs.length y.l.rc,.int .i64 s.R.lim,.slice y.r.m.1.1 y.r.m.1.2.1 y.r.m.1.2.2,.slice y.r.ra y.r.rs.length y.r.rc,.int .i64 s.lm,.int .i64 s.rm,.int .i64 s.seq] 31))
  have h2:=World.alloc_heap_new (w.alloc (.cells #[.int .i64 s.L.lim,.slice y.l.m.1.1 y.l.m.1.2.1 y.l.m.1.2.2,.slice y.l.ra y.l.rs.length y.l.rc,.int .i64 s.R.lim,.slice y.r.m.1.1 y.r.m.1.2.1 y.r.m.1.2.2,.slice y.r.ra y.r.rs.length y.r.rc,.int .i64 s.lm,.int .i64 s.rm,.int .i64 s.seq] 31)) (.cells #[.int .i64 0,.slice none 0 0,.slice none 0 0,.int .i64 0,.slice none 0 0,.slice none 0 0,.int .i64 0,.int .i64 0,.int .i64 0] 31)
  rw[World.size_alloc]at h1 h2
  exact⟨h1,_,_,h2⟩
 clear hV
 refine(KL.out _ hb0).mono ?_
 rintro e wa ⟨⟨x1,rfl,ho1⟩,hb1⟩
 have hbw:Bwz w wa:=hb0.trans (hb1.mono hb0.size)
 replace HJ:Hid (AU wa w.heap.size s y):=Ag HJ.out hb1
 replace HT:Hid (wa.there w.heap.size 0 9/\Ar wa w.heap.size 31):=⟨BL HT.out.1 hb1,Ah HT.out.2 hb1⟩
 replace HZ:Hid (noJ wa (w.heap.size+1)/\Ar wa (w.heap.size+1) 31):=⟨AV HZ.out.1 hb1,Ah HZ.out.2 hb1⟩
 have HO1:Hid (OB wa V.heap.size x1 s.L):=ho1
 clear ho1
 have room1:wa.there w.heap.size 0 3:=fun j hj=>HT.out.1 j (by omega)
 obtain⟨W1,hW1⟩:=nM (World.setCells wa w.heap.size 0 (#[.int .i64 s.L.lim,.slice x1.m.1.1 x1.m.1.2.1 x1.m.1.2.2,.slice x1.ra x1.rs.length x1.rc]:Array Value).toList)
 have HJ1:Hid (AU W1 w.heap.size s ⟨x1,y.r⟩):=by rw[<-hW1];exact SS HJ.out HT.out.1 x1
 have HT1:Hid (W1.there w.heap.size 0 9/\Ar W1 w.heap.size 31):=by rw[<-hW1];exact⟨World.there_setCells HT.out.1 _ _ _,El _ _ _ HT.out.2⟩
 have HZ1:Hid (noJ W1 (w.heap.size+1)/\Ar W1 (w.heap.size+1) 31):=by rw[<-hW1];exact⟨World.there_setCells HZ.out.1 _ _ _,El _ _ _ HZ.out.2⟩
 have HO2:Hid (OB W1 V.heap.size x1 s.L):=by rw[<-hW1];exact Bm Ew _ _ _ HO1.out HT.out.2
 have hbw1:Bwz w W1:=by rw[<-hW1];exact below_setCells nR _ _ _ hbw
 have hs1:W1.heap.size=wa.heap.size:=by rw[<-hW1];exact size_setCells _ _ _ _
 obtain⟨u0,u1,u2,u3,u4,u5,u6,u7,u8⟩:=HJ1.out
 go_wp2_with ((with_reducible refine wpList_store_mid ?_ 29 (.tmp 6) (.tmp 5) ?_ w.heap.size 0 #[.int .i64 s.L.lim,.slice x1.m.1.1 x1.m.1.2.1 x1.m.1.2.2,.slice x1.ra x1.rs.length x1.rc] ?_ ?_ ?_ ?_ ?_ ?_);exact rfl;exact rfl;exact rfl;exact rfl;exact room1;exact Ye;exact(by simp[Value.oneCell']);rw[hW1])
 refine(KR.out _ hbw1).mono ?_
 rintro e wb ⟨⟨x2,rfl,ho2⟩,hb2⟩
 have hbw2:Bwz w wb:=hbw1.trans (hb2.mono hbw1.size)
 have HAP:Hid (UO x1 x2):=K7 HO1.out ho2 (by omega)
 have HJ2:Hid (AU wb w.heap.size s ⟨x1,y.r⟩):=Ag HJ1.out hb2
 have HT2:Hid (wb.there w.heap.size 0 9/\Ar wb w.heap.size 31):=⟨BL HT1.out.1 hb2,Ah HT1.out.2 hb2⟩
 have HZ2:Hid (noJ wb (w.heap.size+1)/\Ar wb (w.heap.size+1) 31):=⟨AV HZ1.out.1 hb2,Ah HZ1.out.2 hb2⟩
 have HOL:Hid (OB wb w.heap.size x1 s.L):=Cw (HO2.out.below hb2) (by omega)
 have HOR:Hid (OB wb w.heap.size x2 s.R):=Cw ho2 (by have:=hbw1.size;omega)
 clear u0 u1 u2 u3 u4 u5 u6 u7 u8 ho2 HJ1 HT1 HZ1 HO2 HO1 HJ HT HZ hW1 KL KR
 have room2:wb.there w.heap.size 3 3:=fun j hj=>by
  have:=HT2.out.1 (3+j) (by omega)
  simpa using this
 obtain⟨W2,hW2⟩:=nM (World.setCells wb w.heap.size 3 (#[.int .i64 s.R.lim,.slice x2.m.1.1 x2.m.1.2.1 x2.m.1.2.2,.slice x2.ra x2.rs.length x2.rc]:Array Value).toList)
 have HJ3:Hid (AU W2 w.heap.size s ⟨x1,x2⟩):=by rw[<-hW2];exact SU HJ2.out HT2.out.1 x2
 have HZ3:Hid (noJ W2 (w.heap.size+1)/\Ar W2 (w.heap.size+1) 31):=by rw[<-hW2];exact⟨World.there_setCells HZ2.out.1 _ _ _,El _ _ _ HZ2.out.2⟩
 replace HOL:Hid (OB W2 w.heap.size x1 s.L):=by rw[<-hW2];exact Bm Ew _ _ _ HOL.out HT2.out.2
 replace HOR:Hid (OB W2 w.heap.size x2 s.R):=by rw[<-hW2];exact Bm Ew _ _ _ HOR.out HT2.out.2
 have hbw3:Bwz w W2:=by rw[<-hW2];exact below_setCells nR _ _ _ hbw2
 obtain⟨W3,hW3⟩:=nM (World.setCells W2 (w.heap.size+1) 0 (#[.int .i64 s.L.lim,.slice x1.m.1.1 x1.m.1.2.1 x1.m.1.2.2,.slice x1.ra x1.rs.length x1.rc,.int .i64 s.R.lim,.slice x2.m.1.1 x2.m.1.2.1 x2.m.1.2.2,.slice x2.ra x2.rs.length x2.rc,.int .i64 s.lm,.int .i64 s.rm,.int .i64 s.seq]:Array Value).toList)
 have HR3:Hid (W3.rangeAt (w.heap.size+1) 0 (#[.int .i64 s.L.lim,.slice x1.m.1.1 x1.m.1.2.1 x1.m.1.2.2,.slice x1.ra x1.rs.length x1.rc,.int .i64 s.R.lim,.slice x2.m.1.1 x2.m.1.2.1 x2.m.1.2.2,.slice x2.ra x2.rs.length x2.rc,.int .i64 s.lm,.int .i64 s.rm,.int .i64 s.seq]:Array Value).toList):=by rw[<-hW3];exact C0 HZ3.out.1 rfl
 replace HOL:Hid (OB W3 w.heap.size x1 s.L):=by rw[<-hW3];exact Bm Ew _ _ _ HOL.out HZ3.out.2
 replace HOR:Hid (OB W3 w.heap.size x2 s.R):=by rw[<-hW3];exact Bm Ew _ _ _ HOR.out HZ3.out.2
 have hbw4:Bwz w W3:=by rw[<-hW3];exact below_setCells (Nat.le_succ _) _ _ _ hbw3
 have room3:=HZ3.out.1
 obtain⟨u0,u1,u2,u3,u4,u5,u6,u7,u8⟩:=HJ3.out
 go_wp2_with (first
  |((with_reducible refine wpList_store_mid ?_ 29 (.tmp 10) (.tmp 9) ?_ w.heap.size 3 #[.int .i64 s.R.lim,.slice x2.m.1.1 x2.m.1.2.1 x2.m.1.2.2,.slice x2.ra x2.rs.length x2.rc] ?_ ?_ ?_ ?_ ?_ ?_);exact rfl;exact rfl;exact rfl;exact rfl;exact room2;exact Ye;exact(by simp[Value.oneCell']);rw[hW2])
  |((with_reducible refine wpList_store_mid ?_ 31 (.tmp 2) (.tmp 11) ?_ (w.heap.size+1) 0 #[.int .i64 s.L.lim,.slice x1.m.1.1 x1.m.1.2.1 x1.m.1.2.2,.slice x1.ra x1.rs.length x1.rc,.int .i64 s.R.lim,.slice x2.m.1.1 x2.m.1.2.1 x2.m.1.2.2,.slice x2.ra x2.rs.length x2.rc,.int .i64 s.lm,.int .i64 s.rm,.int .i64 s.seq] ?_ ?_ ?_ ?_ ?_ ?_);exact rfl;exact rfl;exact rfl;exact rfl;exact room3;exact E4;exact(by simp[Value.oneCell']);rw[hW3]))
 have y0:=HR3.out 0 _ rfl
 have y1:=HR3.out 1 _ rfl
 have y2:=HR3.out 2 _ rfl
 have y3:=HR3.out 3 _ rfl
 have y4:=HR3.out 4 _ rfl
 have y5:=HR3.out 5 _ rfl
 have y6:=HR3.out 6 _ rfl
 have y7:=HR3.out 7 _ rfl
 have y8:=HR3.out 8 _ rfl
 simp only[Nat.zero_add]at y0 y1 y2 y3 y4 y5 y6 y7 y8
 exact bodyPost_ret (v:=.agg #[.int .i64 s.L.lim,.slice x1.m.1.1 x1.m.1.2.1 x1.m.1.2.2,.slice x1.ra x1.rs.length x1.rc,.int .i64 s.R.lim,.slice x2.m.1.1 x2.m.1.2.1 x2.m.1.2.2,.slice x2.ra x2.rs.length x2.rc,.int .i64 s.lm,.int .i64 s.rm,.int .i64 s.seq]) (by simp[results,results91,go_sem,y0,y1,y2,y3,y4,y5,y6,y7,y8]) rfl ⟨⟨x1,x2,by rw[A6],HOL.out,HOR.out,HAP.out⟩,hbw4⟩
end jn
end Go.Proofs.YtdohnkkbkfhphaaGreat
