import Derived.Test.YtdohnkkbkfhphaaGreatPc39
set_option linter.all false
set_option maxHeartbeats 8000000
set_option maxRecDepth 100000
namespace Go.Proofs.YtdohnkkbkfhphaaGreat
open Go.Proofs.Tryz
namespace jn
open Go.RowKit
open vl bf
variable {p : pl.Pln} {s : Jn} {v : Ev} {K : ByteArray}
def rw2(a b:Int):List Cel:=[⟨2,a,⟨#[]⟩⟩,⟨2,b,⟨#[]⟩⟩]
theorem DQ{a b:Int}(ha: -9223372036854775808<=a/\a<=9223372036854775807)(hb: -9223372036854775808<=b/\b<=9223372036854775807):BE (rw2 a b):=by
 intro c hc
 simp only[rw2,List.mem_cons,List.not_mem_nil,or_false]at hc
 rcases hc with rfl|rfl
 ·exact⟨ha,Nat.zero_le _⟩
 ·exact⟨hb,Nat.zero_le _⟩
def ev1:Ev:=⟨1,1,1,rw2 7 1⟩
def ev2:Ev:=⟨1,2,2,rw2 7 2⟩
def ev3:Ev:=⟨2,1,4,[]⟩
def ev4:Ev:=⟨1,1,4,rw2 7 3⟩
def ev5:Ev:=⟨1,1,5,rw2 7 4⟩
def GX:List Ev:=[ev1,ev2,ev3,ev4,ev5]
structure begP(p:pl.Pln)(K:ByteArray):Prop where
 err:pl.Al p=0
 kind:p.kind=1
 mode:p.mode=4
 low:p.low= -5
 high:p.high=5
 limit:p.limit=2
 l:(pl.Aw p 1).length=2
 r:(pl.Aw p 2).length=2
 e1:pl.AB p 1 (rw2 7 1)=0
 e2:pl.AB p 2 (rw2 7 2)=0
 e3:pl.AB p 1 (rw2 7 3)=0
 e4:pl.AB p 1 (rw2 7 4)=0
 h1:pl.hasB p 1 (rw2 7 1)=true
 h2:pl.hasB p 2 (rw2 7 2)=true
 h4:pl.hasB p 1 (rw2 7 4)=true
 k1:pl.Aq p 1 (rw2 7 1)=K
 k2:pl.Aq p 2 (rw2 7 2)=K
 k4:pl.Aq p 1 (rw2 7 4)=K
 gone:pl.M5 p 2 4= -1
theorem QE:begP pl.Dd (pl.Aq pl.Dd 1 (rw2 7 1)):=⟨pl.Qo,rfl,rfl,rfl,rfl,rfl,rfl,rfl,by kernel_rfl,by kernel_rfl,by kernel_rfl,by kernel_rfl,by kernel_rfl,by kernel_rfl,by kernel_rfl,rfl,by kernel_rfl,by kernel_rfl,by kernel_rfl⟩
theorem Pc{n:Int}(h:1<=n/\n<=64):okB ⟨n,[],[]⟩:=⟨h,by simp;omega,by simp[Ab,partsB],by simp[partsB],by simp[partsB],by simp,by simp[Ab,partsB]⟩
theorem good_start(h:pl.Al p=0):goodJ p (startJ p):=by
 have hl:=(pl.BW h).2.1.2.2
 have e0:Ab ⟨p.limit,[],[]⟩=[]:=by simp[Ab,partsB]
 rw[Ff h]
 refine⟨⟨Pc hl,Pc hl,by simp[CH],by simp[CH],by simp,rfl,rfl,?_,?_,?_,?_⟩,?_⟩
 ·intro y hy;rw[e0]at hy;cases hy
 ·rw[e0];exact List.nodup_nil
 ·intro y hy;rw[e0]at hy;cases hy
 ·intro y hy;rw[e0]at hy;cases hy
 ·intro y hy;rw[e0]at hy;cases hy
theorem E0(hp:pl.Al p=0)(h:goodJ p s)(v:Ev):stepJ p s v=if A7 p s v≠0 then(A7 p s v,j0,[])else if v.kind=2 then(0,Cn p (DI s v.side v.time),[])else(0,GA p s v):=by
 have e:BB p s=0:=h.ok.none hp
 unfold stepJ
 rw[if_neg (by rw[e];exact fun k=>k rfl)]
def St1(K:ByteArray):Jn:=⟨⟨2,[⟨K,1,0,rw2 7 1,false⟩],[]⟩,⟨2,[],[]⟩,noMark,noMark,1⟩
def St2(K:ByteArray):Jn:=⟨⟨2,[⟨K,1,0,rw2 7 1,true⟩],[]⟩,⟨2,[⟨K,2,1,rw2 7 2,true⟩],[]⟩,noMark,noMark,2⟩
def St3(K:ByteArray):Jn:=⟨⟨2,[⟨K,1,0,rw2 7 1,true⟩],[]⟩,⟨2,[⟨K,2,1,rw2 7 2,true⟩],[]⟩,4,noMark,2⟩
def ch1:ch.Chg:=⟨1,rw2 7 1++bt.CD 2⟩
def ch2:ch.Chg:=⟨3,rw2 7 1++bt.CD 2⟩
def ch3:ch.Chg:=⟨4,rw2 7 1++rw2 7 2⟩
def ch4:ch.Chg:=⟨1,rw2 7 4++rw2 7 2⟩
theorem T0:Ce []=[]:=by simp[Ce]
theorem Ls(y:Ent):Ce [y]=[y]:=by simp[Ce]
theorem GY{side:Int}(h:B6 s (3 - side)=noMark):Cm p s side=noMark:=if_pos h
theorem Pd(met:Bool)(h1:pl.hasB p v.side v.row=true)(h2:Cm p s v.side<v.time):Dy p s v met=⟨(A3 s v.side (CU (Am s v.side) ⟨pl.Aq p v.side v.row,v.time,s.seq,v.row,met⟩)).L,(A3 s v.side (CU (Am s v.side) ⟨pl.Aq p v.side v.row,v.time,s.seq,v.row,met⟩)).R,(A3 s v.side (CU (Am s v.side) ⟨pl.Aq p v.side v.row,v.time,s.seq,v.row,met⟩)).lm,(A3 s v.side (CU (Am s v.side) ⟨pl.Aq p v.side v.row,v.time,s.seq,v.row,met⟩)).rm,(A3 s v.side (CU (Am s v.side) ⟨pl.Aq p v.side v.row,v.time,s.seq,v.row,met⟩)).seq+1⟩:=by
 unfold Dy
 rw[if_pos ⟨h1,h2⟩]
def St0:Jn:=⟨⟨2,[],[]⟩,⟨2,[],[]⟩,noMark,noMark,0⟩
theorem Ir(y:Ent):CU ⟨2,[],[]⟩ y=⟨2,[y],[]⟩:=by
 unfold CU
 rw[show Ce (([]:List Ent)++[y])=[y]from Ls y]
 rfl
theorem Pe(hk:p.kind=1):GA p s v=(Dy p (Cf p s v) v (!(partners p s v).isEmpty),Cq p s v):=by
 unfold GA
 rw[if_neg (by rw[hk];decide)]
theorem Lt(side:Int):Co 4 side=true:=rfl
theorem YF(h:begP p K):stepJ p (startJ p) ev1=(0,St1 K,[ch1]):=by
 rw[E0 h.err (good_start h.err),Ff h.err,h.limit]
 show(if A7 p St0 ev1≠0 then(A7 p St0 ev1,j0,[])else if ev1.kind=2 then(0,Cn p (DI St0 ev1.side ev1.time),[])else(0,GA p St0 ev1))=_
 have e:A7 p St0 ev1=0:=by
  simp[A7,ev1,pl.Be,tm.Bb,h.e1,B6,noMark,Am,Ab,partsB,St0]
 have e1:partners p St0 ev1=[]:=by
  simp[partners,ev1,h.h1,CB,Am,Ab,partsB,T0,St0]
 have e2:Cf p St0 ev1=St0:=by
  unfold Cf
  rw[e1]
  rfl
 rw[if_neg (by rw[e];exact fun k=>k rfl),if_neg (by decide),Pe h.kind,e2,e1,Pd _ h.h1 (by rw[GY rfl];decide)]
 unfold Cq
 rw[e1,h.mode]
 show(0,_,_)=_
 have e3:pl.Aq p ev1.side ev1.row=K:=h.k1
 rw[e3]
 simp only[ev1,Am,A3,St0,Ir,Lt,AQ,AW]
 simp[St1,ch1,h.r,Ir]
theorem Yj(h:begP p K):goodJ p (St1 K):=by
 have:=good_step (p:=p) (s:=startJ p) (v:=ev1) (good_start h.err).wf ⟨DQ (by decide) (by decide),by decide⟩ (by rw[YF h])
 rw[YF h]at this
 exact this
theorem YG(h:begP p K):stepJ p (St1 K) ev2=(0,St2 K,[ch2,ch3]):=by
 rw[E0 h.err (Yj h)]
 have e:A7 p (St1 K) ev2=0:=by
  simp[A7,ev2,pl.Be,tm.Bb,h.e2,B6,noMark,Am,Ab,partsB,St1]
 have e1:partners p (St1 K) ev2=[⟨K,1,0,rw2 7 1,false⟩]:=by
  simp[partners,ev2,h.h2,CB,Am,Ab,partsB,Ls,St1,h.k2,Dw,toJ,h.kind,h.low,h.high]
 have e2:Cf p (St1 K) ev2=⟨⟨2,[⟨K,1,0,rw2 7 1,true⟩],[]⟩,⟨2,[],[]⟩,noMark,noMark,1⟩:=by
  unfold Cf
  rw[e1]
  rfl
 rw[if_neg (by rw[e];exact fun k=>k rfl),if_neg (by decide),Pe h.kind,e2,e1,Pd _ h.h2 (by rw[GY rfl];decide)]
 unfold Cq
 rw[e1,h.mode]
 have e3:pl.Aq p ev2.side ev2.row=K:=h.k2
 rw[e3]
 simp only[ev2,Am,A3,Ir,Lt,AQ,AW]
 simp[St2,ch2,ch3,h.r,Ir]
theorem Yk(h:begP p K):goodJ p (St2 K):=by
 have:=good_step (p:=p) (s:=St1 K) (v:=ev2) (Yj h).wf ⟨DQ (by decide) (by decide),by decide⟩ (by rw[YG h])
 rw[YG h]at this
 exact this
theorem YH(h:begP p K):stepJ p (St2 K) ev3=(0,St3 K,[]):=by
 rw[E0 h.err (Yk h)]
 have e:A7 p (St2 K) ev3=0:=by
  simp[A7,ev3,pl.Be,tm.Bb,B6,noMark,St2]
 rw[if_neg (by rw[e];exact fun k=>k rfl),if_pos (show ev3.kind=2 from rfl)]
 have e1:Cm p (St3 K) 1=noMark:=GY rfl
 have e2:Cm p (St3 K) 2= -1:=by
  unfold Cm
  rw[if_neg (show B6 (St3 K) (3 - 2)≠noMark from show(4:Int)≠noMark by decide)]
  exact h.gone
 have e3:DI (St2 K) ev3.side ev3.time=St3 K:=rfl
 rw[e3]
 simp only[Cn,h.kind,EF,e1,e2]
 simp[St3,C1,D4,noMark,Dp]
theorem VD(h:begP p K):goodJ p (St3 K):=by
 have:=good_step (p:=p) (s:=St2 K) (v:=ev3) (Yk h).wf ⟨fun c hc=>(by cases hc),by decide⟩ (by rw[YH h])
 rw[YH h]at this
 exact this
theorem beg4(h:begP p K):stepJ p (St3 K) ev4=(7,j0,[]):=by
 rw[E0 h.err (VD h)]
 have e:A7 p (St3 K) ev4=7:=by
  simp[A7,ev4,pl.Be,tm.Bb,h.e3,B6,noMark,St3]
 rw[if_pos (by rw[e];decide),e]
theorem beg5(h:begP p K):∃s,stepJ p (St3 K) ev5=(0,s,[ch4])/\s.lm=4/\s.rm=noMark/\s.seq=3/\goodJ p s:=by
 have e:A7 p (St3 K) ev5=0:=by
  simp[A7,ev5,pl.Be,tm.Bb,h.e4,B6,noMark,Am,Ab,partsB,St3]
 have e1:partners p (St3 K) ev5=[⟨K,2,1,rw2 7 2,true⟩]:=by
  simp[partners,ev5,h.h4,CB,Am,Ab,partsB,Ls,St3,h.k4,Dw,toJ,h.kind,h.low,h.high]
 have e2:stepJ p (St3 K) ev5=(0,GA p (St3 K) ev5):=by
  rw[E0 h.err (VD h),if_neg (by rw[e];exact fun k=>k rfl),if_neg (by decide)]
 have e3:(GA p (St3 K) ev5).2=[ch4]:=by
  simp only[GA,h.kind,Cq,e1]
  simp[ev5,Co,h.mode,AW,ch4]
 have e4:(GA p (St3 K) ev5).1=Dy p (Cf p (St3 K) ev5) ev5 true:=by
  simp only[GA,h.kind,e1]
  simp
 have g:=good_step (p:=p) (s:=St3 K) (v:=ev5) (VD h).wf ⟨DQ (by decide) (by decide),by decide⟩ (by rw[e2])
 refine⟨(GA p (St3 K) ev5).1,?_,?_,?_,?_,?_⟩
 ·rw[e2,<-e3]
 ·rw[e4];unfold Dy;dsimp only;split<;>simp[A3,Cf,ev5,St3]
 ·rw[e4];unfold Dy;dsimp only;split<;>simp[A3,Cf,ev5,St3]
 ·rw[e4];unfold Dy;dsimp only;split<;>simp[A3,Cf,ev5,St3]
 ·rw[e2]at g;exact g
theorem VE(h:begP p K):∃s,Jp p GX=(0,s,[ch1,ch2,ch3,ch4],[3])/\s.lm=4/\s.rm=noMark/\s.seq=3:=by
 obtain⟨s,e5,h1,h2,h3,h4⟩:=beg5 h
 refine⟨s,?_,h1,h2,h3⟩
 unfold Jp
 rw[if_neg (by rw[h.err];exact fun k=>k rfl)]
 unfold Ex
 rw[if_neg (by decide)]
 simp only[GX,DW,YF h,YG h,YH h,beg4 h,e5]
 simp
def Dk:List ch.Chg:=[ch1,ch2,ch3,ch4]
theorem QF:ch.AS Dk=0:=by kernel_rfl
theorem Zg:ch.GV (ch.AK []) Dk 0=0:=by kernel_rfl
theorem Zh:ch.GV (ch.AK []) Dk 1=0:=by kernel_rfl
theorem Zi:ch.GV (ch.AK []) Dk 2=0:=by kernel_rfl
theorem Zj:ch.GV (ch.AK []) Dk 3=0:=by kernel_rfl
theorem QG:∀i,i<4->ch.GV (ch.AK []) Dk i=0:=by
 intro i hi
 match i,hi with
 |0,_=>exact Zg
 |1,_=>exact Zh
 |2,_=>exact Zi
 |3,_=>exact Zj
theorem VF:(ch.atK (ch.AK []) Dk 4).length=2:=by kernel_rfl
end jn
namespace jn
open Go.ChangeShapes Go.WideShapes Go.ChangeAt Go.RowKit
open vl bf
variable {w : World}
theorem TG.chgs{base:Nat}{v:Value}{L:List CO}(h:TG w base v L):v= .slice (Ny v) L.length (Q7 v)/\ch.Dv w (Ny v) (L.map CO.chg):=by
 have ho:=h.own
 refine⟨Lq ho,fun i hi=>?_⟩
 have hi2:i<L.length:=by simpa using hi
 rcases ho.2 with⟨hv,h0⟩|⟨g,c,cur,hv,_⟩
 ·omega
 ·have hc:=World.ownsRow.cells ho (g:=g) (by rw[hv];rfl)
  obtain⟨f1,f2⟩:=ch.OV (L.map CO.pair) i (by simpa using hi2)
  obtain⟨e1,e2⟩:=M8 L i hi2
  rw[e1]at f1 f2
  have c1:=hc _ _ f1
  have c2:=hc _ _ f2
  rw[ch.Cl,Nat.zero_add]at c1 c2
  obtain⟨bs,hr⟩:=h.rows (L.getD i default) (by rw[gDe,gEe hi2];exact List.getElem_mem hi2)
  have er:=Lq hr
  rw[er]at hr c2
  refine⟨g,0,Ny (L.getD i default).rv,Q7 (L.getD i default).rv,by rw[hv];rfl,?_,?_,?_⟩
  ·rw[e2,Nat.zero_add];exact c1
  ·rw[e2,Nat.zero_add];exact c2
  ·rw[e2];exact vl.D7 hr
theorem evs5{b:Nat}{r1 r2 r3 r4:Option Addr}(c0:w.cell? ⟨b,0,none⟩=some (.int .i64 1))(c1:w.cell? ⟨b,1,none⟩=some (.int .i64 1))(c2:w.cell? ⟨b,2,none⟩=some (.int .i64 1))(c3:w.cell? ⟨b,3,none⟩=some (.slice r1 2 2))
 (c4:w.cell? ⟨b,4,none⟩=some (.int .i64 1)) (c5:w.cell? ⟨b,5,none⟩=some (.int .i64 2)) (c6:w.cell? ⟨b,6,none⟩=some (.int .i64 2)) (c7:w.cell? ⟨b,7,none⟩=some (.slice r2 2 2))
 (c8:w.cell? ⟨b,8,none⟩=some (.int .i64 2)) (c9:w.cell? ⟨b,9,none⟩=some (.int .i64 1)) (c10:w.cell? ⟨b,10,none⟩=some (.int .i64 4)) (c11:w.cell? ⟨b,11,none⟩=some (.slice none 0 0))
 (c12:w.cell? ⟨b,12,none⟩=some (.int .i64 1)) (c13:w.cell? ⟨b,13,none⟩=some (.int .i64 1)) (c14:w.cell? ⟨b,14,none⟩=some (.int .i64 4)) (c15:w.cell? ⟨b,15,none⟩=some (.slice r3 2 2))
 (c16:w.cell? ⟨b,16,none⟩=some (.int .i64 1)) (c17:w.cell? ⟨b,17,none⟩=some (.int .i64 1)) (c18:w.cell? ⟨b,18,none⟩=some (.int .i64 5)) (c19:w.cell? ⟨b,19,none⟩=some (.slice r4 2 2))
 (h1:vl.rowAt w r1 (rw2 7 1)) (h2:vl.rowAt w r2 (rw2 7 2)) (h3:vl.rowAt w r3 (rw2 7 3)) (h4:vl.rowAt w r4 (rw2 7 4)):GH w (some ⟨b,0,none⟩) GX [(r1,2),(r2,2),(none,0),(r3,2),(r4,2)]:=by
 intro i hi
 match i,hi with
 |0,_=>exact⟨b,0,rfl,c0,c1,c2,c3,h1,DQ (by decide) (by decide),by decide⟩
 |1,_=>exact⟨b,0,rfl,c4,c5,c6,c7,h2,DQ (by decide) (by decide),by decide⟩
 |2,_=>exact⟨b,0,rfl,c8,c9,c10,c11,fun i hi=>absurd hi (Nat.not_lt_zero i),fun c hc=>absurd hc List.not_mem_nil,by decide⟩
 |3,_=>exact⟨b,0,rfl,c12,c13,c14,c15,h3,DQ (by decide) (by decide),by decide⟩
 |4,_=>exact⟨b,0,rfl,c16,c17,c18,c19,h4,DQ (by decide) (by decide),by decide⟩
theorem T4(w:World):Calls Tryz.prog 36 #[] w fun e w'=>(∃b xs,e= .returned (.slice (some ⟨b,0,none⟩) 5 5)/\GH w' (some ⟨b,0,none⟩) GX xs)/\Bwz w w':=by
 go_enter func36,ntmps36
 go_wp2_with fail
 refine(pl.Fy _ _ _).mono ?_
 rintro e w1 ⟨⟨r1,rfl,hr1⟩,hb1⟩
 have HR1:Hid (vl.rowAt w1 r1 (rw2 7 1)):=hr1
 clear hr1
 go_wp2_with fail
 refine(pl.Fy _ _ _).mono ?_
 rintro e w2 ⟨⟨r2,rfl,hr2⟩,hb2⟩
 have HR2:Hid (vl.rowAt w2 r2 (rw2 7 2)):=hr2
 clear hr2
 go_wp2_with fail
 refine(pl.Fy _ _ _).mono ?_
 rintro e w3 ⟨⟨r3,rfl,hr3⟩,hb3⟩
 have HR3:Hid (vl.rowAt w3 r3 (rw2 7 3)):=hr3
 clear hr3
 go_wp2_with fail
 refine(pl.Fy _ _ _).mono ?_
 rintro e w4 ⟨⟨r4,rfl,hr4⟩,hb4⟩
 have HR4:Hid (vl.rowAt w4 r4 (rw2 7 4)):=hr4
 clear hr4
 have b24:Bwz w2 w4:=hb3.trans (hb4.mono hb3.size)
 have b14:Bwz w1 w4:=hb2.trans (b24.mono hb2.size)
 have b04:Bwz w w4:=hb1.trans (b14.mono hb1.size)
 go_wp2
 generalize hV:(World.alloc w4 _)=W
 have hbW:Bwz w4 W:=by rw[<-hV];exact bR.alloc nR _
 have HE:Hid (GH W (some ⟨w4.heap.size,0,none⟩) GX [(r1,2),(r2,2),(none,0),(r3,2),(r4,2)]):=evs5 (by subst hV;go_simp) (by subst hV;go_simp) (by subst hV;go_simp) (by subst hV;go_simp) (by subst hV;go_simp) (by subst hV;go_simp) (by subst hV;go_simp) (by subst hV;go_simp) (by subst hV;go_simp) (by subst hV;go_simp) (by subst hV;go_simp) (by subst hV;go_simp) (by subst hV;go_simp) (by subst hV;go_simp) (by subst hV;go_simp) (by subst hV;go_simp) (by subst hV;go_simp) (by subst hV;go_simp) (by subst hV;go_simp) (by subst hV;go_simp)
  (vl.Ac HR1.out (b14.trans (hbW.mono b14.size))) (vl.Ac HR2.out (b24.trans (hbW.mono b24.size))) (vl.Ac HR3.out (hb4.trans (hbW.mono hb4.size))) (vl.Ac HR4.out hbW)
 clear hV
 go_ret
 exact⟨⟨_,_,rfl,HE.out⟩,b04.trans (hbW.mono b04.size)⟩
theorem QH(x:pl.PA)(b:Nat)(xs:List RX)(w:World)(hp:pl.planAt w pl.Dd x)(hv:GH w (some ⟨b,0,none⟩) GX xs):Calls Tryz.prog 19 #[pl.Ap pl.Dd x,.slice (some ⟨b,0,none⟩) 5 5] w fun e w'=>(∃s y ta tc nb nc,e= .returned (.tuple #[joinV s y,.slice ta 4 tc,.slice (some ⟨nb,0,none⟩) 1 nc,.int .i64 0])/\s.lm=4/\s.seq=3/\ch.Dv w' ta Dk/\w'.cell? ⟨nb,0,none⟩=some (.int .i64 3))/\Bwz w w':=by
 refine(UY pl.Dd x GX xs _ 5 w pl.Tc hp hv (by decide)).mono ?_
 rintro e w' ⟨⟨y,t,L,nv,rfl,hl,hj,ht,hn⟩,hb⟩
 obtain⟨s,es,h1,h2,h3⟩:=VE QE
 rw[es]at hl hj hn⊢
 dsimp only at hl hj hn⊢
 refine⟨?_,hb⟩
 obtain⟨e1,e2⟩:=ht.chgs
 have e3:L.length=4:=by
  have:=congrArg List.length hl
  simpa using this
 rw[hl]at e2
 rw[e3]at e1
 rcases hn.2 with⟨hv,h0⟩|⟨g,c,cur,hv,_⟩
 ·exact absurd h0 (by simp)
 ·have hc:=World.ownsRow.cells hn (g:=g) (by rw[hv];rfl)
  have c0:=hc 0 (.int .i64 3) rfl
  rw[e1,hv]
  exact⟨s,y,Ny t,Q7 t,g,c,rfl,h1,h3,e2,c0⟩
theorem RQ(n:Nat):BE (bt.CD n):=fun c hc=>by
 rw[List.eq_of_mem_replicate hc]
 exact⟨by decide,by decide⟩
theorem N4{a b:List Cel}(ha:BE a)(hb:BE b):BE (a++b):=fun c hc=>(List.mem_append.1 hc).elim (ha c) (hb c)
theorem T5:ch.GO Dk:=by
 intro c hc
 simp only[Dk,List.mem_cons,List.not_mem_nil,or_false]at hc
 rcases hc with rfl|rfl|rfl|rfl
 ·exact⟨N4 (DQ (by decide) (by decide)) (RQ 2),by decide,by decide⟩
 ·exact⟨N4 (DQ (by decide) (by decide)) (RQ 2),by decide,by decide⟩
 ·exact⟨N4 (DQ (by decide) (by decide)) (DQ (by decide) (by decide)),by decide,by decide⟩
 ·exact⟨N4 (DQ (by decide) (by decide)) (DQ (by decide) (by decide)),by decide,by decide⟩
theorem QI(ta:Option Addr)(tc:Nat)(w:World)(h:ch.Dv w ta Dk):Calls Tryz.prog 37 #[.slice none 0 0,.slice ta 4 tc] w fun e w'=>(∃ad cap,e= .returned (.tuple #[.slice ad 2 cap,.int .i64 0,.int .i64 0]))/\Bwz w w':=by
 refine(ch.Vz none ta 0 tc [] Dk w (fun i hi=>absurd hi (Nat.not_lt_zero i)) (fun c hc=>absurd hc List.not_mem_nil) (by decide) h T5 (by decide)).mono ?_
 rintro e w' ⟨hr,hb⟩
 refine⟨?_,hb⟩
 have hv:ch.Bf []=0:=by kernel_rfl
 rcases hr with⟨h1,_⟩|⟨_,h1,_⟩|⟨_,_,k,h1,_,h2,_⟩|⟨_,_,_,out,ad,cap,e1,_,_,e2,_⟩
 ·exact absurd hv h1
 ·exact absurd QF h1
 ·exact absurd (QG k h1) h2
 ·have:=congrArg List.length e1
  rw[show Dk.length=4 from rfl,VF]at this
  have:out.length=2:=by simpa[ch.AK]using this
  rw[this]at e2
  exact⟨ad,cap,e2⟩
theorem MC(w:World):Calls Tryz.prog 12 #[] w fun e w'=>e= .returned (.bool true)/\Bwz w w':=by
 go_enter func12,ntmps12
 go_wp2_with fail
 refine(pl.Qp _).mono ?_
 rintro e w1 ⟨⟨x,rfl,hp,_⟩,hb1⟩
 have HP:Hid (pl.planAt w1 pl.Dd x):=hp
 obtain⟨pv,hpv⟩:=nM (pl.Ap pl.Dd x)
 have HV:Hid (pl.Ap pl.Dd x=pv):=hpv
 rw[hpv]
 clear hp hpv
 go_wp2_with fail
 refine(T4 _).mono ?_
 rintro e w2 ⟨⟨b,xs,rfl,hv⟩,hb2⟩
 have KP:Hid (CTz 19 #[pv,.slice (some ⟨b,0,none⟩) 5 5] w2 fun e w'=>(∃s y ta tc nb nc,e= .returned (.tuple #[joinV s y,.slice ta 4 tc,.slice (some ⟨nb,0,none⟩) 1 nc,.int .i64 0])/\s.lm=4/\s.seq=3/\ch.Dv w' ta Dk/\w'.cell? ⟨nb,0,none⟩=some (.int .i64 3))/\Bwz w2 w'):=by
  have:=QH x b xs w2 (pl.Af HP.out hb2) hv
  rw[HV.out]at this
  exact this
 have b2:Bwz w w2:=hb1.trans (hb2.mono hb1.size)
 clear hv HP HV hb1 hb2
 go_wp2_with fail
 refine KP.out.mono ?_
 rintro e w3 ⟨⟨s,y,ta,tc,nb,nc,rfl,hlm,hsq,hch,hn⟩,hb3⟩
 have b3:Bwz w w3:=b2.trans (hb3.mono b2.size)
 have HC:Hid (ch.Dv w3 ta Dk):=hch
 have HLM:Hid (s.lm=4/\s.seq=3):=⟨hlm,hsq⟩
 clear KP hch hb3 b2 hlm hsq
 rw[A6]
 go_upto_region 2 with fail
 generalize hV:(World.alloc w3 _)=w4
 have hb4:Bwz w3 w4:=by rw[<-hV];exact bR.alloc nR _
 have HBX:Hid (AU w4 w3.heap.size s y):=by
  subst hV
  exact Bo ..
 clear hV
 have b4:Bwz w w4:=b3.trans (hb4.mono b3.size)
 have n4:=cLz hb4 hn
 obtain⟨_,_,_,_,_,_,u6,_,u8⟩:=HBX.out
 rw[HLM.out.1]at u6
 rw[HLM.out.2]at u8
 have KF:Hid (CTz 37 #[.slice none 0 0,.slice ta 4 tc] w4 fun e w'=>(∃ad cap,e= .returned (.tuple #[.slice ad 2 cap,.int .i64 0,.int .i64 0]))/\Bwz w4 w'):=QI ta tc w4 (ch.Fo HC.out hb4)
 clear hn HC hb4 b3 HBX
 go_wp2_with fail
 refine KF.out.mono ?_
 rintro e w5 ⟨⟨ad,cap,rfl⟩,hb5⟩
 have b5:Bwz w w5:=b4.trans (hb5.mono b4.size)
 have n5:=cLz hb5 n4
 have v6:=cLz hb5 u6
 have v8:=cLz hb5 u8
 clear KF n4 u6 u8 hb5 b4
 go_wp2
 go_ret
 exact⟨rfl,b5⟩
end jn
namespace bf
open Go.ChangeShapes Go.WideShapes Go.ChangeAt Go.RowKit
open vl
theorem X7{a b:ByteArray}(h:a≠b):¬a.toList=b.toList:=fun e=>h (by have:=bytes_beq a b;rw[e]at this;simpa using this.symm)
theorem Ja(e f:EM)(w:World):Calls Tryz.prog 55 #[e.val,f.val] w fun r w'=>r= .returned (.int .i64 (DG e.ent f.ent))/\Bwz w w':=by
 obtain⟨R,hR⟩:=nM (DG e.ent f.ent)
 have HF:Hid (AF [Lib.compareBytes (bl e.key) (bl f.key),Cs e.time f.time,Cs e.seq f.seq]=R):=by
  show _=_
  rw[<-hR]
  exact Hh e.ent f.ent
 rw[hR]
 clear hR
 obtain⟨ek,et,es,⟨r1,r2,r3⟩,em⟩:=e
 obtain⟨fk,ft,fs,⟨q1,q2,q3⟩,fm⟩:=f
 unfold EM.val hdV
 dsimp only at HF⊢
 by_cases hk:ek=fk
 ·subst hk
  have h0:Lib.compareBytes (bl ek) (bl ek)=0:=by rw[JK];simp
  rw[h0]at HF
  by_cases ht:Cs et ft=0
  ·have HR:Hid (Cs es fs=R):=by
    show _=_
    rw[<-HF.out,ht]
    unfold AF
    by_cases h3:Cs es fs=0<;>simp[AF,h3]
   clear HF h0
   have KO:Hid (∀w1,CTz 105 #[.int .i64 et,.int .i64 ft] w1 fun e w'=>e= .returned (.int .i64 0)/\w'=w1):=fun w1=>by have:=Je et ft w1;rwa[ht]at this
   go_enter func55,ntmps55
   go_wp2_with (go_at_call 105;first|(refine(KO.out _).mono ?_;rintro e w' ⟨rfl,rfl⟩)|(refine(Je es fs _).mono ?_;rintro e w' ⟨rfl,rfl⟩))
   go_ret
   refine⟨Ad HR.out,?_⟩
   repeat (first|exact bR|apply Below.drew|(refine Below.alloc ?_ (by simp<;>omega) _))
  ·have HR:Hid (Cs et ft=R):=by
    show _=_
    rw[<-HF.out]
    simp[AF,ht]
   clear HF h0
   have hne:(Cs et ft !=0)=true:=by simpa using ht
   go_enter func55,ntmps55
   go_wp2_with (go_at_call 105;refine(Je et ft _).mono ?_;rintro e w' ⟨rfl,rfl⟩)
   go_ret
   refine⟨Ad HR.out,?_⟩
   repeat (first|exact bR|apply Below.drew|(refine Below.alloc ?_ (by simp<;>omega) _))
 ·have t1':=X7 hk
  have t1:(ek.toList==fk.toList)=false:=by simpa using t1'
  clear t1'
  by_cases hl:bl ek<bl fk
  ·have HR:Hid ((-1:Int)=R):=by
    show _=_
    rw[<-HF.out,JK,if_pos hl]
    rfl
   clear HF
   have hb:Op.bytesLess ek.toList fk.toList=true:=by rw[Lib.toList_data,Lib.toList_data,EL];exact decide_eq_true hl
   go_enter func55,ntmps55
   go_wp2
   go_ret
   refine⟨Ad HR.out,?_⟩
   repeat (first|exact bR|apply Below.drew|(refine Below.alloc ?_ (by simp<;>omega) _))
  ·have HR:Hid ((1:Int)=R):=by
    show _=_
    rw[<-HF.out,JK,if_neg hl,if_neg (fun e=>hk (NM e))]
    rfl
   clear HF
   have hb:Op.bytesLess ek.toList fk.toList=false:=by rw[Lib.toList_data,Lib.toList_data,EL];exact decide_eq_false hl
   go_enter func55,ntmps55
   go_wp2
   go_ret
   refine⟨Ad HR.out,?_⟩
   repeat (first|exact bR|apply Below.drew|(refine Below.alloc ?_ (by simp<;>omega) _))
end bf
namespace bf
open Go.ChangeShapes Go.WideShapes Go.ChangeAt Go.RowKit
open vl
attribute [local go_sem] Oper.semAt_some
variable {w : World} {b : Buf} {x x' : BX}
theorem Pf(a a':Option Addr)(c c':Nat)(es es':List EM)(l:List Ent)(w:World)(ha:BD w a es)(hr:ERs w es l)(ha':BD w a' es')(hr':ERs w es' l)(hl:l.length<=9223372036854775807)(hrow:∀y∈l,y.row.length<=9223372036854775807):
 Calls Tryz.prog 74 #[.slice a l.length c,.slice a' l.length c'] w fun e w'=>e= .returned (.bool true)/\Bwz w w':=by
 have HA:Hid (BD w a es):=ha
 have HA':Hid (BD w a' es'):=ha'
 have HR:Hid (ERs w es l):=hr
 have HR':Hid (ERs w es' l):=hr'
 have HROW:Hid (∀y∈l,y.row.length<=9223372036854775807):=hrow
 obtain⟨n,hn⟩:∃n,l.length=n:=⟨_,rfl⟩
 have HN:Hid (l.length=n):=hn
 rw[hn]at hl⊢
 clear hn ha ha' hr hr' hrow
 go_enter func74,ntmps74
 go_wp2
 go_loopw [5] (fun i wr=> ∃k:Nat,k<=n/\i= .int .i64 k/\Bwz w wr) (fun i _=>n - (intOf i).toNat)
 case atStart=>exact⟨0,Nat.zero_le _,rfl,bR⟩
 case round=>
  obtain⟨k,hk,rfl,hnx⟩:=hrel
  by_cases hlt:k<n
  ·obtain⟨b1,o1,e1,x1,x2,x3,x4,x5⟩:=HA.out k (by rw[HR.out.1,HN.out];exact hlt)
   obtain⟨b2,o2,e2,y1,y2,y3,y4,y5⟩:=HA'.out k (by rw[HR'.out.1,HN.out];exact hlt)
   subst e1 e2
   have z1:=cLz hnx x1
   have z2:=cLz hnx x2
   have z3:=cLz hnx x3
   have z4:=cLz hnx x4
   have z5:=cLz hnx x5
   have u1:=cLz hnx y1
   have u2:=cLz hnx y2
   have u3:=cLz hnx y3
   have u4:=cLz hnx y4
   have u5:=cLz hnx y5
   clear x1 x2 x3 x4 x5 y1 y2 y3 y4 y5
   have h1:=(HR.out.2 k (by rw[HN.out];exact hlt)).below hnx
   have h2:=(HR'.out.2 k (by rw[HN.out];exact hlt)).below hnx
   have hm:l.getD k default∈l:=A1 (by rw[HN.out];exact hlt)
   have hlen:=HROW.out _ hm
   have KC:Hid (∀w1,CTz 55 #[(es.getD k default).val,(es'.getD k default).val] w1 fun r w'=>r= .returned (.int .i64 0)/\Bwz w1 w'):=fun w1=>by
    have k0:=Ja (es.getD k default) (es'.getD k default) w1
    rwa[Hx h1 h2,Jf.2 (Ri _)]at k0
   have KS:Hid (∀w1,Bwz wr w1->CTz 22 #[hdV (es.getD k default).row,hdV (es'.getD k default).row] w1 fun r w'=>r= .returned (.bool true)/\Bwz w1 w'):=fun w1 hb=>by
    have k0:=Wh (es.getD k default).row.1 (es'.getD k default).row.1 (es.getD k default).row.2.2 (es'.getD k default).row.2.2 (l.getD k default).row (l.getD k default).row w1 (Ac h1.row hb) (Ac h2.row hb) hlen hlen
    rw[decide_eq_true rfl]at k0
    unfold hdV
    rw[h1.len,h2.len]
    exact k0
   have a1:=h1.key.trans h2.key.symm
   have a2:=h1.time.trans h2.time.symm
   have a3:=h1.seq.trans h2.seq.symm
   have a4:=h1.met.trans h2.met.symm
   clear h1 h2 hm hlen
   obtain⟨⟨ek,et,es1,⟨r1,r2,r3⟩,em⟩,hz⟩:∃z,es.getD k default=z:=⟨_,rfl⟩
   obtain⟨⟨fk,ft,fs,⟨q1,q2,q3⟩,fm⟩,hz'⟩:∃z,es'.getD k default=z:=⟨_,rfl⟩
   rw[hz]at z1 z2 z3 z4 z5 KC KS a1 a2 a3 a4
   rw[hz']at u1 u2 u3 u4 u5 KC KS a1 a2 a3 a4
   unfold EM.val hdV at KC
   unfold hdV at KS z4 u4
   dsimp only at z1 z2 z3 z4 z5 u1 u2 u3 u4 u5 KC KS a1 a2 a3 a4
   subst a1 a2 a3 a4
   clear hz hz'
   have i1:(0:Int)<=(k:Int):=by omega
   have i2:(k:Int)<(n:Int):=by omega
   have dr:Bwz wr wr.drew:=bR.drew
   go_wp2
   go_region_held3
    (fun w'=>w'.cell? ⟨b1,o1+k * 5,none⟩=some (.string ek)/\w'.cell? ⟨b1,o1+k * 5+1,none⟩=some (.int .i64 et)/\w'.cell? ⟨b1,o1+k * 5+1+1,none⟩=some (.int .i64 es1)/\w'.cell? ⟨b1,o1+k * 5+1+1+1,none⟩=some (.slice r1 r2 r3)/\w'.cell? ⟨b1,o1+k * 5+1+1+1+1,none⟩=some (.bool em)/\w'.cell? ⟨b2,o2+k * 5,none⟩=some (.string ek)/\w'.cell? ⟨b2,o2+k * 5+1,none⟩=some (.int .i64 et)/\w'.cell? ⟨b2,o2+k * 5+1+1,none⟩=some (.int .i64 es1)/\w'.cell? ⟨b2,o2+k * 5+1+1+1,none⟩=some (.slice q1 q2 q3)/\w'.cell? ⟨b2,o2+k * 5+1+1+1+1,none⟩=some (.bool em))
    (first|go_keep|exact⟨cLz hbq z1,cLz hbq z2,cLz hbq z3,cLz hbq z4,cLz hbq z5,cLz hbq u1,cLz hbq u2,cLz hbq u3,cLz hbq u4,cLz hbq u5⟩|exact⟨cLz hbp z1,cLz hbp z2,cLz hbp z3,cLz hbp z4,cLz hbp z5,cLz hbp u1,cLz hbp u2,cLz hbp u3,cLz hbp u4,cLz hbp u5⟩)
    (first
     |(go_at_call 22;refine(KS.out _ hbp).mono ?_;rintro e wq ⟨rfl,hbq0⟩;have hbq:=hbp.trans (hbq0.mono hbp.size))
     |(go_at_call 55;refine(KC.out _).mono ?_;rintro e wp ⟨rfl,hbp0⟩;have hbp:=dr.trans hbp0))
   all_goals
    have hlq:Bwz w wq:=hnx.trans (hbq.mono hnx.size)
    go_wp2
    go_roundw
    case rel=>exact⟨k+1,by omega,by go_num,hlq⟩
    case measure=>simp[intOf];omega
  ·go_wp2
   go_ret
   exact⟨rfl,hnx⟩
theorem T6(h:bufAt w b x)(h':bufAt w b x')(hl:∀l∈partsB b,l.length<=9223372036854775807)(hr:∀y∈Ab b,y.row.length<=9223372036854775807)(i:Nat)(hi:i<b.runs.length):
 Calls Tryz.prog 74 #[hdV (x.rs.getD i default).1,hdV (x'.rs.getD i default).1] w fun e w'=>e= .returned (.bool true)/\Bwz w w':=by
 have g1:x.rs.getD i default∈x.m::x.rs:=List.mem_cons_of_mem _ (A1 (by rw[h.rlen];exact hi))
 have g2:x'.rs.getD i default∈x'.m::x'.rs:=List.mem_cons_of_mem _ (A1 (by rw[h'.rlen];exact hi))
 have e1:=h.runs i hi
 have e2:=h'.runs i hi
 have hm:b.runs.getD i default∈partsB b:=List.mem_cons_of_mem _ (A1 hi)
 have k:=Pf (x.rs.getD i default).1.1 (x'.rs.getD i default).1.1 (x.rs.getD i default).1.2.2 (x'.rs.getD i default).1.2.2 _ _ (b.runs.getD i default) w (h.ems _ g1) e1 (h'.ems _ g2) e2 (hl _ hm) (fun y hy=>hr y (List.mem_flatten.2 ⟨_,hm,hy⟩))
 unfold hdV
 rw[(h.len _ g1).1,(h'.len _ g2).1,e1.1,e2.1]
 exact k
theorem VG(h:bufAt w b x)(h':bufAt w b x')(hl:∀l∈partsB b,l.length<=9223372036854775807)(hr:∀y∈Ab b,y.row.length<=9223372036854775807):
 Calls Tryz.prog 74 #[hdV x.m.1,hdV x'.m.1] w fun e w'=>e= .returned (.bool true)/\Bwz w w':=by
 have g1:x.m∈x.m::x.rs:=List.mem_cons_self ..
 have g2:x'.m∈x'.m::x'.rs:=List.mem_cons_self ..
 have hm:b.mem∈partsB b:=List.mem_cons_self ..
 have k:=Pf x.m.1.1 x'.m.1.1 x.m.1.2.2 x'.m.1.2.2 _ _ b.mem w (h.ems _ g1) h.mem (h'.ems _ g2) h'.mem (hl _ hm) (fun y hy=>hr y (List.mem_flatten.2 ⟨_,hm,hy⟩))
 unfold hdV
 rw[(h.len _ g1).1,(h'.len _ g2).1,h.mem.1,h'.mem.1]
 exact k
theorem Pg(b:Buf)(x x':BX)(w:World)(h:bufAt w b x)(h':bufAt w b x')(hl:∀l∈partsB b,l.length<=9223372036854775807)(hr:∀y∈Ab b,y.row.length<=9223372036854775807):
 Calls Tryz.prog 38 #[AN b x,AN b x'] w fun e w'=>e= .returned (.bool true)/\Bwz w w':=by
 have KM:Hid (∀w1,Bwz w w1->CTz 74 #[hdV x.m.1,hdV x'.m.1] w1 fun e w'=>e= .returned (.bool true)/\Bwz w1 w'):=fun w1 hb=>VG (Ai h hb) (Ai h' hb) hl hr
 have KR:Hid (∀i w1,i<b.runs.length->Bwz w w1->CTz 74 #[hdV (x.rs.getD i default).1,hdV (x'.rs.getD i default).1] w1 fun e w'=>e= .returned (.bool true)/\Bwz w1 w'):=fun i w1 hi hb=>T6 (Ai h hb) (Ai h' hb) hl hr i hi
 have H1:Hid (EU w x.ra (x.rs.map (·.1))):=h.hds
 have H2:Hid (EU w x'.ra (x'.rs.map (·.1))):=h'.hds
 have hn1:=h.rlen
 have hn2:=h'.rlen
 have hfew:=h.few
 clear h h' hl hr
 obtain⟨ra,rc,⟨⟨m1,m2,m3⟩,ml⟩,rs⟩:=x
 obtain⟨rb,rd,⟨⟨q1,q2,q3⟩,ql⟩,rt⟩:=x'
 obtain⟨lim,mem,runs⟩:=b
 unfold AN hdV
 unfold hdV at KM
 dsimp only at KM KR H1 H2 hn1 hn2 hfew⊢
 obtain⟨n,hn⟩:∃n,runs.length=n:=⟨_,rfl⟩
 have HN:Hid (rs.length=n/\rt.length=n):=⟨by rw[hn1,hn],by rw[hn2,hn]⟩
 rw[hn]at KR hn1 hn2
 rw[hn1]at hfew
 rw[hn1,hn2]
 clear hn hn1 hn2
 have hb0:Bwz w ((w.alloc (.cells #[.int .i64 lim,.slice m1 m2 m3,.slice ra n rc] 29)).alloc (.cells #[.int .i64 lim,.slice q1 q2 q3,.slice rb n rd] 29)):=by
  repeat (first|exact bR|(refine Below.alloc ?_ (by simp<;>omega) _))
 have k1:((w.alloc (.cells #[.int .i64 lim,.slice m1 m2 m3,.slice ra n rc] 29)).alloc (.cells #[.int .i64 lim,.slice q1 q2 q3,.slice rb n rd] 29)).cell? ⟨w.heap.size,2,none⟩=some (.slice ra n rc):=by go_simp
 have k2:((w.alloc (.cells #[.int .i64 lim,.slice m1 m2 m3,.slice ra n rc] 29)).alloc (.cells #[.int .i64 lim,.slice q1 q2 q3,.slice rb n rd] 29)).cell? ⟨w.heap.size+1,2,none⟩=some (.slice rb n rd):=by go_simp
 go_enter func38,ntmps38
 go_wp2_with fail
 refine(KM.out _ hb0).mono ?_
 rintro e w1 ⟨rfl,hb1⟩
 have c1:=cLz hb1 k1
 have c2:=cLz hb1 k2
 have lw1:w.heap.size<w1.heap.size:=bLt _ _ c1
 have lw2:w.heap.size+1<w1.heap.size:=bLt _ _ c2
 have hbw:Bwz w w1:=hb0.trans (hb1.mono hb0.size)
 clear k1 k2 hb0 hb1
 go_wp2
 go_loopw [5] (fun i wr=> ∃k:Nat,k<=n/\i= .int .i64 k/\Bwz w1 wr) (fun i _=>n - (intOf i).toNat)
 case atStart=>exact⟨0,Nat.zero_le _,rfl,bR⟩
 case round=>
  obtain⟨k,hk,rfl,hnx⟩:=hrel
  have d1:=cLz hnx c1
  have d2:=cLz hnx c2
  have hbr:=hbw.trans (hnx.mono hbw.size)
  have lr1:w.heap.size<wr.heap.size:=bLt _ _ d1
  have lr2:w.heap.size+1<wr.heap.size:=bLt _ _ d2
  by_cases hlt:k<n
  ·obtain⟨b1,o1,e1,x1⟩:=H1.out k (by rw[lMp,HN.out.1];exact hlt)
   obtain⟨b2,o2,e2,y1⟩:=H2.out k (by rw[lMp,HN.out.2];exact hlt)
   subst e1 e2
   have z1:=cLz hbr x1
   have u1:=cLz hbr y1
   have ee1:(rs.map (·.1)).getD k (none,0,0)=(rs.getD k default).1:=by rw[gDe,List.getElem?_map,gEe (by rw[HN.out.1];exact hlt),gDe,gEe (by rw[HN.out.1];exact hlt)];rfl
   have ee2:(rt.map (·.1)).getD k (none,0,0)=(rt.getD k default).1:=by rw[gDe,List.getElem?_map,gEe (by rw[HN.out.2];exact hlt),gDe,gEe (by rw[HN.out.2];exact hlt)];rfl
   rw[ee1]at z1
   rw[ee2]at u1
   have KK:Hid (∀w1,Bwz w w1->CTz 74 #[hdV (rs.getD k default).1,hdV (rt.getD k default).1] w1 fun e w'=>e= .returned (.bool true)/\Bwz w1 w'):=fun w1 hb=>KR.out k w1 hlt hb
   obtain⟨⟨⟨s1,s2,s3⟩,sl⟩,hz⟩:∃z,rs.getD k default=z:=⟨_,rfl⟩
   obtain⟨⟨⟨t1,t2,t3⟩,tl⟩,hz'⟩:∃z,rt.getD k default=z:=⟨_,rfl⟩
   rw[hz]at z1 KK
   rw[hz']at u1 KK
   unfold hdV at z1 u1 KK
   dsimp only at z1 u1 KK
   have i1:(0:Int)<=(k:Int):=by omega
   have i2:(k:Int)<(n:Int):=by omega
   clear hz hz' ee1 ee2 x1 y1
   go_wp2
   go_region_held3 (fun w'=>w'.cell? ⟨w.heap.size,2,none⟩=some (.slice (some ⟨b1,o1,none⟩) n rc)/\w'.cell? ⟨w.heap.size+1,2,none⟩=some (.slice (some ⟨b2,o2,none⟩) n rd)/\w'.cell? ⟨b1,o1+k,none⟩=some (.slice s1 s2 s3)/\w'.cell? ⟨b2,o2+k,none⟩=some (.slice t1 t2 t3)) (first|go_keep|exact⟨cLz hbq d1,cLz hbq d2,cLz hbq z1,cLz hbq u1⟩)
    (first|(go_at_call 74;refine(KK.out _ hbr.drew).mono ?_;rintro e wq ⟨rfl,hbq0⟩;have hbq:Bwz wr wq:=bR.drew.trans hbq0))
   all_goals
    go_wp2
    go_roundw
    case rel=>exact⟨k+1,by omega,by go_num,hnx.trans (hbq.mono hnx.size)⟩
    case measure=>simp[intOf];omega
  ·go_wp2
   go_ret
   exact⟨rfl,hbr⟩
end bf
namespace jn
open Go.ChangeShapes Go.WideShapes Go.ChangeAt Go.RowKit
open vl bf
attribute [local go_sem] Oper.semAt_some
theorem Ph(p:pl.Pln)(x:pl.PA)(w:World)(h0:pl.Al p=0):
 Calls Tryz.prog 11 #[pl.Ap p x] w fun e w'=>e= .returned (joinV (startJ p) jx0)/\Bwz w w':=by
 obtain⟨JV,hJV⟩:=nM (joinV (startJ p) jx0)
 have HJ:Hid (joinV (startJ p) jx0=JV):=hJV
 rw[hJV]
 clear hJV
 rw[Ff h0]at HJ
 clear h0
 unfold pl.Ap
 go_enter func11,ntmps11
 go_upto_region 1 with fail
 generalize hV:(World.alloc (World.alloc w _) _)=V
 have hb0:Bwz w V:=by rw[<-hV];exact(bR.alloc nR _).alloc (by simp) _
 have HB:Hid (Br V w.heap.size p x):=by
  subst hV
  exact Aj (CM ..) (bR.alloc nR _)
 have HZ:Hid (noJ V (w.heap.size+1)):=by
  subst hV
  have:=Ef (w.alloc (.cells #[.int .i64 p.kind,.int .i64 p.mode,.int .i64 p.low,.int .i64 p.high,.int .i64 p.size,.int .i64 p.limit,.slice x.l p.left.length x.lc,.slice x.r p.right.length x.rc,.slice x.lk p.lkeys.length x.lkc,.slice x.rk p.rkeys.length x.rkc,.bool p.grouped,.slice x.g p.group.length x.gc,.slice x.a p.aggs.length x.ac] 25))
  rw[World.size_alloc]at this
  exact this
 clear hV
 have v5:=HB.out.2.2.2.2.2.1
 go_upto_region 2 with fail
 generalize hV:(World.alloc V _)=V2
 have hb3:Bwz V V2:=by rw[<-hV];exact bR.alloc nR _
 have hbw3:Bwz w V2:=hb0.trans (hb3.mono hb0.size)
 have p0:V2.cell? ⟨V.heap.size,0,none⟩=some (.int .i64 p.limit):=by subst hV;go_simp
 have p1:V2.cell? ⟨V.heap.size,1,none⟩=some (.slice none 0 0):=by subst hV;go_simp
 have p2:V2.cell? ⟨V.heap.size,2,none⟩=some (.slice none 0 0):=by subst hV;go_simp
 replace HZ:Hid (noJ V2 (w.heap.size+1)):=AV HZ.out hb3
 clear hV v5 HB hb3
 have HR:Hid ((World.setCells V2 (w.heap.size+1) 0 [.int .i64 p.limit,.slice none 0 0,.slice none 0 0,.int .i64 p.limit,.slice none 0 0,.slice none 0 0,.int .i64 (-1099511627777),.int .i64 (-1099511627777),.int .i64 0]).rangeAt (w.heap.size+1) 0 [.int .i64 p.limit,.slice none 0 0,.slice none 0 0,.int .i64 p.limit,.slice none 0 0,.slice none 0 0,.int .i64 (-1099511627777),.int .i64 (-1099511627777),.int .i64 0]):=C0 HZ.out rfl
 have HB9:Hid (Bwz w (World.setCells V2 (w.heap.size+1) 0 [.int .i64 p.limit,.slice none 0 0,.slice none 0 0,.int .i64 p.limit,.slice none 0 0,.slice none 0 0,.int .i64 (-1099511627777),.int .i64 (-1099511627777),.int .i64 0])):=below_setCells (Nat.le_succ w.heap.size) _ 0 _ hbw3
 go_wp2_with ((with_reducible refine wpList_store_mid ?_ 31 (.tmp 2) (.tmp 9) ?_ (w.heap.size+1) 0 #[.int .i64 p.limit,.slice none 0 0,.slice none 0 0,.int .i64 p.limit,.slice none 0 0,.slice none 0 0,.int .i64 (-1099511627777),.int .i64 (-1099511627777),.int .i64 0] ?_ ?_ ?_ ?_ ?_ ?_);exact rfl;exact rfl;exact rfl;exact rfl;exact HZ.out;exact E4;exact(by simp[Value.oneCell']))
 generalize (World.setCells V2 (w.heap.size+1) 0 [.int .i64 p.limit,.slice none 0 0,.slice none 0 0,.int .i64 p.limit,.slice none 0 0,.slice none 0 0,.int .i64 (-1099511627777),.int .i64 (-1099511627777),.int .i64 0])=W' at HR HB9⊢
 have y0:=HR.out 0 _ rfl
 have y1:=HR.out 1 _ rfl
 have y2:=HR.out 2 _ rfl
 have y3:=HR.out 3 _ rfl
 have y4:=HR.out 4 _ rfl
 have y5:=HR.out 5 _ rfl
 have y6:=HR.out 6 _ rfl
 have y7:=HR.out 7 _ rfl
 have y8:=HR.out 8 _ rfl
 simp only[Nat.zero_add]at y0 y1 y2 y3 y4 y5 y6 y7 y8
 exact bodyPost_ret (v:=.agg #[.int .i64 p.limit,.slice none 0 0,.slice none 0 0,.int .i64 p.limit,.slice none 0 0,.slice none 0 0,.int .i64 (-1099511627777),.int .i64 (-1099511627777),.int .i64 0]) (by simp[results,results11,go_sem,y0,y1,y2,y3,y4,y5,y6,y7,y8]) rfl ⟨by rw[<-HJ.out];rfl,HB9.out⟩
def Yl(s:Jn):Prop:=((∀l∈partsB s.L,l.length<=9223372036854775807)/\∀y∈Ab s.L,y.row.length<=9223372036854775807)/\((∀l∈partsB s.R,l.length<=9223372036854775807)/\∀y∈Ab s.R,y.row.length<=9223372036854775807)
theorem VH(s:Jn)(y z:JX)(w:World)(h:joinAt w s y)(h':joinAt w s z)(hf:Yl s):
 Calls Tryz.prog 13 #[joinV s y,joinV s z] w fun e w'=>e= .returned (.bool true)/\Bwz w w':=by
 have KL:Hid (∀w1,Bwz w w1->CTz 38 #[.agg #[.int .i64 s.L.lim,.slice y.l.m.1.1 y.l.m.1.2.1 y.l.m.1.2.2,.slice y.l.ra y.l.rs.length y.l.rc],.agg #[.int .i64 s.L.lim,.slice z.l.m.1.1 z.l.m.1.2.1 z.l.m.1.2.2,.slice z.l.ra z.l.rs.length z.l.rc]] w1 fun e w'=>e= .returned (.bool true)/\Bwz w1 w'):=fun w1 hb=>Pg s.L y.l z.l w1 (Ai h.l hb) (Ai h'.l hb) hf.1.1 hf.1.2
 have KR:Hid (∀w1,Bwz w w1->CTz 38 #[.agg #[.int .i64 s.R.lim,.slice y.r.m.1.1 y.r.m.1.2.1 y.r.m.1.2.2,.slice y.r.ra y.r.rs.length y.r.rc],.agg #[.int .i64 s.R.lim,.slice z.r.m.1.1 z.r.m.1.2.1 z.r.m.1.2.2,.slice z.r.ra z.r.rs.length z.r.rc]] w1 fun e w'=>e= .returned (.bool true)/\Bwz w1 w'):=fun w1 hb=>Pg s.R y.r z.r w1 (Ai h.r hb) (Ai h'.r hb) hf.2.1 hf.2.2
 rw[A6,A6]
 clear h h' hf
 go_enter func13,ntmps13
 go_upto_region 1 with fail
 generalize hV:(World.alloc (World.alloc w _) _)=V
 have hb0:Bwz w V:=by rw[<-hV];exact(bR.alloc nR _).alloc (by simp) _
 have HY:Hid (AU V w.heap.size s y):=by
  subst hV
  exact Ag (Bo ..) (bR.alloc nR _)
 have HZ:Hid (AU V (w.heap.size+1) s z):=by
  subst hV
  have:=Bo (w.alloc (.cells #[.int .i64 s.L.lim,.slice y.l.m.1.1 y.l.m.1.2.1 y.l.m.1.2.2,.slice y.l.ra y.l.rs.length y.l.rc,.int .i64 s.R.lim,.slice y.r.m.1.1 y.r.m.1.2.1 y.r.m.1.2.2,.slice y.r.ra y.r.rs.length y.r.rc,.int .i64 s.lm,.int .i64 s.rm,.int .i64 s.seq] 31)) s z 31
  rw[World.size_alloc]at this
  exact this
 clear hV
 obtain⟨u0,u1,u2,u3,u4,u5,u6,u7,u8⟩:=HY.out
 obtain⟨v0,v1,v2,v3,v4,v5,v6,v7,v8⟩:=HZ.out
 go_wp2_with fail
 refine(KL.out _ hb0).mono ?_
 rintro e w1 ⟨rfl,hb1⟩
 have hbw:Bwz w w1:=hb0.trans (hb1.mono hb0.size)
 clear u0 u1 u2 u3 u4 u5 u6 u7 u8 v0 v1 v2 v3 v4 v5 v6 v7 v8
 obtain⟨u0,u1,u2,u3,u4,u5,u6,u7,u8⟩:=Ag HY.out hb1
 obtain⟨v0,v1,v2,v3,v4,v5,v6,v7,v8⟩:=Ag HZ.out hb1
 go_wp2_with fail
 refine(KR.out _ hbw).mono ?_
 rintro e w2 ⟨rfl,hb2⟩
 have hbw2:Bwz w w2:=hbw.trans (hb2.mono hbw.size)
 have hb12:Bwz V w2:=hb1.trans (hb2.mono hb1.size)
 clear u0 u1 u2 u3 u4 u5 u6 u7 u8 v0 v1 v2 v3 v4 v5 v6 v7 v8
 obtain⟨_,_,_,_,_,_,u6,u7,u8⟩:=Ag HY.out hb12
 obtain⟨_,_,_,_,_,_,v6,v7,v8⟩:=Ag HZ.out hb12
 go_wp2
 go_ret
 exact⟨by simp,hbw2⟩
end jn
namespace jn
open Go.ChangeShapes Go.WideShapes Go.ChangeAt Go.RowKit
open vl bf
def QJ(w:World)(a:Option Addr)(l:List Ent):Prop:=
 ∀i,i<l.length->∃b off ra rc,a=some ⟨b,off,none⟩/\w.cell? ⟨b,off+i * 5,none⟩=some (.string (l.getD i default).key)/\w.cell? ⟨b,off+i * 5+1,none⟩=some (.int .i64 (l.getD i default).time)/\
  w.cell? ⟨b,off+i * 5+1+1,none⟩=some (.int .i64 (l.getD i default).seq)/\w.cell? ⟨b,off+i * 5+1+1+1,none⟩=some (.slice ra (l.getD i default).row.length rc)/\w.cell? ⟨b,off+i * 5+1+1+1+1,none⟩=some (.bool (l.getD i default).met)/\vl.rowAt w ra (l.getD i default).row
theorem OE.entsAt{w:World}{base:Nat}{hh:Hdr}{es:List EM}{l:List Ent}(h:OE w base (hdV hh) es l):hh.2.1=l.length/\QJ w hh.1 l/\l.length<=9223372036854775807:=by
 obtain⟨⟨e1,e2⟩,e3⟩:=Cv (p:=(hh,es)) h
 dsimp only at e1 e2 e3
 have hl:=h.len
 refine⟨e1.trans hl,fun i hi=>?_,by omega⟩
 obtain⟨b,o,e,x1,x2,x3,x4,x5⟩:=e3 i (by omega)
 have hr:=h.ers.2 i hi
 rw[hr.key]at x1
 rw[hr.time]at x2
 rw[hr.seq]at x3
 rw[hr.met]at x5
 unfold hdV at x4
 rw[hr.len]at x4
 exact⟨b,o,_,_,e,x1,x2,x3,x4,x5,hr.row⟩
end jn
end Go.Proofs.YtdohnkkbkfhphaaGreat
