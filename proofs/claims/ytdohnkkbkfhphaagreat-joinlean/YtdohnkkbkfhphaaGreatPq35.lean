import Derived.Test.YtdohnkkbkfhphaaGreatPq34
set_option linter.all false
set_option maxHeartbeats 8000000
set_option maxRecDepth 100000
namespace Go.Proofs.YtdohnkkbkfhphaaGreat
open Go.Proofs.Tryz
namespace jn
open Go.RowKit
open vl bf
variable {p : pl.Pln} {s : Jn} {v : Ev} {K : ByteArray}
def rw2(a b:Int):List Cel:=[⟨2,a,⟨#[]⟩⟩,⟨2,b,⟨#[]⟩⟩]
theorem Dv{a b:Int}(ha: -9223372036854775808<=a/\a<=9223372036854775807)(hb: -9223372036854775808<=b/\b<=9223372036854775807):Co (rw2 a b):=by
 intro c hc
 simp only[rw2,List.mem_cons,List.not_mem_nil,or_false]at hc
 rcases hc with rfl|rfl
 ·exact⟨ha,Nat.zero_le _⟩
 ·exact⟨hb,Nat.zero_le _⟩
def ev1:Ev:=⟨1,1,1,rw2 7 1⟩
def ev2:Ev:=⟨1,2,2,rw2 7 2⟩
def ev3:Ev:=⟨2,1,4,[]⟩
def ev4:Ev:=⟨1,1,4,rw2 7 3⟩
def ev5:Ev:=⟨1,1,5,rw2 7 4⟩
def Gv:List Ev:=[ev1,ev2,ev3,ev4,ev5]
structure begP(p:pl.Pln)(K:ByteArray):Prop where
 err:pl.Ai p=0
 kind:p.kind=1
 mode:p.mode=4
 low:p.low= -5
 high:p.high=5
 limit:p.limit=2
 l:(pl.A1 p 1).length=2
 r:(pl.A1 p 2).length=2
 e1:pl.AV p 1 (rw2 7 1)=0
 e2:pl.AV p 2 (rw2 7 2)=0
 e3:pl.AV p 1 (rw2 7 3)=0
 e4:pl.AV p 1 (rw2 7 4)=0
 h1:pl.hasB p 1 (rw2 7 1)=true
 h2:pl.hasB p 2 (rw2 7 2)=true
 h4:pl.hasB p 1 (rw2 7 4)=true
 k1:pl.Am p 1 (rw2 7 1)=K
 k2:pl.Am p 2 (rw2 7 2)=K
 k4:pl.Am p 1 (rw2 7 4)=K
 gone:pl.F6 p 2 4= -1
theorem OX:begP pl.CL (pl.Am pl.CL 1 (rw2 7 1)):=⟨pl.OT,rfl,rfl,rfl,rfl,rfl,rfl,rfl,by kernel_rfl,by kernel_rfl,by kernel_rfl,by kernel_rfl,by kernel_rfl,by kernel_rfl,by kernel_rfl,rfl,by kernel_rfl,by kernel_rfl,by kernel_rfl⟩
theorem Nz{n:Int}(h:1<=n/\n<=64):okB ⟨n,[],[]⟩:=⟨h,by simp;omega,by simp[Ab,partsB],by simp[partsB],by simp[partsB],by simp,by simp[Ab,partsB]⟩
theorem good_start(h:pl.Ai p=0):goodJ p (startJ p):=by
 have hl:=(pl.BG h).2.1.2.2
 have e0:Ab ⟨p.limit,[],[]⟩=[]:=by simp[Ab,partsB]
 rw[Dt h]
 refine⟨⟨Nz hl,Nz hl,by simp[Cb],by simp[Cb],by simp,rfl,rfl,?_,?_,?_,?_⟩,?_⟩
 ·intro y hy;rw[e0]at hy;cases hy
 ·rw[e0];exact List.nodup_nil
 ·intro y hy;rw[e0]at hy;cases hy
 ·intro y hy;rw[e0]at hy;cases hy
 ·intro y hy;rw[e0]at hy;cases hy
theorem DX(hp:pl.Ai p=0)(h:goodJ p s)(v:Ev):stepJ p s v=if Az p s v≠0 then(Az p s v,j0,[])else if v.kind=2 then(0,Av p (AY s v.side v.time),[])else(0,E6 p s v):=by
 have e:B7 p s=0:=h.ok.none hp
 unfold stepJ
 rw[if_neg (by rw[e];exact fun k=>k rfl)]
def St1(K:ByteArray):Jn:=⟨⟨2,[⟨K,1,0,rw2 7 1,false⟩],[]⟩,⟨2,[],[]⟩,noMark,noMark,1⟩
def St2(K:ByteArray):Jn:=⟨⟨2,[⟨K,1,0,rw2 7 1,true⟩],[]⟩,⟨2,[⟨K,2,1,rw2 7 2,true⟩],[]⟩,noMark,noMark,2⟩
def St3(K:ByteArray):Jn:=⟨⟨2,[⟨K,1,0,rw2 7 1,true⟩],[]⟩,⟨2,[⟨K,2,1,rw2 7 2,true⟩],[]⟩,4,noMark,2⟩
def ch1:ch.Chg:=⟨1,rw2 7 1++bt.Cs 2⟩
def ch2:ch.Chg:=⟨3,rw2 7 1++bt.Cs 2⟩
def ch3:ch.Chg:=⟨4,rw2 7 1++rw2 7 2⟩
def ch4:ch.Chg:=⟨1,rw2 7 4++rw2 7 2⟩
theorem Rq:C6 []=[]:=by simp[C6]
theorem JG(y:Ent):C6 [y]=[y]:=by simp[C6]
theorem Gw{side:Int}(h:markOf s (3 - side)=noMark):Ay p s side=noMark:=if_pos h
theorem N0(met:Bool)(h1:pl.hasB p v.side v.row=true)(h2:Ay p s v.side<v.time):Cm p s v met=⟨(Au s v.side (C7 (Ae s v.side) ⟨pl.Am p v.side v.row,v.time,s.seq,v.row,met⟩)).L,(Au s v.side (C7 (Ae s v.side) ⟨pl.Am p v.side v.row,v.time,s.seq,v.row,met⟩)).R,(Au s v.side (C7 (Ae s v.side) ⟨pl.Am p v.side v.row,v.time,s.seq,v.row,met⟩)).lm,(Au s v.side (C7 (Ae s v.side) ⟨pl.Am p v.side v.row,v.time,s.seq,v.row,met⟩)).rm,(Au s v.side (C7 (Ae s v.side) ⟨pl.Am p v.side v.row,v.time,s.seq,v.row,met⟩)).seq+1⟩:=by
 unfold Cm
 rw[if_pos ⟨h1,h2⟩]
def St0:Jn:=⟨⟨2,[],[]⟩,⟨2,[],[]⟩,noMark,noMark,0⟩
theorem Hn(y:Ent):C7 ⟨2,[],[]⟩ y=⟨2,[y],[]⟩:=by
 unfold C7
 rw[show C6 (([]:List Ent)++[y])=[y]from JG y]
 rfl
theorem N2(hk:p.kind=1):E6 p s v=(Cm p (B6 p s v) v (!(partners p s v).isEmpty),BZ p s v):=by
 unfold E6
 rw[if_neg (by rw[hk];decide)]
theorem JH(side:Int):BW 4 side=true:=rfl
theorem Wu(h:begP p K):stepJ p (startJ p) ev1=(0,St1 K,[ch1]):=by
 rw[DX h.err (good_start h.err),Dt h.err,h.limit]
 show(if Az p St0 ev1≠0 then(Az p St0 ev1,j0,[])else if ev1.kind=2 then(0,Av p (AY St0 ev1.side ev1.time),[])else(0,E6 p St0 ev1))=_
 have e:Az p St0 ev1=0:=by
  simp[Az,ev1,pl.A0,tm.AP,h.e1,markOf,noMark,Ae,Ab,partsB,St0]
 have e1:partners p St0 ev1=[]:=by
  simp[partners,ev1,h.h1,Cu,Ae,Ab,partsB,Rq,St0]
 have e2:B6 p St0 ev1=St0:=by
  unfold B6
  rw[e1]
  rfl
 rw[if_neg (by rw[e];exact fun k=>k rfl),if_neg (by decide),N2 h.kind,e2,e1,N0 _ h.h1 (by rw[Gw rfl];decide)]
 unfold BZ
 rw[e1,h.mode]
 show(0,_,_)=_
 have e3:pl.Am p ev1.side ev1.row=K:=h.k1
 rw[e3]
 simp only[ev1,Ae,Au,St0,Hn,JH,AH,AO]
 simp[St1,ch1,h.r,Hn]
theorem VL(h:begP p K):goodJ p (St1 K):=by
 have:=good_step (p:=p) (s:=startJ p) (v:=ev1) (good_start h.err).wf ⟨Dv (by decide) (by decide),by decide⟩ (by rw[Wu h])
 rw[Wu h]at this
 exact this
theorem Wv(h:begP p K):stepJ p (St1 K) ev2=(0,St2 K,[ch2,ch3]):=by
 rw[DX h.err (VL h)]
 have e:Az p (St1 K) ev2=0:=by
  simp[Az,ev2,pl.A0,tm.AP,h.e2,markOf,noMark,Ae,Ab,partsB,St1]
 have e1:partners p (St1 K) ev2=[⟨K,1,0,rw2 7 1,false⟩]:=by
  simp[partners,ev2,h.h2,Cu,Ae,Ab,partsB,JG,St1,h.k2,Dg,toJ,h.kind,h.low,h.high]
 have e2:B6 p (St1 K) ev2=⟨⟨2,[⟨K,1,0,rw2 7 1,true⟩],[]⟩,⟨2,[],[]⟩,noMark,noMark,1⟩:=by
  unfold B6
  rw[e1]
  rfl
 rw[if_neg (by rw[e];exact fun k=>k rfl),if_neg (by decide),N2 h.kind,e2,e1,N0 _ h.h2 (by rw[Gw rfl];decide)]
 unfold BZ
 rw[e1,h.mode]
 have e3:pl.Am p ev2.side ev2.row=K:=h.k2
 rw[e3]
 simp only[ev2,Ae,Au,Hn,JH,AH,AO]
 simp[St2,ch2,ch3,h.r,Hn]
theorem VN(h:begP p K):goodJ p (St2 K):=by
 have:=good_step (p:=p) (s:=St1 K) (v:=ev2) (VL h).wf ⟨Dv (by decide) (by decide),by decide⟩ (by rw[Wv h])
 rw[Wv h]at this
 exact this
theorem Ww(h:begP p K):stepJ p (St2 K) ev3=(0,St3 K,[]):=by
 rw[DX h.err (VN h)]
 have e:Az p (St2 K) ev3=0:=by
  simp[Az,ev3,pl.A0,tm.AP,markOf,noMark,St2]
 rw[if_neg (by rw[e];exact fun k=>k rfl),if_pos (show ev3.kind=2 from rfl)]
 have e1:Ay p (St3 K) 1=noMark:=Gw rfl
 have e2:Ay p (St3 K) 2= -1:=by
  unfold Ay
  rw[if_neg (show markOf (St3 K) (3 - 2)≠noMark from show(4:Int)≠noMark by decide)]
  exact h.gone
 have e3:AY (St2 K) ev3.side ev3.time=St3 K:=rfl
 rw[e3]
 simp only[Av,h.kind,C8,e1,e2]
 simp[St3,BU,Ci,noMark,CZ]
theorem Tu(h:begP p K):goodJ p (St3 K):=by
 have:=good_step (p:=p) (s:=St2 K) (v:=ev3) (VN h).wf ⟨fun c hc=>(by cases hc),by decide⟩ (by rw[Ww h])
 rw[Ww h]at this
 exact this
theorem beg4(h:begP p K):stepJ p (St3 K) ev4=(7,j0,[]):=by
 rw[DX h.err (Tu h)]
 have e:Az p (St3 K) ev4=7:=by
  simp[Az,ev4,pl.A0,tm.AP,h.e3,markOf,noMark,St3]
 rw[if_pos (by rw[e];decide),e]
theorem beg5(h:begP p K):∃s,stepJ p (St3 K) ev5=(0,s,[ch4])/\s.lm=4/\s.rm=noMark/\s.seq=3/\goodJ p s:=by
 have e:Az p (St3 K) ev5=0:=by
  simp[Az,ev5,pl.A0,tm.AP,h.e4,markOf,noMark,Ae,Ab,partsB,St3]
 have e1:partners p (St3 K) ev5=[⟨K,2,1,rw2 7 2,true⟩]:=by
  simp[partners,ev5,h.h4,Cu,Ae,Ab,partsB,JG,St3,h.k4,Dg,toJ,h.kind,h.low,h.high]
 have e2:stepJ p (St3 K) ev5=(0,E6 p (St3 K) ev5):=by
  rw[DX h.err (Tu h),if_neg (by rw[e];exact fun k=>k rfl),if_neg (by decide)]
 have e3:(E6 p (St3 K) ev5).2=[ch4]:=by
  simp only[E6,h.kind,BZ,e1]
  simp[ev5,BW,h.mode,AO,ch4]
 have e4:(E6 p (St3 K) ev5).1=Cm p (B6 p (St3 K) ev5) ev5 true:=by
  simp only[E6,h.kind,e1]
  simp
 have g:=good_step (p:=p) (s:=St3 K) (v:=ev5) (Tu h).wf ⟨Dv (by decide) (by decide),by decide⟩ (by rw[e2])
 refine⟨(E6 p (St3 K) ev5).1,?_,?_,?_,?_,?_⟩
 ·rw[e2,<-e3]
 ·rw[e4];unfold Cm;dsimp only;split<;>simp[Au,B6,ev5,St3]
 ·rw[e4];unfold Cm;dsimp only;split<;>simp[Au,B6,ev5,St3]
 ·rw[e4];unfold Cm;dsimp only;split<;>simp[Au,B6,ev5,St3]
 ·rw[e2]at g;exact g
theorem Tv(h:begP p K):∃s,Cw p Gv=(0,s,[ch1,ch2,ch3,ch4],[3])/\s.lm=4/\s.rm=noMark/\s.seq=3:=by
 obtain⟨s,e5,h1,h2,h3,h4⟩:=beg5 h
 refine⟨s,?_,h1,h2,h3⟩
 unfold Cw
 rw[if_neg (by rw[h.err];exact fun k=>k rfl)]
 unfold D9
 rw[if_neg (by decide)]
 simp only[Gv,playJ,Wu h,Wv h,Ww h,beg4 h,e5]
 simp
def CT:List ch.Chg:=[ch1,ch2,ch3,ch4]
theorem OY:ch.AL CT=0:=by kernel_rfl
theorem WU:ch.Gh (ch.AB []) CT 0=0:=by kernel_rfl
theorem WV:ch.Gh (ch.AB []) CT 1=0:=by kernel_rfl
theorem WW:ch.Gh (ch.AB []) CT 2=0:=by kernel_rfl
theorem WX:ch.Gh (ch.AB []) CT 3=0:=by kernel_rfl
theorem OZ:∀i,i<4->ch.Gh (ch.AB []) CT i=0:=by
 intro i hi
 match i,hi with
 |0,_=>exact WU
 |1,_=>exact WV
 |2,_=>exact WW
 |3,_=>exact WX
theorem Tw:(ch.atK (ch.AB []) CT 4).length=2:=by kernel_rfl
end jn
namespace jn
open Go.ChangeShapes Go.WideShapes Go.ChangeAt Go.RowKit
open vl bf
variable {w : World}
theorem TG.chgs{base:Nat}{v:Value}{L:List CO}(h:TG w base v L):v= .slice (Kv v) L.length (N6 v)/\ch.Df w (Kv v) (L.map CO.chg):=by
 have ho:=h.own
 refine⟨Gx ho,fun i hi=>?_⟩
 have hi2:i<L.length:=by simpa using hi
 rcases ho.2 with⟨hv,h0⟩|⟨g,c,cur,hv,_⟩
 ·omega
 ·have hc:=World.ownsRow.cells ho (g:=g) (by rw[hv];rfl)
  obtain⟨f1,f2⟩:=ch.MD (L.map CO.pair) i (by simpa using hi2)
  obtain⟨e1,e2⟩:=L1 L i hi2
  rw[e1]at f1 f2
  have c1:=hc _ _ f1
  have c2:=hc _ _ f2
  rw[ch.C9,Nat.zero_add]at c1 c2
  obtain⟨bs,hr⟩:=h.rows (L.getD i default) (by rw[gDe,gEe hi2];exact List.getElem_mem hi2)
  have er:=Gx hr
  rw[er]at hr c2
  refine⟨g,0,Kv (L.getD i default).rv,N6 (L.getD i default).rv,by rw[hv];rfl,?_,?_,?_⟩
  ·rw[e2,Nat.zero_add];exact c1
  ·rw[e2,Nat.zero_add];exact c2
  ·rw[e2];exact vl.Fu hr
theorem evs5{b:Nat}{r1 r2 r3 r4:Option Addr}(c0:w.cell? ⟨b,0,none⟩=some (.int .i64 1))(c1:w.cell? ⟨b,1,none⟩=some (.int .i64 1))(c2:w.cell? ⟨b,2,none⟩=some (.int .i64 1))(c3:w.cell? ⟨b,3,none⟩=some (.slice r1 2 2))
 (c4:w.cell? ⟨b,4,none⟩=some (.int .i64 1)) (c5:w.cell? ⟨b,5,none⟩=some (.int .i64 2)) (c6:w.cell? ⟨b,6,none⟩=some (.int .i64 2)) (c7:w.cell? ⟨b,7,none⟩=some (.slice r2 2 2))
 (c8:w.cell? ⟨b,8,none⟩=some (.int .i64 2)) (c9:w.cell? ⟨b,9,none⟩=some (.int .i64 1)) (c10:w.cell? ⟨b,10,none⟩=some (.int .i64 4)) (c11:w.cell? ⟨b,11,none⟩=some (.slice none 0 0))
 (c12:w.cell? ⟨b,12,none⟩=some (.int .i64 1)) (c13:w.cell? ⟨b,13,none⟩=some (.int .i64 1)) (c14:w.cell? ⟨b,14,none⟩=some (.int .i64 4)) (c15:w.cell? ⟨b,15,none⟩=some (.slice r3 2 2))
 (c16:w.cell? ⟨b,16,none⟩=some (.int .i64 1)) (c17:w.cell? ⟨b,17,none⟩=some (.int .i64 1)) (c18:w.cell? ⟨b,18,none⟩=some (.int .i64 5)) (c19:w.cell? ⟨b,19,none⟩=some (.slice r4 2 2))
 (h1:vl.rowAt w r1 (rw2 7 1)) (h2:vl.rowAt w r2 (rw2 7 2)) (h3:vl.rowAt w r3 (rw2 7 3)) (h4:vl.rowAt w r4 (rw2 7 4)):DH w (some ⟨b,0,none⟩) Gv [(r1,2),(r2,2),(none,0),(r3,2),(r4,2)]:=by
 intro i hi
 match i,hi with
 |0,_=>exact⟨b,0,rfl,c0,c1,c2,c3,h1,Dv (by decide) (by decide),by decide⟩
 |1,_=>exact⟨b,0,rfl,c4,c5,c6,c7,h2,Dv (by decide) (by decide),by decide⟩
 |2,_=>exact⟨b,0,rfl,c8,c9,c10,c11,fun i hi=>absurd hi (Nat.not_lt_zero i),fun c hc=>absurd hc List.not_mem_nil,by decide⟩
 |3,_=>exact⟨b,0,rfl,c12,c13,c14,c15,h3,Dv (by decide) (by decide),by decide⟩
 |4,_=>exact⟨b,0,rfl,c16,c17,c18,c19,h4,Dv (by decide) (by decide),by decide⟩
theorem Rr(w:World):Calls Tryz.prog 36 #[] w fun e w'=>(∃b xs,e= .returned (.slice (some ⟨b,0,none⟩) 5 5)/\DH w' (some ⟨b,0,none⟩) Gv xs)/\Bwz w w':=by
 go_enter func36,ntmps36
 go_wp2_with fail
 refine(pl.Fb _ _ _).mono ?_
 rintro e w1 ⟨⟨r1,rfl,hr1⟩,hb1⟩
 have HR1:Hid (vl.rowAt w1 r1 (rw2 7 1)):=hr1
 clear hr1
 go_wp2_with fail
 refine(pl.Fb _ _ _).mono ?_
 rintro e w2 ⟨⟨r2,rfl,hr2⟩,hb2⟩
 have HR2:Hid (vl.rowAt w2 r2 (rw2 7 2)):=hr2
 clear hr2
 go_wp2_with fail
 refine(pl.Fb _ _ _).mono ?_
 rintro e w3 ⟨⟨r3,rfl,hr3⟩,hb3⟩
 have HR3:Hid (vl.rowAt w3 r3 (rw2 7 3)):=hr3
 clear hr3
 go_wp2_with fail
 refine(pl.Fb _ _ _).mono ?_
 rintro e w4 ⟨⟨r4,rfl,hr4⟩,hb4⟩
 have HR4:Hid (vl.rowAt w4 r4 (rw2 7 4)):=hr4
 clear hr4
 have b24:Bwz w2 w4:=hb3.trans (hb4.mono hb3.size)
 have b14:Bwz w1 w4:=hb2.trans (b24.mono hb2.size)
 have b04:Bwz w w4:=hb1.trans (b14.mono hb1.size)
 go_wp2
 generalize hV:(World.alloc w4 _)=W
 have hbW:Bwz w4 W:=by rw[<-hV];exact bR.alloc nR _
 have HE:Hid (DH W (some ⟨w4.heap.size,0,none⟩) Gv [(r1,2),(r2,2),(none,0),(r3,2),(r4,2)]):=evs5 (by subst hV;go_simp) (by subst hV;go_simp) (by subst hV;go_simp) (by subst hV;go_simp) (by subst hV;go_simp) (by subst hV;go_simp) (by subst hV;go_simp) (by subst hV;go_simp) (by subst hV;go_simp) (by subst hV;go_simp) (by subst hV;go_simp) (by subst hV;go_simp) (by subst hV;go_simp) (by subst hV;go_simp) (by subst hV;go_simp) (by subst hV;go_simp) (by subst hV;go_simp) (by subst hV;go_simp) (by subst hV;go_simp) (by subst hV;go_simp)
  (vl.Ac HR1.out (b14.trans (hbW.mono b14.size))) (vl.Ac HR2.out (b24.trans (hbW.mono b24.size))) (vl.Ac HR3.out (hb4.trans (hbW.mono hb4.size))) (vl.Ac HR4.out hbW)
 clear hV
 go_ret
 exact⟨⟨_,_,rfl,HE.out⟩,b04.trans (hbW.mono b04.size)⟩
theorem Pa(x:pl.PA)(b:Nat)(xs:List RX)(w:World)(hp:pl.planAt w pl.CL x)(hv:DH w (some ⟨b,0,none⟩) Gv xs):Calls Tryz.prog 19 #[pl.As pl.CL x,.slice (some ⟨b,0,none⟩) 5 5] w fun e w'=>(∃s y ta tc nb nc,e= .returned (.tuple #[joinV s y,.slice ta 4 tc,.slice (some ⟨nb,0,none⟩) 1 nc,.int .i64 0])/\s.lm=4/\s.seq=3/\ch.Df w' ta CT/\w'.cell? ⟨nb,0,none⟩=some (.int .i64 3))/\Bwz w w':=by
 refine(Ny pl.CL x Gv xs _ 5 w pl.Rn hp hv (by decide)).mono ?_
 rintro e w' ⟨⟨y,t,L,nv,rfl,hl,hj,ht,hn⟩,hb⟩
 obtain⟨s,es,h1,h2,h3⟩:=Tv OX
 rw[es]at hl hj hn⊢
 dsimp only at hl hj hn⊢
 refine⟨?_,hb⟩
 obtain⟨e1,e2⟩:=ht.chgs
 have e3:L.length=4:=by
  have:=congrArg List.length hl
  simpa using this
 rw[hl]at e2
 rw[e3]at e1
 rcases hn.2 with⟨hv,h0⟩|⟨g,c,cur,hv,_⟩
 ·exact absurd h0 (by simp)
 ·have hc:=World.ownsRow.cells hn (g:=g) (by rw[hv];rfl)
  have c0:=hc 0 (.int .i64 3) rfl
  rw[e1,hv]
  exact⟨s,y,Kv t,N6 t,g,c,rfl,h1,h3,e2,c0⟩
theorem Qg(n:Nat):Co (bt.Cs n):=fun c hc=>by
 rw[List.eq_of_mem_replicate hc]
 exact⟨by decide,by decide⟩
theorem Mj{a b:List Cel}(ha:Co a)(hb:Co b):Co (a++b):=fun c hc=>(List.mem_append.1 hc).elim (ha c) (hb c)
theorem Rs:ch.Gn CT:=by
 intro c hc
 simp only[CT,List.mem_cons,List.not_mem_nil,or_false]at hc
 rcases hc with rfl|rfl|rfl|rfl
 ·exact⟨Mj (Dv (by decide) (by decide)) (Qg 2),by decide,by decide⟩
 ·exact⟨Mj (Dv (by decide) (by decide)) (Qg 2),by decide,by decide⟩
 ·exact⟨Mj (Dv (by decide) (by decide)) (Dv (by decide) (by decide)),by decide,by decide⟩
 ·exact⟨Mj (Dv (by decide) (by decide)) (Dv (by decide) (by decide)),by decide,by decide⟩
theorem Pb(ta:Option Addr)(tc:Nat)(w:World)(h:ch.Df w ta CT):Calls Tryz.prog 37 #[.slice none 0 0,.slice ta 4 tc] w fun e w'=>(∃ad cap,e= .returned (.tuple #[.slice ad 2 cap,.int .i64 0,.int .i64 0]))/\Bwz w w':=by
 refine(ch.Sn none ta 0 tc [] CT w (fun i hi=>absurd hi (Nat.not_lt_zero i)) (fun c hc=>absurd hc List.not_mem_nil) (by decide) h Rs (by decide)).mono ?_
 rintro e w' ⟨hr,hb⟩
 refine⟨?_,hb⟩
 have hv:ch.AZ []=0:=by kernel_rfl
 rcases hr with⟨h1,_⟩|⟨_,h1,_⟩|⟨_,_,k,h1,_,h2,_⟩|⟨_,_,_,out,ad,cap,e1,_,_,e2,_⟩
 ·exact absurd hv h1
 ·exact absurd OY h1
 ·exact absurd (OZ k h1) h2
 ·have:=congrArg List.length e1
  rw[show CT.length=4 from rfl,Tw]at this
  have:out.length=2:=by simpa[ch.AB]using this
  rw[this]at e2
  exact⟨ad,cap,e2⟩
theorem Lv(w:World):Calls Tryz.prog 12 #[] w fun e w'=>e= .returned (.bool true)/\Bwz w w':=by
 go_enter func12,ntmps12
 go_wp2_with fail
 refine(pl.OU _).mono ?_
 rintro e w1 ⟨⟨x,rfl,hp,_⟩,hb1⟩
 have HP:Hid (pl.planAt w1 pl.CL x):=hp
 obtain⟨pv,hpv⟩:=nM (pl.As pl.CL x)
 have HV:Hid (pl.As pl.CL x=pv):=hpv
 rw[hpv]
 clear hp hpv
 go_wp2_with fail
 refine(Rr _).mono ?_
 rintro e w2 ⟨⟨b,xs,rfl,hv⟩,hb2⟩
 have KP:Hid (Calls Tryz.prog 19 #[pv,.slice (some ⟨b,0,none⟩) 5 5] w2 fun e w'=>(∃s y ta tc nb nc,e= .returned (.tuple #[joinV s y,.slice ta 4 tc,.slice (some ⟨nb,0,none⟩) 1 nc,.int .i64 0])/\s.lm=4/\s.seq=3/\ch.Df w' ta CT/\w'.cell? ⟨nb,0,none⟩=some (.int .i64 3))/\Bwz w2 w'):=by
  have:=Pa x b xs w2 (pl.Ah HP.out hb2) hv
  rw[HV.out]at this
  exact this
 have b2:Bwz w w2:=hb1.trans (hb2.mono hb1.size)
 clear hv HP HV hb1 hb2
 go_wp2_with fail
 refine KP.out.mono ?_
 rintro e w3 ⟨⟨s,y,ta,tc,nb,nc,rfl,hlm,hsq,hch,hn⟩,hb3⟩
 have b3:Bwz w w3:=b2.trans (hb3.mono b2.size)
 have HC:Hid (ch.Df w3 ta CT):=hch
 have HLM:Hid (s.lm=4/\s.seq=3):=⟨hlm,hsq⟩
 clear KP hch hb3 b2 hlm hsq
 rw[AK]
 go_upto_region 2 with fail
 generalize hV:(World.alloc w3 _)=w4
 have hb4:Bwz w3 w4:=by rw[<-hV];exact bR.alloc nR _
 have HBX:Hid (BT w4 w3.heap.size s y):=by
  subst hV
  exact BI ..
 clear hV
 have b4:Bwz w w4:=b3.trans (hb4.mono b3.size)
 have n4:=cLz hb4 hn
 obtain⟨_,_,_,_,_,_,u6,_,u8⟩:=HBX.out
 rw[HLM.out.1]at u6
 rw[HLM.out.2]at u8
 have KF:Hid (Calls Tryz.prog 37 #[.slice none 0 0,.slice ta 4 tc] w4 fun e w'=>(∃ad cap,e= .returned (.tuple #[.slice ad 2 cap,.int .i64 0,.int .i64 0]))/\Bwz w4 w'):=Pb ta tc w4 (ch.ET HC.out hb4)
 clear hn HC hb4 b3 HBX
 go_wp2_with fail
 refine KF.out.mono ?_
 rintro e w5 ⟨⟨ad,cap,rfl⟩,hb5⟩
 have b5:Bwz w w5:=b4.trans (hb5.mono b4.size)
 have n5:=cLz hb5 n4
 have v6:=cLz hb5 u6
 have v8:=cLz hb5 u8
 clear KF n4 u6 u8 hb5 b4
 go_wp2
 go_ret
 exact⟨rfl,b5⟩
end jn
namespace jn
open Go.RowKit
open vl bf
variable {d side : Int} {p : pl.Pln} {s s' : Jn} {v : Ev} {b : Buf} {a y : Ent} {C l : List Ent}
theorem Rt{α:Type}(A B:List α)(d:α){i:Nat}(h:A.length<=i):(A++B).getD i d=B.getD (i - A.length) d:=by
 rw[gDe,gDe,List.getElem?_append_right h]
theorem JI(h:pl.A0 side=true):pl.A0 (3 - side)=true:=by
 rcases side_is h with e|e<;>subst e<;>decide
theorem Zz9(h0:(stepJ p s v).1=0):B7 p s=0/\Az p s v=0:=by
 unfold stepJ at h0
 split at h0
 ·rename_i k;exact absurd h0 k
 ·rename_i k1
  split at h0
  ·rename_i k;exact absurd h0 k
  ·rename_i k2
   exact⟨by simpa using k1,by simpa using k2⟩
theorem Qh(h0:(stepJ p s v).1=0):stepJ p s v=if v.kind=2 then(0,Av p (AY s v.side v.time),[])else(0,E6 p s v):=by
 obtain⟨h1,h2⟩:=Zz9 h0
 unfold stepJ
 rw[if_neg (by rw[h1];exact fun k=>k rfl),if_neg (by rw[h2];exact fun k=>k rfl)]
theorem Lw(p:pl.Pln)(s:Jn):(Av p s).lm=s.lm:=by
 unfold Av Jm C8
 split<;>rfl
theorem Lx(p:pl.Pln)(s:Jn):(Av p s).rm=s.rm:=by
 unfold Av Jm C8
 split<;>rfl
theorem UT(h:okB b)(hy:y∈Ab b):tm.AP y.time=true:=by
 unfold Ab at hy
 obtain⟨l,h1,h2⟩:=List.mem_flatten.1 hy
 exact(h.fine l h1 y h2).2.2.1
theorem FT{p:pl.Pln}:∀(l:List Ev) (s:Jn) (i:Nat),goodJ p s->(∀v∈l,wfV v)->goodJ p (playJ p s l i).1
 |[],s,i,h,_=>h
 |v::l,s,i,h,hv=>by
  have hv':∀u∈l,wfV u:=fun u hu=>hv u (List.mem_cons_of_mem _ hu)
  rw[playJ]
  split
  ·exact FT l s (i+1) h hv'
  ·rename_i h0
   exact FT l _ (i+1) (good_step h.wf (hv v (List.mem_cons_self ..)) (by simpa using h0)) hv'
theorem Pc{l:List Ev}(hv:∀v∈l,wfV v)(h0:(Cw p l).1=0):pl.Ai p=0/\goodJ p (Cw p l).2.1:=by
 unfold Cw at h0⊢
 split at h0
 ·rename_i h;exact absurd h0 h
 ·rename_i h
  have hp:pl.Ai p=0:=by simpa using h
  rw[if_neg h]
  unfold D9 at h0⊢
  split at h0
  ·cases h0
  ·rename_i h2
   rw[if_neg h2]
   exact⟨hp,FT l _ 0 (good_start hp) hv⟩
def unm(y:Ent):Ent:=⟨y.key,y.time,y.seq,y.row,false⟩
def Ly(p:pl.Pln)(side:Int)(v:Ev)(seq:Int):Ent:=⟨pl.Am p side v.row,v.time,seq,v.row,false⟩
def BJ(p:pl.Pln)(side:Int)(v:Ev)(seq:Int):List Ent:=if v.kind≠2/\v.side=side/\pl.hasB p side v.row=true then [Ly p side v seq]else []
noncomputable def A3(p:pl.Pln)(side:Int):Jn->List Ev->List Ent
 |_,[]=>[]
 |s,v::l=>if (stepJ p s v).1≠0 then A3 p side s l else BJ p side v s.seq++A3 p side (stepJ p s v).2.1 l
def Cc(C:List Ent)(low:Int)(y:Ent):Bool:=C.any fun z=>decide (z.key=y.key)&&decide (z.time<=low)&&decide (ltP y z)
def Bx(p:pl.Pln)(s:Jn)(side:Int)(C:List Ent)(y:Ent):Bool:=decide (Ay p s side<y.time)&& !(decide (p.kind=3/\side=2)&&Cc C (Bq s) y)
def Dp(p:pl.Pln)(s:Jn)(side:Int)(C:List Ent):Prop:=((Ab (Ae s side)).map unm).Perm (C.filter (Bx p s side C))/\∀y∈C,tm.AP y.time=true
theorem UU(qs:List Int)(y:Ent):unm (metE qs y)=unm y:=by
 unfold unm metE
 split<;>rfl
theorem Tx(qs:List Int)(l:List Ent):(l.map (metE qs)).map unm=l.map unm:=by
 rw[List.map_map]
 exact List.map_congr_left fun y _=>UU qs y
theorem Ir(h:Dp p s side C)(hm:s'.lm=s.lm)(hr:s'.rm=s.rm)(he:(Ab (Ae s' side)).map unm=(Ab (Ae s side)).map unm):Dp p s' side C:=by
 have e1:Bx p s' side C=Bx p s side C:=by
  funext y
  unfold Bx Ay markOf Bq
  rw[hm,hr]
 unfold Dp
 rw[he,e1]
 exact h
theorem Wx(s:Jn)(side:Int):Bq s<=markOf s side:=by
 unfold Bq markOf
 split<;>omega
theorem Ml{b:Ent}(h:ltP a b)(e:b.key=a.key):a.time<=b.time:=by
 unfold ltP at h
 rw[e]at h
 rcases h with h|⟨_,h|⟨h,_⟩⟩
 ·exact absurd h (DU _)
 ·omega
 ·omega
theorem Ru(h:Dp p s side C)(hm:s'.lm=s.lm)(hr:s'.rm=s.rm)(hl:Bq s<y.time)(hy:tm.AP y.time=true)
 (he:if Ay p s side<y.time then((Ab (Ae s' side)).map unm).Perm (y::(Ab (Ae s side)).map unm)else((Ab (Ae s' side)).map unm)=(Ab (Ae s side)).map unm):Dp p s' side (C++[y]):=by
 have e0:Ay p s' side=Ay p s side:=by unfold Ay markOf;rw[hm,hr]
 have e2:Bq s'=Bq s:=by unfold Bq;rw[hm,hr]
 have o1:∀z,Cc (C++[y]) (Bq s) z=Cc C (Bq s) z:=by
  intro z
  unfold Cc
  rw[List.any_append]
  have:decide (y.time<=Bq s)=false:=decide_eq_false (by omega)
  simp[this]
 have o2:Cc C (Bq s) y=false:=by
  unfold Cc
  rw[List.any_eq_false]
  intro z hz k
  simp only[Bool.and_eq_true,decide_eq_true_eq]at k
  have:=Ml k.2 k.1.1
  omega
 have e1:Bx p s' side (C++[y])=Bx p s side C:=by
  funext z
  unfold Bx
  rw[e0,e2,o1]
 refine⟨?_,fun z hz=>?_⟩
 ·rw[e1,List.filter_append]
  have ey:Bx p s side C y=decide (Ay p s side<y.time):=by
   unfold Bx
   rw[o2]
   simp
  by_cases hg:Ay p s side<y.time
  ·rw[if_pos hg]at he
   rw[List.filter_cons_of_pos (by rw[ey];exact decide_eq_true hg),List.filter_nil]
   exact he.trans ((h.1.cons y).trans (List.perm_append_singleton y _).symm)
  ·rw[if_neg hg]at he
   rw[List.filter_cons_of_neg (by rw[ey];simpa using hg),List.filter_nil,List.append_nil,he]
   exact h.1
 ·rcases List.mem_append.1 hz with k|k
  ·exact h.2 z k
  ·rw[List.mem_singleton.1 k];exact hy
theorem Fd(p:pl.Pln)(s:Jn)(v:Ev)(met:Bool):(Cm p s v met).lm=s.lm/\(Cm p s v met).rm=s.rm/\(Cm p s v met).seq=s.seq+1:=by
 unfold Cm Au
 dsimp only
 split
 ·split<;>exact⟨rfl,rfl,rfl⟩
 ·exact⟨rfl,rfl,rfl⟩
theorem Qi:Ae (Au s side b) side=b:=by
 unfold Ae Au
 by_cases h:side=2
 ·rw[if_pos h,if_pos h]
 ·rw[if_neg h,if_neg h]
theorem Lz(hs:pl.A0 side=true)(hd:pl.A0 d=true)(h:side≠d):Ae (Au s side b) d=Ae s d:=by
 rcases side_is hs with e|e<;>rcases side_is hd with k|k<;>subst e<;>subst k
 ·exact absurd rfl h
 ·rfl
 ·rfl
 ·exact absurd rfl h
theorem Is(p:pl.Pln)(s:Jn)(v:Ev)(met:Bool)(side:Int):Ae (Cm p s v met) side=Ae (if pl.hasB p v.side v.row=true/\Ay p s v.side<v.time then Au s v.side (C7 (Ae s v.side) ⟨pl.Am p v.side v.row,v.time,s.seq,v.row,met⟩)else s) side:=rfl
theorem N4(qs:List Int)(hd:pl.A0 d=true)(hs:pl.A0 side=true)(h:Dp p s side C):Dp p (Au s d (BC qs (Ae s d))) side C:=by
 refine Ir h (Da ..).1 (Da ..).2.1 ?_
 by_cases e:d=side
 ·subst e
  rw[Qi,D8,Tx]
 ·rw[Lz hd hs e]
theorem It(met:Bool)(hs:pl.A0 side=true)(hc:comeJ p s v)(hk:v.kind≠2)(h:Dp p s side C):Dp p (Cm p s v met) side (C++BJ p side v s.seq):=by
 obtain⟨m1,m2,m3⟩:=Fd p s v met
 by_cases e:v.side=side
 ·subst e
  by_cases hh:pl.hasB p v.side v.row=true
  ·have eb:BJ p v.side v s.seq=[Ly p v.side v s.seq]:=if_pos ⟨hk,rfl,hh⟩
   rw[eb]
   have hl:Bq s<v.time:=Int.lt_of_le_of_lt (Wx s v.side) hc.late
   refine Ru h m1 m2 hl hc.time ?_
   rw[Is]
   show if Ay p s v.side<v.time then _ else _
   by_cases hg:Ay p s v.side<v.time
   ·rw[if_pos hg,if_pos ⟨hh,hg⟩,Qi]
    have:=(KX (Ae s v.side) ⟨pl.Am p v.side v.row,v.time,s.seq,v.row,met⟩).map unm
    rw[List.map_cons]at this
    exact this
   ·rw[if_neg hg,if_neg (fun k=>hg k.2)]
  ·have eb:BJ p v.side v s.seq=[]:=if_neg (fun k=>hh k.2.2)
   rw[eb,List.append_nil]
   refine Ir h m1 m2 ?_
   rw[Is,if_neg (fun k=>hh k.1)]
 ·have eb:BJ p side v s.seq=[]:=if_neg (fun k=>e k.2.1)
  rw[eb,List.append_nil]
  refine Ir h m1 m2 ?_
  rw[Is]
  split
  ·rw[Lz hc.side hs e]
  ·rfl
theorem L0(h:s'.seq=s.seq):BJ p side v s'.seq=BJ p side v s.seq:=by rw[h]
theorem Ty(hs:pl.A0 side=true)(hc:comeJ p s v)(hk:v.kind≠2)(h:Dp p s side C):Dp p (E6 p s v).1 side (C++BJ p side v s.seq):=by
 unfold E6
 split
 ·split
  ·exact It _ hs hc hk h
  ·have hb:s.L=Ae s 1:=rfl
   rw[hb,<-L0 (Da s 1 (BC ((CN p s v).map (·.seq)) (Ae s 1))).2.2]
   exact It _ hs (EC hc 1 _) hk (N4 _ (by decide) hs h)
 ·unfold B6
  rw[<-L0 (Da s (3 - v.side) (BC ((partners p s v).map (·.seq)) (Ae s (3 - v.side)))).2.2]
  exact It _ hs (EC hc (3 - v.side) _) hk (N4 _ (JI hc.side) hs h)
theorem Pd{a b s:Int}(hs:1<=s)(h:a<=b):tm.start a s<=tm.start b s:=by
 unfold tm.start
 have h1:=Int.emod_add_mul_ediv a s
 have h2:=Int.emod_add_mul_ediv b s
 have h3:=Int.ediv_le_ediv (show 0<s by omega) h
 have h4:=Int.mul_le_mul_of_nonneg_left h3 (show 0<=s by omega)
 omega
theorem Rv(hp:pl.Ai p=0){t:Int}(hs:pl.A0 side=true)(ht:tm.AP t=true)(hm:Cb (markOf s (3 - side))=true)(hm':Cb (markOf s' (3 - side))=true)(hle:markOf s (3 - side)<=markOf s' (3 - side))(h:Ay p s' side<t):Ay p s side<t:=by
 have ht:=(tm.CI _).1 ht
 unfold Ay at h⊢
 generalize markOf s (3 - side)=m at *
 generalize markOf s' (3 - side)=m' at *
 by_cases e:m=noMark
 ·rw[if_pos e]
  have:noMark= -1099511627777:=rfl
  omega
 ·have f:tm.AP m=true:=by
   unfold Cb at hm
   simp only[Bool.or_eq_true,decide_eq_true_eq]at hm
   exact hm.resolve_left e
  have f1:=(tm.CI _).1 f
  have e':m'≠noMark:=by
   have:noMark= -1099511627777:=rfl
   omega
  have f':tm.AP m'=true:=by
   unfold Cb at hm'
   simp only[Bool.or_eq_true,decide_eq_true_eq]at hm'
   exact hm'.resolve_left e'
  have f2:=(tm.CI _).1 f'
  rw[if_neg e']at h
  rw[if_neg e]
  unfold pl.F6 pl.Et at h⊢
  rw[if_pos hp,if_pos hs,if_pos f',if_pos rfl]at h
  rw[if_pos hp,if_pos hs,if_pos f,if_pos rfl]
  unfold pl.Dx pl.Gy pl.Pi at h⊢
  have hr:=(pl.BG hp).2.1
  by_cases k1:p.kind=1
  ·rw[if_pos k1]at h⊢
   by_cases j':m'=1099511627776
   ·rw[if_pos j']at h
    omega
   ·rw[if_neg j']at h
    rw[if_neg (by omega)]
    omega
  ·rw[if_neg k1]at h⊢
   by_cases k2:p.kind=2
   ·rw[if_pos k2]at h⊢
    have hsz:=hr.2.1
    rw[if_pos k2]at hsz
    by_cases j':m'=1099511627776
    ·rw[if_pos j']at h
     omega
    ·rw[if_neg j']at h
     rw[if_neg (by omega)]
     have:=Pd (a:=m+1) (b:=m'+1) hsz.1 (by omega)
     omega
   ·rw[if_neg k2]at h⊢
    by_cases k3:side=2
    ·rw[if_pos k3]at h⊢
     exact h
    ·rw[if_neg k3]at h⊢
     omega
theorem Pe(f:Ent->Bool)(hf:∀y,f (unm y)=f y)(l:List Ent):(l.filter f).map unm=(l.map unm).filter f:=by
 rw[List.filter_map]
 congr 1
 exact List.filter_congr fun y _=>(hf y).symm
theorem I8{f g h:Ent->Bool}(hp:(l.map unm).Perm (C.filter g))(hf:∀y,f (unm y)=f y)(hh:∀y∈C,h y=(f y&&g y)):((l.filter f).map unm).Perm (C.filter h):=by
 rw[Pe f hf,List.filter_congr hh,<-List.filter_filter]
 exact hp.filter f
theorem Rw(hp:pl.Ai p=0)(hs:pl.A0 side=true)(hk:¬(p.kind=3/\side=2))(hm:Cb (markOf s (3 - side))=true)(hm':Cb (markOf s' (3 - side))=true)(hle:markOf s (3 - side)<=markOf s' (3 - side))
 (he:Ab (Ae s' side)=(Ab (Ae s side)).filter (Ci (Ay p s' side))) (h:Dp p s side C):Dp p s' side C:=by
 refine⟨?_,h.2⟩
 rw[he]
 refine I8 h.1 (fun y=>rfl) (fun y hy=>?_)
 have e:decide (p.kind=3/\side=2)=false:=decide_eq_false hk
 unfold Bx Ci
 rw[e]
 have:=Rv hp hs (h.2 y hy) hm hm' hle
 by_cases k:Ay p s' side<y.time
 ·simp[k,this k]
 ·simp[k]
theorem N5(hl:Gi l)(h:l.getLast? =some y):y∈l/\∀z∈l,¬ltP y z:=by
 refine⟨List.mem_of_getLast? h,fun z hz k=>?_⟩
 obtain⟨l',rfl⟩:=List.getLast?_eq_some_iff.1 h
 rcases List.mem_append.1 hz with j|j
 ·have:=(List.pairwise_append.1 hl).2.2 z j y (List.mem_singleton.2 rfl)
  exact BH _ (B4 k this)
 ·rw[List.mem_singleton.1 j]at k
  exact BH _ k
theorem Tz{C:List Ent}(P:Ent->Bool):∀(n:Nat) (y:Ent),(C.filter fun z=>P z&&decide (ltP y z)).length<=n->y∈C->P y=true->∃z∈C,P z=true/\(∀u∈C,P u=true->¬ltP z u)/\(z=y\/ltP y z)
 |0,y,hn,hy,hP=>by
  refine⟨y,hy,hP,fun u hu hPu k=>?_,.inl rfl⟩
  have:u∈C.filter fun z=>P z&&decide (ltP y z):=List.mem_filter.2 ⟨hu,by simp[hPu,k]⟩
  rw[List.length_eq_zero_iff.1 (Nat.le_zero.1 hn)]at this
  cases this
 |n+1,y,hn,hy,hP=>by
  by_cases hx:∃u∈C,P u=true/\ltP y u
  ·obtain⟨u,hu,hPu,k⟩:=hx
   have hlt:(C.filter fun z=>P z&&decide (ltP u z)).length<(C.filter fun z=>P z&&decide (ltP y z)).length:=by
    have hs:(C.filter fun z=>P z&&decide (ltP u z))=((C.filter fun z=>P z&&decide (ltP y z)).filter fun z=>decide (ltP u z)):=by
     rw[List.filter_filter]
     refine List.filter_congr fun z _=>?_
     by_cases j:ltP u z
     ·simp[j,B4 k j]
     ·simp[j]
    rw[hs]
    refine Nat.lt_of_le_of_ne (List.length_filter_le ..) (fun e=>?_)
    have:=List.length_filter_eq_length_iff.1 e u (List.mem_filter.2 ⟨hu,by simp[hPu,k]⟩)
    exact BH _ (by simpa using this)
   obtain⟨z,h1,h2,h3,h4⟩:=Tz P n u (by omega) hu hPu
   refine⟨z,h1,h2,h3,.inr ?_⟩
   rcases h4 with e|e
   ·rw[e];exact k
   ·exact B4 k e
  ·exact⟨y,hy,hP,fun u hu hPu k=>hx ⟨u,hu,hPu,k⟩,.inl rfl⟩
theorem UV(h:(C.map (·.seq)).Nodup){b:Ent}(ha:a∈C)(hb:b∈C)(e:a.seq=b.seq):a=b:=by
 obtain⟨i,hi,rfl⟩:=List.getElem_of_mem ha
 obtain⟨j,hj,rfl⟩:=List.getElem_of_mem hb
 have key:∀i j (hi:i<C.length) (hj:j<C.length),i<j->C[i].seq≠C[j].seq:=by
  intro i j hi hj hij
  have:=List.pairwise_iff_getElem.1 h i j (by rw[lMp];omega) (by rw[lMp];omega) hij
  rw[List.getElem_map,List.getElem_map]at this
  exact this
 by_cases k:i<j
 ·exact absurd e (key i j hi hj k)
 ·by_cases k2:j<i
  ·exact absurd e.symm (key j i hj hi k2)
  ·have:i=j:=by omega
   subst this
   rfl
theorem T0(hk:p.kind=3)(hg:goodJ p s)(hgo:Ay p s' 2=Ay p s 2)(hl0:Bq s<=Bq s')(hCn:(C.map (·.seq)).Nodup)
 (he:Ab (Ae s' 2)=(Ab (Ae s 2)).filter fun y=>decide (Bq s'<y.time)||decide (lastOf s y.key (Bq s')=y.seq)) (h:Dp p s 2 C) (hgone:∀y∈C,Ay p s 2<y.time):Dp p s' 2 C:=by
 refine⟨?_,h.2⟩
 rw[he]
 refine I8 h.1 (fun y=>rfl) (fun y hy=>?_)
 have e:decide (p.kind=3/\(2:Int)=2)=true:=decide_eq_true ⟨hk,rfl⟩
 have hgy:=hgone y hy
 unfold Bx
 rw[e,hgo,decide_eq_true hgy,Bool.true_and,Bool.true_and,Bool.true_and]
 -- who is kept so far
 have hR:∀z∈C,Cc C (Bq s) z=false->∃u∈Ab s.R,unm u=unm z:=by
  intro z hz ho
  have:z∈C.filter (Bx p s 2 C):=by
   rw[List.mem_filter]
   refine⟨hz,?_⟩
   unfold Bx
   rw[e,ho,decide_eq_true (hgone z hz)]
   rfl
  obtain⟨u,hu,eu⟩:=List.mem_map.1 (h.1.mem_iff.2 this)
  exact⟨u,hu,by rw[eu];rw[<-eu];rfl⟩
 have hR2:∀u∈Ab s.R,unm u∈C/\Cc C (Bq s) (unm u)=false:=by
  intro u hu
  have:=List.mem_filter.1 (h.1.mem_iff.1 (List.mem_map_of_mem hu))
  refine⟨this.1,?_⟩
  have k:=this.2
  unfold Bx at k
  rw[e]at k
  simp only[Bool.and_eq_true,Bool.true_and,Bool.not_eq_true']at k
  exact k.2
 have hrise:Gi (C6 (Ab s.R)):=GM (GX _) ((DN (AU _)).2 hg.ok.R.once)
 have hnot:∀(low:Int) (z:Ent),Cc C low z=false↔ ∀u∈C,u.key=z.key->u.time<=low->¬ltP z u:=by
  intro low z
  unfold Cc
  rw[List.any_eq_false]
  constructor
  ·intro hh u hu k1 k2 k3
   exact hh u hu (by simp[k1,k2,k3])
  ·intro hh u hu k
   simp only[Bool.and_eq_true,decide_eq_true_eq]at k
   exact hh u hu k.1.1 k.1.2 k.2
 by_cases ht:Bq s'<y.time
 ·rw[decide_eq_true ht,Bool.true_or,Bool.true_and]
  congr 1
  have a1:Cc C (Bq s') y=false:=(hnot _ _).2 fun u hu k1 k2 k3=>by
   have:=Ml k3 k1
   omega
  have a2:Cc C (Bq s) y=false:=(hnot _ _).2 fun u hu k1 k2 k3=>by
   have:=Ml k3 k1
   omega
  rw[a1,a2]
  rfl
 ·rw[decide_eq_false ht,Bool.false_or]
  cases ho:Cc C (Bq s') y with
  |false=>
   have n1:=(hnot _ _).1 ho
   have a2:Cc C (Bq s) y=false:=(hnot _ _).2 fun u hu k1 k2 k3=>n1 u hu k1 (by omega) k3
   rw[a2]
   obtain⟨u,hu,eu⟩:=hR y hy a2
   have ek:u.key=y.key:=congrArg (·.key) eu
   have et:u.time=y.time:=congrArg (·.time) eu
   have es:u.seq=y.seq:=congrArg (·.seq) eu
   have hm:u∈(C6 (Ab s.R)).filter fun z=>decide (z.key=y.key)&&decide (z.time<=Bq s'):=by
    rw[List.mem_filter]
    refine⟨(AU _).mem_iff.2 hu,?_⟩
    simp only[Bool.and_eq_true,decide_eq_true_eq]
    exact⟨ek,by omega⟩
   have hlast:lastOf s y.key (Bq s')=y.seq:=by
    unfold lastOf
    cases hq:((C6 (Ab s.R)).filter fun z=>decide (z.key=y.key)&&decide (z.time<=Bq s')).getLast? with
    |none=>rw[List.getLast?_eq_none_iff.1 hq]at hm;cases hm
    |some q=>
     obtain⟨q1,q2⟩:=N5 (Ee _ hrise) hq
     obtain⟨q3,q4⟩:=List.mem_filter.1 q1
     simp only[Bool.and_eq_true,decide_eq_true_eq]at q4
     have hqR:=(AU _).mem_iff.1 q3
     have hqC:=(hR2 q hqR).1
     have k1:¬ltP u q:=fun k=>by
      refine n1 (unm q) hqC q4.1 q4.2 ?_
      have:ltP (unm u) (unm q):=k
      rw[eu]at this
      exact this
     rcases ltP_tri q u with j|j|j
     ·exact absurd j (q2 u hm)
     ·show q.seq=y.seq
      rw[j.2.2,es]
     ·exact absurd j k1
   rw[decide_eq_true hlast]
   rfl
  |true=>
   cases ho2:Cc C (Bq s) y with
   |true=>simp
   |false=>
    have hnl:lastOf s y.key (Bq s')≠y.seq:=by
     intro hlast
     -- somebody Lt y, and the greatest of them
     have:∃u∈C,u.key=y.key/\u.time<=Bq s'/\ltP y u:=by
      unfold Cc at ho
      obtain⟨u,hu,k⟩:=List.any_eq_true.1 ho
      simp only[Bool.and_eq_true,decide_eq_true_eq]at k
      exact⟨u,hu,k.1.1,k.1.2,k.2⟩
     obtain⟨u,hu,u1,u2,u3⟩:=this
     obtain⟨z,z1,z2,z3,z4⟩:=Tz (C:=C) (fun z=>decide (z.key=y.key)&&decide (z.time<=Bq s')) _ u nR hu (by simp[u1,u2])
     simp only[Bool.and_eq_true,decide_eq_true_eq]at z2 z3
     have z5:ltP y z:=by
      rcases z4 with e4|e4
      ·rw[e4];exact u3
      ·exact B4 u3 e4
     have zo:Cc C (Bq s) z=false:=(hnot _ _).2 fun q hq k1 k2 k3=>z3 q hq ⟨k1.trans z2.1,by omega⟩ k3
     obtain⟨zr,hzr,ez⟩:=hR z z1 zo
     obtain⟨yr,hyr,ey⟩:=hR y hy ho2
     have mz:zr∈(C6 (Ab s.R)).filter fun z=>decide (z.key=y.key)&&decide (z.time<=Bq s'):=by
      rw[List.mem_filter]
      refine⟨(AU _).mem_iff.2 hzr,?_⟩
      have ek:zr.key=z.key:=congrArg (·.key) ez
      have et:zr.time=z.time:=congrArg (·.time) ez
      simp only[Bool.and_eq_true,decide_eq_true_eq]
      exact⟨ek.trans z2.1,by omega⟩
     unfold lastOf at hlast
     cases hq:((C6 (Ab s.R)).filter fun z=>decide (z.key=y.key)&&decide (z.time<=Bq s')).getLast? with
     |none=>rw[List.getLast?_eq_none_iff.1 hq]at mz;cases mz
     |some q=>
      rw[hq]at hlast
      obtain⟨q1,q2⟩:=N5 (Ee _ hrise) hq
      obtain⟨q3,q4⟩:=List.mem_filter.1 q1
      have hqR:=(AU _).mem_iff.1 q3
      have hqC:=(hR2 q hqR).1
      -- q has y's Seq, so it is y
      have eqy:unm q=y:=UV hCn hqC hy hlast
      refine q2 zr mz ?_
      show ltP (unm q) (unm zr)
      rw[eqy,ez]
      exact z5
    rw[decide_eq_false hnl]
    rfl
end jn
end Go.Proofs.YtdohnkkbkfhphaaGreat
