import Derived.Test.YtdohnkkbkfhphaaGreatPc44
set_option linter.all false
set_option maxHeartbeats 16000000
set_option maxRecDepth 100000
namespace Go.Proofs.YtdohnkkbkfhphaaGreat
namespace jn
open Go.ChangeShapes Go.WideShapes Go.ChangeAt Go.RowKit
open vl bf
attribute [local go_sem] Oper.semAt_some
variable {W2 w' wr : World} {b0 : Option Nat} {base : Nat} {v : Value}
def EN(W2 wr:World)(b0:Option Nat):Prop:=W2.heap.size<=wr.heap.size/\∀k,k<W2.heap.size->b0≠some k->wr.heap[k]? =W2.heap[k]?
theorem Lu(W:World)(b0:Option Nat):EN W W b0:=⟨Nat.le_refl _,fun _ _ _=>rfl⟩
theorem Js(h:EN W2 wr b0)(hb:Bwz wr w'):EN W2 w' b0:=⟨Nat.le_trans h.1 hb.size,fun k hk hn=>(hb.block k (Nat.lt_of_lt_of_le hk h.1)).trans (h.2 k hk hn)⟩
theorem Lv(h:EN W2 wr b0)(hl:bf.Left wr w' base v)(hv:∀g,v.ownBlock=some g->b0=some g\/W2.heap.size<=g):EN W2 w' b0:=⟨Nat.le_trans h.1 hl.size,fun k hk hn=>(hl.blk k (Nat.lt_of_lt_of_le hk h.1) (fun e=>by
 rcases hv k e with j|j
 ·exact hn j
 ·omega)).trans (h.2 k hk hn)⟩
theorem Pi{es:List EM}{l:List Ent}(h:OE W2 base v es l)(hk:EN W2 wr b0)(hb:∀g,b0=some g->g<base):OE wr base v es l:=by
 refine⟨Nat.le_trans h.low hk.1,A0 h.own (fun g hg=>?_),h.len,fun i hi=>?_⟩
 ·have:=bf.AD h.own hg
  exact hk.2 g this.2 (fun e=>by have:=hb g e;omega)
 ·obtain⟨a1,a2,a3,a4,a5,a6⟩:=h.rows i hi
  refine⟨a1,a2,a3,a4,a5,A0 a6 (fun g hg=>?_)⟩
  have:=bf.AD a6 hg
  exact hk.2 g this.2 (fun e=>by have:=hb g e;omega)
def mkK(a b:Nat):Nat->Nat
 |0=>0
 |1=>a
 |_=>a+b
theorem Pj(p:pl.Pln)(x:pl.PA)(s:Jn)(y:JX)(w:World)(hw:pl.wfPlan p)(hp:pl.planAt w p x)(h:joinAt w s y)(hE:∀z∈Ab s.L++Ab s.R,wfE z/\z.key.size<=140737488355328/\z.row.length<=2000000)(hs1:(Ab s.L).length<=4611686018427387904)(hs2:(Ab s.R).length<=4611686018427387904):
 Calls Tryz.prog 15 #[pl.Ap p x,joinV s y] w fun e w'=>e= .returned (.int .i64 (BB p s))/\Bwz w w':=by
 have hmx:Tryz.prog.follows .mixedOrders=true:=rfl
 have KP:=hIz (fun(w1:World) (hb:Bwz w w1)=>pl.GF p x w1 hw (pl.Af hp hb))
 have KBL:=hIz (fun(w1:World) (hb:Bwz w w1)=>Et s.L y.l w1 (Ai h.l hb) (fun z hz=>hE z (List.mem_append.2 (.inl hz))) hs1)
 have KBR:=hIz (fun(w1:World) (hb:Bwz w w1)=>Et s.R y.r w1 (Ai h.r hb) (fun z hz=>hE z (List.mem_append.2 (.inr hz))) hs2)
 have KAL:Hid (okB s.L->∀w1,Bwz w w1->CTz 43 #[.agg #[.int .i64 s.L.lim,.slice y.l.m.1.1 y.l.m.1.2.1 y.l.m.1.2.2,.slice y.l.ra y.l.rs.length y.l.rc]] w1 fun e w'=>(∃hh es,e= .returned (hdV hh)/\OE w' w1.heap.size (hdV hh) es (Ce (Ab s.L)))/\Bwz w1 w'):=fun ok w1 hb=>by
  refine(Oo s.L y.l w1 (Ai h.l hb) ok).mono ?_
  rintro e w' ⟨⟨hh,es,l,he,ho,hpm,hr⟩,hb'⟩
  have:l=Ce (Ab s.L):=FE hpm (RR hr) ok.once
  rw[this]at ho
  exact⟨⟨hh,es,he,ho⟩,hb'⟩
 have KAR:Hid (okB s.R->∀w1,Bwz w w1->CTz 43 #[.agg #[.int .i64 s.R.lim,.slice y.r.m.1.1 y.r.m.1.2.1 y.r.m.1.2.2,.slice y.r.ra y.r.rs.length y.r.rc]] w1 fun e w'=>(∃hh es,e= .returned (hdV hh)/\OE w' w1.heap.size (hdV hh) es (Ce (Ab s.R)))/\Bwz w1 w'):=fun ok w1 hb=>by
  refine(Oo s.R y.r w1 (Ai h.r hb) ok).mono ?_
  rintro e w' ⟨⟨hh,es,l,he,ho,hpm,hr⟩,hb'⟩
  have:l=Ce (Ab s.R):=FE hpm (RR hr) ok.once
  rw[this]at ho
  exact⟨⟨hh,es,he,ho⟩,hb'⟩
 have KW1:Hid (∀w1,CTz 29 #[.int .i64 s.lm,.int .i64 (-1099511627777),.int .i64 1099511627776] w1 fun e w'=>e= .returned (.bool (CH s.lm))/\w'=w1):=fun w1=>by rw[<-My];exact bf.Ak _ _ _ _
 have KW2:Hid (∀w1,CTz 29 #[.int .i64 s.rm,.int .i64 (-1099511627777),.int .i64 1099511627776] w1 fun e w'=>e= .returned (.bool (CH s.rm))/\w'=w1):=fun w1=>by rw[<-My];exact bf.Ak _ _ _ _
 have KW3:Hid (∀w1,CTz 29 #[.int .i64 s.seq,.int .i64 0,.int .i64 1099511627776] w1 fun e w'=>e= .returned (.bool (bf.Az s.seq 0 1099511627776))/\w'=w1):=fun w1=>bf.Ak _ _ _ _
 have HW:Hid (pl.wfPlan p/\pl.planAt w p x):=⟨hw,hp⟩
 have HPA:Hid ((Ce (Ab s.L)).Perm (Ab s.L)):=Bu _
 have HPB:Hid ((Ce (Ab s.R)).Perm (Ab s.R)):=Bu _
 have HFA:Hid (∀z∈Ce (Ab s.L),BE z.row/\z.row.length<=9223372036854775807):=fun z hz=>by
  have:=hE z (List.mem_append.2 (.inl (HPA.out.mem_iff.1 hz)))
  exact⟨this.1.row,by omega⟩
 have HFB:Hid (∀z∈Ce (Ab s.R),BE z.row/\z.row.length<=9223372036854775807):=fun z hz=>by
  have:=hE z (List.mem_append.2 (.inr (HPB.out.mem_iff.1 hz)))
  exact⟨this.1.row,by omega⟩
 have HOL:Hid (C4 s.L=0->okB s.L/\(Ce (Ab s.L)).length<=4096):=fun h0=>⟨Df h0,by rw[HPA.out.length_eq];exact(Df h0).all⟩
 have HOR:Hid (C4 s.R=0->okB s.R/\(Ce (Ab s.R)).length<=4096):=fun h0=>⟨Df h0,by rw[HPB.out.length_eq];exact(Df h0).all⟩
 obtain⟨R,hR⟩:=nM (BB p s)
 have HRR:Hid (R=if pl.Al p≠0 then pl.Al p else if C4 s.L≠0 then C4 s.L else if C4 s.R≠0 then C4 s.R else if De s=false then 3 else if Bx p s=false then 1 else 0):=hR.symm
 rw[hR]
 have HRG:Hid (De s=(CH s.lm&&CH s.rm&&bf.Az s.seq 0 1099511627776)):=rfl
 obtain⟨A,hA⟩:=nM (Ce (Ab s.L))
 obtain⟨B,hB⟩:=nM (Ce (Ab s.R))
 rw[hA]at KAL HPA HFA HOL
 rw[hB]at KAR HPB HFB HOR
 obtain⟨pe,hpe⟩:=nM (pl.Al p)
 obtain⟨e1,he1⟩:=nM (C4 s.L)
 obtain⟨e2,he2⟩:=nM (C4 s.R)
 have HPE:Hid (pl.Al p=pe):=hpe
 rw[hpe]at KP HRR
 rw[he1]at KBL HRR HOL
 rw[he2]at KBR HRR HOR
 obtain⟨q1,hq1⟩:=nM (CH s.lm)
 obtain⟨q2,hq2⟩:=nM (CH s.rm)
 obtain⟨q3,hq3⟩:=nM (bf.Az s.seq 0 1099511627776)
 rw[hq1]at KW1 HRG
 rw[hq2]at KW2 HRG
 rw[hq3]at KW3 HRG
 rw[HRG.out]at HRR
 have HLM:Hid (Mw p s=(decide (s.L.lim=p.limit)&&decide (s.R.lim=p.limit))):=rfl
 unfold pl.Ap at KP⊢
 rw[A6]
 clear hw hp h hE hs1 hs2 hR hA hB hpe he1 he2 hq1 hq2 hq3 HRG
 go_enter Tryz.func15,Tryz.ntmps15
 go_wp2_with fail
 generalize hV:(World.alloc (World.alloc w _) _)=V
 have hb0:Bwz w V:=by rw[<-hV];exact(bR.alloc nR _).alloc (by simp) _
 have HB:Hid (Br V w.heap.size p x):=by
  subst hV
  exact Aj (CM ..) (bR.alloc nR _)
 have HBJ:Hid (AU V (w.heap.size+1) s y):=by
  subst hV
  have:=Bo (w.alloc (.cells #[.int .i64 p.kind,.int .i64 p.mode,.int .i64 p.low,.int .i64 p.high,.int .i64 p.size,.int .i64 p.limit,.slice x.l p.left.length x.lc,.slice x.r p.right.length x.rc,.slice x.lk p.lkeys.length x.lkc,.slice x.rk p.rkeys.length x.rkc,.bool p.grouped,.slice x.g p.group.length x.gc,.slice x.a p.aggs.length x.ac] 25)) s y 31
  rw[World.size_alloc]at this
  exact this
 clear hV
 refine(KP.out _ hb0).mono ?_
 rintro e w1 ⟨rfl,hb1⟩
 have bw1:Bwz w w1:=hb0.trans (hb1.mono hb0.size)
 replace HB:Hid (Br w1 w.heap.size p x):=Aj HB.out hb1
 replace HBJ:Hid (AU w1 (w.heap.size+1) s y):=Ag HBJ.out hb1
 clear KP hb0 hb1
 by_cases h0:pe=0
 case neg=>
  have hne:(pe !=0)=true:=by simpa using h0
  rw[if_pos h0]at HRR
  go_wp2
  go_ret
  exact⟨bf.Ad HRR.out.symm,bw1⟩
 subst h0
 rw[if_neg (by decide)]at HRR
 obtain⟨u0,u1,u2,u3,u4,u5,u6,u7,u8⟩:=HBJ.out
 go_wp2_with fail
 refine(KBL.out _ bw1).mono ?_
 rintro e w2 ⟨rfl,hb2⟩
 have bw2:Bwz w w2:=bw1.trans (hb2.mono bw1.size)
 clear u0 u1 u2 u3 u4 u5 u6 u7 u8
 replace HB:Hid (Br w2 w.heap.size p x):=Aj HB.out hb2
 replace HBJ:Hid (AU w2 (w.heap.size+1) s y):=Ag HBJ.out hb2
 by_cases h0:e1=0
 case neg=>
  have hne:(e1 !=0)=true:=by simpa using h0
  rw[if_pos h0]at HRR
  go_wp2
  go_ret
  exact⟨bf.Ad HRR.out.symm,bw2⟩
 subst h0
 rw[if_neg (by decide)]at HRR
 obtain⟨u0,u1,u2,u3,u4,u5,u6,u7,u8⟩:=HBJ.out
 go_wp2_with fail
 refine(KBR.out _ bw2).mono ?_
 rintro e w3 ⟨rfl,hb3⟩
 have bw0:Bwz w w3:=bw2.trans (hb3.mono bw2.size)
 clear u0 u1 u2 u3 u4 u5 u6 u7 u8
 replace HB:Hid (Br w3 w.heap.size p x):=Aj HB.out hb3
 replace HBJ:Hid (AU w3 (w.heap.size+1) s y):=Ag HBJ.out hb3
 clear hb2 hb3 bw1 bw2 KBL KBR
 by_cases h0:e2=0
 case neg=>
  have hne:(e2 !=0)=true:=by simpa using h0
  rw[if_pos h0]at HRR
  go_wp2
  go_ret
  exact⟨bf.Ad HRR.out.symm,bw0⟩
 subst h0
 rw[if_neg (by decide)]at HRR
 obtain⟨okL,fewA⟩:=HOL.out (by trivial)
 obtain⟨okR,fewB⟩:=HOR.out (by trivial)
 have HP0:Hid (pl.Al p=0):=HPE.out
 replace KAL:=KAL.out okL
 replace KAR:=KAR.out okR
 have KALH:Hid (∀w1,Bwz w w1->CTz 43 #[.agg #[.int .i64 s.L.lim,.slice y.l.m.1.1 y.l.m.1.2.1 y.l.m.1.2.2,.slice y.l.ra y.l.rs.length y.l.rc]] w1 fun e w'=>(∃hh es,e= .returned (hdV hh)/\OE w' w1.heap.size (hdV hh) es A)/\Bwz w1 w'):=KAL
 have KARH:Hid (∀w1,Bwz w w1->CTz 43 #[.agg #[.int .i64 s.R.lim,.slice y.r.m.1.1 y.r.m.1.2.1 y.r.m.1.2.2,.slice y.r.ra y.r.rs.length y.r.rc]] w1 fun e w'=>(∃hh es,e= .returned (hdV hh)/\OE w' w1.heap.size (hdV hh) es B)/\Bwz w1 w'):=KAR
 have HTL:Hid ((BH A B).length<=8192):=by
  show _<=_
  unfold BH
  rw[lAp,lMp,lMp]
  omega
 clear KAL KAR HOL HOR okL okR HPE
 obtain⟨u0,u1,u2,u3,u4,u5,u6,u7,u8⟩:=HBJ.out
 have v5:=HB.out.2.2.2.2.2.1
 cases q1 with
 |false=>
  have HE3:Hid (R=3):=by show R=3;rw[HRR.out];simp
  go_wp2_with (go_at_call 29;(with_reducible refine(KW1.out _).mono ?_);rintro e w' ⟨rfl,hx⟩;have hx2:=hx.symm;subst hx2)
  go_ret
  exact⟨bf.Ad HE3.out.symm,bw0⟩
 |true=>
 cases q2 with
 |false=>
  have HE3:Hid (R=3):=by show R=3;rw[HRR.out];simp
  go_wp2_with (go_at_call 29;first|((with_reducible refine(KW1.out _).mono ?_);rintro e w' ⟨rfl,hx⟩;have hx2:=hx.symm;subst hx2)|((with_reducible refine(KW2.out _).mono ?_);rintro e w' ⟨rfl,hx⟩;have hx2:=hx.symm;subst hx2))
  go_ret
  exact⟨bf.Ad HE3.out.symm,bw0⟩
 |true=>
 cases q3 with
 |false=>
  have HE3:Hid (R=3):=by show R=3;rw[HRR.out];simp
  go_wp2_with (go_at_call 29;first|((with_reducible refine(KW1.out _).mono ?_);rintro e w' ⟨rfl,hx⟩;have hx2:=hx.symm;subst hx2)|((with_reducible refine(KW2.out _).mono ?_);rintro e w' ⟨rfl,hx⟩;have hx2:=hx.symm;subst hx2)|((with_reducible refine(KW3.out _).mono ?_);rintro e w' ⟨rfl,hx⟩;have hx2:=hx.symm;subst hx2))
  go_ret
  exact⟨bf.Ad HE3.out.symm,bw0⟩
 |true=>
 have HE1:Hid (Bx p s=false->R=1):=fun hf=>by rw[HRR.out,hf];simp
 have HE0:Hid (Bx p s=true->R=0):=fun hf=>by rw[HRR.out,hf];simp
 clear HRR
 go_upto_region 12 with(go_at_call 29;first|((with_reducible refine(KW1.out _).mono ?_);rintro e w' ⟨rfl,hx⟩;have hx2:=hx.symm;subst hx2)|((with_reducible refine(KW2.out _).mono ?_);rintro e w' ⟨rfl,hx⟩;have hx2:=hx.symm;subst hx2)|((with_reducible refine(KW3.out _).mono ?_);rintro e w' ⟨rfl,hx⟩;have hx2:=hx.symm;subst hx2))
 clear KW1 KW2 KW3
 obtain⟨lim,hlim⟩:=nM p.limit
 obtain⟨l1,hl1⟩:=nM s.L.lim
 obtain⟨l2,hl2⟩:=nM s.R.lim
 rw[hlim]at v5 HLM
 rw[hl1]at u0 HLM
 rw[hl2]at u3 HLM
 by_cases hc1:l1=lim
 case neg=>
  have HNO:Hid (Bx p s=false):=Mx (by rw[HLM.out,decide_eq_false hc1];rfl)
  have hd:(l1 !=lim)=true:=by simpa using hc1
  clear hlim hl1 hl2 HLM hc1
  go_wp2
  go_ret
  exact⟨bf.Ad (HE1.out HNO.out).symm,bw0⟩
 by_cases hc2:l2=lim
 case neg=>
  have HNO:Hid (Bx p s=false):=Mx (by rw[HLM.out,decide_eq_false hc2];simp)
  have hd:(l1 !=lim)=false:=by simpa using hc1
  have hd2:(l2 !=lim)=true:=by simpa using hc2
  clear hlim hl1 hl2 HLM hc1 hc2
  go_wp2
  go_ret
  exact⟨bf.Ad (HE1.out HNO.out).symm,bw0⟩
 have HLY:Hid (Mw p s=true):=by show _=_;rw[HLM.out,decide_eq_true hc1,decide_eq_true hc2];rfl
 have hd:(l1 !=lim)=false:=by simpa using hc1
 have hd2:(l2 !=lim)=false:=by simpa using hc2
 clear hlim hl1 hl2 HLM hc1 hc2
 go_upto_region 16 with fail
 clear u0 u1 u2 u3 u4 u5 u6 u7 u8 v5 hd hd2
 obtain⟨W0,hW0⟩:=nM w3
 rw[hW0]at HB HBJ bw0⊢
 clear hW0
 go_loopw [8,9,10,11,12,13,14] (fun v sd _ _ _ _ _ wr=> ∃(k:Nat) (es:List EM) (q:List Ent),k<=2/\sd= .int .i64 ((k:Int)+1)/\OE wr W0.heap.size v es q/\CJ p s ((BH A B).take (mkK A.length B.length k)) q/\Bwz W0 wr) (fun _ sd _ _ _ _ _ _=>3 - (intOf sd).toNat)
 case atStart=>exact⟨0,[],[],by omega,rfl,CA nR,Y3 p s,bR⟩
 case round=>
  obtain⟨k,es,q,hk2,rfl,hoe,hcj,hb0r⟩:=hrel
  have HOQ:Hid (OE wr W0.heap.size u8 es q):=hoe
  have bwr:Bwz w wr:=bw0.trans (hb0r.mono bw0.size)
  clear hoe
  match k,hk2,hcj with
  |0,_,hcj=>
   have HCJ0:Hid (CJ p s ((BH A B).take 0) q):=hcj
   clear hcj
   obtain⟨b0,hb0⟩:=nM u8.ownBlock
   have hlo:∀g,b0=some g->g<wr.heap.size:=fun g hg=>(bf.AD HOQ.out.own (hb0.trans hg)).2
   obtain⟨t0,t1,t2,t3,t4,t5,t6,t7,t8⟩:=Ag HBJ.out hb0r
   go_wp2_with fail
   refine(KALH.out _ bwr).mono ?_
   rintro e W2 ⟨⟨hh,es2,rfl,ho2⟩,hb2⟩
   clear t0 t1 t2 t3 t4 t5 t6 t7 t8
   obtain⟨g1,g2,g3⟩:=hh
   have hg2:g2=A.length:=(OE.entsAt ho2).1
   have HLW:Hid (∀wr',EN W2 wr' b0->QJ wr' g1 A):=fun wr' hk=>(OE.entsAt (Pi ho2 hk hlo)).2.1
   have HOQ2:Hid (OE W2 W0.heap.size u8 es q):=HOQ.out.below hb2
   have HB00:Hid (∀g,u8.ownBlock=some g->b0=some g\/W2.heap.size<=g):=fun g hg=>.inl (hb0.symm.trans hg)
   have hb02:Bwz W0 W2:=hb0r.trans (hb2.mono hb0r.size)
   obtain⟨n,hn⟩:=nM A.length
   have HNL:Hid (A.length=n):=hn
   rw[hn]at hg2 fewA
   have hg3:=hg2.symm
   subst hg3
   have HFIN:Hid (∀z∈A,BE z.row/\z.row.length<=9223372036854775807):=HFA.out
   unfold hdV
   clear hn hb0 hlo ho2 HOQ hb2 hb0r bwr HFA HFB
   go_upto_region 22 with fail
   go_loopw [8,11,12,13,14] (fun v ii _ _ _ wr=> ∃(j:Nat) (es:List EM) (q:List Ent),j<=n/\ii= .int .i64 j/\OE wr W0.heap.size v es q/\CJ p s ((BH A B).take j) q/\EN W2 wr b0/\(∀g,v.ownBlock=some g->b0=some g\/W2.heap.size<=g)/\Bwz W0 wr) (fun _ ii _ _ _ _=>n - (intOf ii).toNat)
   case atStart=>exact⟨0,es,q,Nat.zero_le _,rfl,HOQ2.out,by exact HCJ0.out,Lu _ _,HB00.out,hb02⟩
   case round=>
    obtain⟨j,es1,q1,hjn,rfl,hoe,hcj,hkx,hbk,hb0r⟩:=hrel
    have HOEQ:Hid (OE wr W0.heap.size u8 es1 q1):=hoe
    have HCJ:Hid (CJ p s ((BH A B).take j) q1):=hcj
    have HKX:Hid (EN W2 wr b0):=hkx
    have HBK:Hid (∀g,u8.ownBlock=some g->b0=some g\/W2.heap.size<=g):=hbk
    have bwr:Bwz w wr:=bw0.trans (hb0r.mono bw0.size)
    clear hoe hcj hkx hbk
    by_cases hlt:j<n
    ·obtain⟨lb,lo,ra,rc,el,x0,x1,x2,x3,x4,x5⟩:=(HLW.out wr HKX.out) j (by rw[HNL.out];exact hlt)
     subst el
     obtain⟨tg1,tg2⟩:=WX (a:=A) (b:=B) (k:=j) (by rw[HNL.out];exact hlt)
     have hmem:A.getD j default∈A:=A1 (by rw[HNL.out];exact hlt)
     have hfin:=HFIN.out _ hmem
     have HNB:Hid ((s.seq<=(A.getD j default).seq\/DF p 1 (A.getD j default)=false\/hasB q1 (Ay (sqE (A.getD j default)))=true)->Bx p s=false):=fun hw=>R8 (k:=j) HPA.out HPB.out HCJ.out (by unfold BH;rw[lAp,lMp,lMp];have:=HNL.out;omega) (by rw[tg1];exact hw)
     have HNX:Hid (∀q',(A.getD j default).seq<s.seq->DF p 1 (A.getD j default)=true->hasB q1 (Ay (sqE (A.getD j default)))=false->q'.Perm (sqE (A.getD j default)::q1)->C9 q'->CJ p s ((BH A B).take (j+1)) q'):=fun q' h1 h2 h3 h4 h5=>by
      rw[tg2]
      exact HCJ.out.more h1 h2 h3 h4 h5
     have hql:q1.length<=8192:=by
      rw[HCJ.out.perm.length_eq,lMp,List.length_take]
      have:=HTL.out
      omega
     obtain⟨yl,hyl⟩:=nM (A.getD j default)
     rw[hyl]at x0 x2 x3 x5 hfin HNB HNX
     clear tg1 tg2 hmem hyl x1 x4
     have HX5:Hid (vl.rowAt wr ra yl.row):=x5
     have HRB:Hid (DF p 1 yl=(decide (pl.AB p 1 yl.row=0)&&pl.hasB p 1 yl.row&&decide (pl.Aq p 1 yl.row=yl.key))):=rfl
     have KRE:Hid (∀w1,Bwz wr w1->CTz 44 #[pl.Ap p x,.int .i64 1,.slice ra yl.row.length rc] w1 fun e w'=>e= .returned (.int .i64 (pl.AB p 1 yl.row))/\Bwz w1 w'):=fun w1 hb=>by
      have bw1:Bwz w w1:=bwr.trans (hb.mono bwr.size)
      have:=pl.I7 p x 1 ra rc yl.row w1 HW.out.1 (pl.Af HW.out.2 bw1) HP0.out (vl.Ac HX5.out hb) hfin.1 hfin.2
      have e1:pl.AB p 1 yl.row=pl.Rj p 1 yl.row:=if_pos HP0.out
      rw[e1]
      exact this
     have KKF:Hid (pl.AB p 1 yl.row=0->∀w1,Bwz wr w1->CTz 45 #[pl.Ap p x,.int .i64 1,.slice ra yl.row.length rc] w1 fun e w'=>e= .returned (.tuple #[.string (pl.Aq p 1 yl.row),.bool (pl.hasB p 1 yl.row)])/\Bwz w1 w'):=fun h0 w1 hb=>by
      have bw1:Bwz w w1:=bwr.trans (hb.mono bwr.size)
      exact pl.Lk p x 1 ra rc yl.row w1 HW.out.1 (pl.Af HW.out.2 bw1) h0 (vl.Ac HX5.out hb) hfin.1 hfin.2
     have HSQE:Hid (Ay (sqE yl)=(⟨#[]⟩,0,yl.seq)):=rfl
     obtain⟨yk,yt,sq,yr,ym⟩:=yl
     dsimp only at x0 x2 x3 KRE KKF HNB HNX HRB HSQE hfin
     have KIN:Hid (∀w1,Bwz wr w1->CTz 46 #[u8,.agg #[.string ⟨#[]⟩,.int .i64 0,.int .i64 sq,.slice none 0 0,.bool false]] w1 fun r w'=>(∃(hh:Hdr) (es':List EM) (l':List Ent),r= .returned (.tuple #[hdV hh,.bool (!hasB q1 (Ay (sqE ⟨yk,yt,sq,yr,ym⟩)))])/\OE w' W0.heap.size (hdV hh) es' l'/\(hasB q1 (Ay (sqE ⟨yk,yt,sq,yr,ym⟩))=false->l'.Perm (sqE ⟨yk,yt,sq,yr,ym⟩::q1)/\C9 l')/\(∀g,(hdV hh).ownBlock=some g->u8.ownBlock=some g\/w1.heap.size<=g))/\Below W0.heap.size w1 w'/\bf.Left w1 w' W0.heap.size u8):=fun w1 hb=>by
      obtain⟨ad8,cap8,e8⟩:=HOEQ.out.form
      have ho:=HOEQ.out.below hb
      rw[e8]at ho⊢
      refine(It W0.heap.size ad8 cap8 es1 q1 ⟨⟨#[]⟩,0,sq,(none,0,0),false⟩ (sqE ⟨yk,yt,sq,yr,ym⟩) w1 ho (fun w2 _=>⟨rfl,rfl,rfl,rfl,rfl,fun i hi=>absurd hi (Nat.not_lt_zero i)⟩) HCJ.out.rise (by omega) (Nat.zero_le _)).mono ?_
      rintro r w' ⟨⟨hh,es',l',h1,h2,_,h3,h4⟩,h5,h6⟩
      exact⟨⟨hh,es',l',h1,h2,h3,h4⟩,h5,h6⟩
     obtain⟨hq,hhq⟩:=nM (hasB q1 (Ay (sqE ⟨yk,yt,sq,yr,ym⟩)))
     obtain⟨rl,hrl⟩:=nM yr.length
     obtain⟨re,hre⟩:=nM (pl.AB p 1 yr)
     obtain⟨kh,hkh⟩:=nM (pl.hasB p 1 yr)
     obtain⟨kb,hkb⟩:=nM (pl.Aq p 1 yr)
     rw[hhq]at HNB HNX KIN
     rw[hrl]at x3 KRE KKF
     rw[hre]at KRE KKF HRB
     rw[hkh,hkb]at KKF HRB
     obtain⟨sS,hsS⟩:=nM s.seq
     have HJ8:=(Ag HBJ.out hb0r).2.2.2.2.2.2.2.2
     rw[hsS]at HNB HNX HJ8
     obtain⟨v0,v1,v2,v3,v4,v5,v6,v7,v8,v9,v10,v11,v12⟩:=Aj HB.out hb0r
     have i1:(0:Int)<=(j:Int):=by omega
     have i2:(j:Int)<(n:Int):=by omega
     have SK24:Hid (∀w',Bwz wr w'->w'.cell? ⟨lb,lo+j * 5+1+1,none⟩=some (.int .i64 sq)/\w'.cell? ⟨w.heap.size+1,8,none⟩=some (.int .i64 sS)/\w'.cell? ⟨lb,lo+j * 5+1+1+1,none⟩=some (.slice ra rl rc)/\w'.cell? ⟨w.heap.size,0,none⟩=some (.int .i64 p.kind)/\w'.cell? ⟨w.heap.size,1,none⟩=some (.int .i64 p.mode)/\w'.cell? ⟨w.heap.size,2,none⟩=some (.int .i64 p.low)/\w'.cell? ⟨w.heap.size,3,none⟩=some (.int .i64 p.high)/\w'.cell? ⟨w.heap.size,4,none⟩=some (.int .i64 p.size)/\w'.cell? ⟨w.heap.size,5,none⟩=some (.int .i64 p.limit)/\w'.cell? ⟨w.heap.size,6,none⟩=some (.slice x.l p.left.length x.lc)/\w'.cell? ⟨w.heap.size,7,none⟩=some (.slice x.r p.right.length x.rc)/\w'.cell? ⟨w.heap.size,8,none⟩=some (.slice x.lk p.lkeys.length x.lkc)/\w'.cell? ⟨w.heap.size,9,none⟩=some (.slice x.rk p.rkeys.length x.rkc)/\w'.cell? ⟨w.heap.size,10,none⟩=some (.bool p.grouped)/\w'.cell? ⟨w.heap.size,11,none⟩=some (.slice x.g p.group.length x.gc)/\w'.cell? ⟨w.heap.size,12,none⟩=some (.slice x.a p.aggs.length x.ac)):=fun w' hz=>⟨cLz hz x2,cLz hz HJ8,cLz hz x3,cLz hz v0,cLz hz v1,cLz hz v2,cLz hz v3,cLz hz v4,cLz hz v5,cLz hz v6,cLz hz v7,cLz hz v8,cLz hz v9,cLz hz v10,cLz hz v11,cLz hz v12⟩
     have SK26:Hid (∀w',Bwz wr w'->w'.cell? ⟨lb,lo+j * 5+1+1+1,none⟩=some (.slice ra rl rc)/\w'.cell? ⟨w.heap.size,0,none⟩=some (.int .i64 p.kind)/\w'.cell? ⟨w.heap.size,1,none⟩=some (.int .i64 p.mode)/\w'.cell? ⟨w.heap.size,2,none⟩=some (.int .i64 p.low)/\w'.cell? ⟨w.heap.size,3,none⟩=some (.int .i64 p.high)/\w'.cell? ⟨w.heap.size,4,none⟩=some (.int .i64 p.size)/\w'.cell? ⟨w.heap.size,5,none⟩=some (.int .i64 p.limit)/\w'.cell? ⟨w.heap.size,6,none⟩=some (.slice x.l p.left.length x.lc)/\w'.cell? ⟨w.heap.size,7,none⟩=some (.slice x.r p.right.length x.rc)/\w'.cell? ⟨w.heap.size,8,none⟩=some (.slice x.lk p.lkeys.length x.lkc)/\w'.cell? ⟨w.heap.size,9,none⟩=some (.slice x.rk p.rkeys.length x.rkc)/\w'.cell? ⟨w.heap.size,10,none⟩=some (.bool p.grouped)/\w'.cell? ⟨w.heap.size,11,none⟩=some (.slice x.g p.group.length x.gc)/\w'.cell? ⟨w.heap.size,12,none⟩=some (.slice x.a p.aggs.length x.ac)):=fun w' hz=>⟨cLz hz x3,cLz hz v0,cLz hz v1,cLz hz v2,cLz hz v3,cLz hz v4,cLz hz v5,cLz hz v6,cLz hz v7,cLz hz v8,cLz hz v9,cLz hz v10,cLz hz v11,cLz hz v12⟩
     clear hhq hrl hre hkh hkb hsS hfin x5
     clear v0 v1 v2 v3 v4 v5 v6 v7 v8 v9 v10 v11 v12
     by_cases hge:sS<=sq
     ·have HNO:Hid (Bx p s=false):=HNB.out (.inl hge)
      clear HNB HNX KIN KKF KRE HRB
      go_upto_region 24 with fail
      refine gr.BI (S:=fun w'=>w'.cell? ⟨lb,lo+j * 5+1+1,none⟩=some (.int .i64 sq)/\w'.cell? ⟨w.heap.size+1,8,none⟩=some (.int .i64 sS)/\w'.cell? ⟨lb,lo+j * 5+1+1+1,none⟩=some (.slice ra rl rc)/\w'.cell? ⟨w.heap.size,0,none⟩=some (.int .i64 p.kind)/\w'.cell? ⟨w.heap.size,1,none⟩=some (.int .i64 p.mode)/\w'.cell? ⟨w.heap.size,2,none⟩=some (.int .i64 p.low)/\w'.cell? ⟨w.heap.size,3,none⟩=some (.int .i64 p.high)/\w'.cell? ⟨w.heap.size,4,none⟩=some (.int .i64 p.size)/\w'.cell? ⟨w.heap.size,5,none⟩=some (.int .i64 p.limit)/\w'.cell? ⟨w.heap.size,6,none⟩=some (.slice x.l p.left.length x.lc)/\w'.cell? ⟨w.heap.size,7,none⟩=some (.slice x.r p.right.length x.rc)/\w'.cell? ⟨w.heap.size,8,none⟩=some (.slice x.lk p.lkeys.length x.lkc)/\w'.cell? ⟨w.heap.size,9,none⟩=some (.slice x.rk p.rkeys.length x.rkc)/\w'.cell? ⟨w.heap.size,10,none⟩=some (.bool p.grouped)/\w'.cell? ⟨w.heap.size,11,none⟩=some (.slice x.g p.group.length x.gc)/\w'.cell? ⟨w.heap.size,12,none⟩=some (.slice x.a p.aggs.length x.ac)) 19 rfl hmx (SK24.out _ bR.drew) ?_
      intro hHz
      refine tkz 0 80 hHz ?_;refine tkz 1 81 hHz ?_;refine tkz 2 82 hHz ?_;refine tkz 3 83 hHz ?_;refine tkz 4 84 hHz ?_;refine tkz 5 85 hHz ?_;refine tkz 6 86 hHz ?_;refine tkz 7 87 hHz ?_;refine tkz 8 88 hHz ?_;refine sk 9 89 hHz ?_;refine sk 10 90 hHz ?_;refine sk 11 91 hHz ?_;refine sk 12 92 hHz ?_;refine sk 13 93 hHz ?_;refine sk 14 94 hHz ?_;refine sk 15 95 hHz ?_;refine sk 16 96 hHz ?_;refine sk 17 97 hHz ?_;refine tkz 18 98 hHz ?_
      refine wpAnyH_done (by kernel_rfl) ?_ _
      go_wp2
      go_ret
      exact⟨bf.Ad (HE1.out HNO.out).symm,bwr.drew⟩
     ·by_cases hr0:re=0
      ·subst hr0
       go_upto_region 24 with fail
       refine gr.BI (S:=fun w'=>w'.cell? ⟨lb,lo+j * 5+1+1,none⟩=some (.int .i64 sq)/\w'.cell? ⟨w.heap.size+1,8,none⟩=some (.int .i64 sS)/\w'.cell? ⟨lb,lo+j * 5+1+1+1,none⟩=some (.slice ra rl rc)/\w'.cell? ⟨w.heap.size,0,none⟩=some (.int .i64 p.kind)/\w'.cell? ⟨w.heap.size,1,none⟩=some (.int .i64 p.mode)/\w'.cell? ⟨w.heap.size,2,none⟩=some (.int .i64 p.low)/\w'.cell? ⟨w.heap.size,3,none⟩=some (.int .i64 p.high)/\w'.cell? ⟨w.heap.size,4,none⟩=some (.int .i64 p.size)/\w'.cell? ⟨w.heap.size,5,none⟩=some (.int .i64 p.limit)/\w'.cell? ⟨w.heap.size,6,none⟩=some (.slice x.l p.left.length x.lc)/\w'.cell? ⟨w.heap.size,7,none⟩=some (.slice x.r p.right.length x.rc)/\w'.cell? ⟨w.heap.size,8,none⟩=some (.slice x.lk p.lkeys.length x.lkc)/\w'.cell? ⟨w.heap.size,9,none⟩=some (.slice x.rk p.rkeys.length x.rkc)/\w'.cell? ⟨w.heap.size,10,none⟩=some (.bool p.grouped)/\w'.cell? ⟨w.heap.size,11,none⟩=some (.slice x.g p.group.length x.gc)/\w'.cell? ⟨w.heap.size,12,none⟩=some (.slice x.a p.aggs.length x.ac)) 19 rfl hmx (SK24.out _ bR.drew) ?_
       intro hHz
       refine tkz 0 80 hHz ?_;refine tkz 1 81 hHz ?_;refine tkz 2 82 hHz ?_;refine tkz 3 83 hHz ?_;refine tkz 4 84 hHz ?_;refine tkz 5 85 hHz ?_;refine tkz 6 86 hHz ?_;refine tkz 7 87 hHz ?_;refine tkz 8 88 hHz ?_;refine tkz 9 89 hHz ?_;refine tkz 10 90 hHz ?_;refine tkz 11 91 hHz ?_;refine tkz 12 92 hHz ?_;refine tkz 13 93 hHz ?_;refine tkz 14 94 hHz ?_;refine tkz 15 95 hHz ?_
       refine wpAnyH_ready (rs:=[16]) (by kernel_rfl) (by simp) ?_
       refine AllReadyH.cons rfl (fun K hK=>?_) AllReadyH.nil
       go_simp
       go_at_call 44
       refine(KRE.out _ bR.drew).mono ?_
       rintro e w4 ⟨rfl,hb4⟩
       have hn4:Bwz wr w4:=bR.drew.trans hb4
       go_wp2_with fail
       refine hK.out _ _ (SK24.out _ hn4) (fun hHz=>?_)
       clear hK K
       try simp only[Act.put,sI,sZ,sSz]
       refine tkz 17 97 hHz ?_;refine tkz 18 98 hHz ?_
       refine wpAnyH_done (by kernel_rfl) ?_ _
       go_upto_region 26 with fail
       replace KKF:Hid (∀w1,Bwz wr w1->Calls Tryz.prog 45 #[pl.Ap p x,.int .i64 1,.slice ra rl rc] w1 fun e w'=>e= .returned (.tuple #[.string kb,.bool kh])/\Bwz w1 w'):=KKF.out (by trivial)
       refine gr.BI (S:=fun w'=>w'.cell? ⟨lb,lo+j * 5+1+1+1,none⟩=some (.slice ra rl rc)/\w'.cell? ⟨w.heap.size,0,none⟩=some (.int .i64 p.kind)/\w'.cell? ⟨w.heap.size,1,none⟩=some (.int .i64 p.mode)/\w'.cell? ⟨w.heap.size,2,none⟩=some (.int .i64 p.low)/\w'.cell? ⟨w.heap.size,3,none⟩=some (.int .i64 p.high)/\w'.cell? ⟨w.heap.size,4,none⟩=some (.int .i64 p.size)/\w'.cell? ⟨w.heap.size,5,none⟩=some (.int .i64 p.limit)/\w'.cell? ⟨w.heap.size,6,none⟩=some (.slice x.l p.left.length x.lc)/\w'.cell? ⟨w.heap.size,7,none⟩=some (.slice x.r p.right.length x.rc)/\w'.cell? ⟨w.heap.size,8,none⟩=some (.slice x.lk p.lkeys.length x.lkc)/\w'.cell? ⟨w.heap.size,9,none⟩=some (.slice x.rk p.rkeys.length x.rkc)/\w'.cell? ⟨w.heap.size,10,none⟩=some (.bool p.grouped)/\w'.cell? ⟨w.heap.size,11,none⟩=some (.slice x.g p.group.length x.gc)/\w'.cell? ⟨w.heap.size,12,none⟩=some (.slice x.a p.aggs.length x.ac)) 13 rfl hmx (SK26.out _ hn4.drew) ?_
       intro hHz
       refine tkz 0 100 hHz ?_;refine tkz 1 101 hHz ?_;refine tkz 2 102 hHz ?_;refine tkz 3 103 hHz ?_;refine tkz 4 104 hHz ?_;refine tkz 5 105 hHz ?_;refine tkz 6 106 hHz ?_
       refine wpAnyH_ready (rs:=[7]) (by kernel_rfl) (by simp) ?_
       refine AllReadyH.cons rfl (fun K hK=>?_) AllReadyH.nil
       go_simp
       go_at_call 45
       refine(KKF.out _ hn4.drew).mono ?_
       rintro e w5 ⟨rfl,hb5⟩
       have hn5:Bwz wr w5:=hn4.drew.trans (hb5.mono hn4.drew.size)
       go_wp2_with fail
       refine hK.out _ _ (SK26.out _ hn5) (fun hHz=>?_)
       clear hK K
       try simp only[Act.put,sI,sZ,sSz]
       refine tkz 8 99 hHz ?_;refine tkz 9 108 hHz ?_;refine tkz 10 109 hHz ?_;refine tkz 11 12 hHz ?_;refine tkz 12 13 hHz ?_
       refine wpAnyH_done (by kernel_rfl) ?_ _
       have y0:=cLz hn5 x0
       have y2:=cLz hn5 x2
       cases kh with
       |false=>
        have HNO:Hid (Bx p s=false):=HNB.out (.inr (.inl (by rw[HRB.out];simp)))
        clear HNB HNX KIN HRB
        go_wp2
        go_ret
        exact⟨bf.Ad (HE1.out HNO.out).symm,bwr.trans (hn5.mono bwr.size)⟩
       |true=>
        by_cases hke:kb=yk
        ·have HRY:Hid (DF p 1 ⟨yk,yt,sq,yr,ym⟩=true):=by
          show _=_
          rw[HRB.out,decide_eq_true hke]
          rfl
         have t1:(kb.toList==yk.toList)=true:=by rw[hke];simp
         have t2:(kb.toList !=yk.toList)=false:=by rw[hke];simp
         clear hke HRB
         go_wp2_with fail
         refine(KIN.out _ hn5).mono ?_
         rintro e w6 ⟨⟨hh,es',l',rfl,ho6,hp6,hg6⟩,hb6,hl6⟩
         have bw6:Bwz W0 w6:=(hb0r.trans (hn5.mono hb0r.size)).trans hb6
         cases hq with
         |true=>
          have HNO:Hid (Bx p s=false):=HNB.out (.inr (.inr rfl))
          clear HNB HNX hp6
          unfold hdV
          go_wp2
          go_ret
          exact⟨bf.Ad (HE1.out HNO.out).symm,bw0.trans (bw6.mono bw0.size)⟩
         |false=>
          obtain⟨hp7,hr7⟩:=hp6 rfl
          have HC7:=HNX.out l' (by omega) HRY.out (by trivial) hp7 hr7
          have HK6:Hid (EN W2 w6 b0):=Lv (Js HKX.out hn5) hl6 HBK.out
          have HG6:Hid (∀g,(hdV hh).ownBlock=some g->b0=some g\/W2.heap.size<=g):=fun g hg=>by
           rcases hg6 g hg with k|k
           ·exact HBK.out g k
           ·exact .inr (Nat.le_trans (Nat.le_trans HKX.out.1 hn5.size) k)
          have HO6:Hid (OE w6 W0.heap.size (hdV hh) es' l'):=ho6
          have HC8:Hid (CJ p s ((BH A B).take (j+1)) l'):=HC7
          clear hp6 hp7 hr7 hg6 hl6 ho6 HC7 HNX HNB
          unfold hdV at HO6 HG6⊢
          go_wp2
          go_roundw
          case rel=>exact⟨j+1,es',l',by omega,by go_num,HO6.out,HC8.out,HK6.out,HG6.out,bw6⟩
          case measure=>simp[intOf];omega
        ·have HNO:Hid (Bx p s=false):=HNB.out (.inr (.inl (by rw[HRB.out,decide_eq_false hke];simp)))
         have t1:(kb.toList==yk.toList)=false:=by
          have:=bytes_beq kb yk
          rw[beq_eq_false_iff_ne]
          intro e
          rw[e]at this
          exact hke (by simpa using this.symm)
         have t2:(kb.toList !=yk.toList)=true:=by simpa using t1
         clear HNB HNX KIN HRB hke
         go_wp2
         go_ret
         exact⟨bf.Ad (HE1.out HNO.out).symm,bwr.trans (hn5.mono bwr.size)⟩
      ·have hrn:(re !=0)=true:=by simpa using hr0
       have HNO:Hid (Bx p s=false):=HNB.out (.inr (.inl (by rw[HRB.out,decide_eq_false hr0];simp)))
       clear HNB HNX KIN KKF HRB hr0
       go_upto_region 24 with fail
       refine gr.BI (S:=fun w'=>w'.cell? ⟨lb,lo+j * 5+1+1,none⟩=some (.int .i64 sq)/\w'.cell? ⟨w.heap.size+1,8,none⟩=some (.int .i64 sS)/\w'.cell? ⟨lb,lo+j * 5+1+1+1,none⟩=some (.slice ra rl rc)/\w'.cell? ⟨w.heap.size,0,none⟩=some (.int .i64 p.kind)/\w'.cell? ⟨w.heap.size,1,none⟩=some (.int .i64 p.mode)/\w'.cell? ⟨w.heap.size,2,none⟩=some (.int .i64 p.low)/\w'.cell? ⟨w.heap.size,3,none⟩=some (.int .i64 p.high)/\w'.cell? ⟨w.heap.size,4,none⟩=some (.int .i64 p.size)/\w'.cell? ⟨w.heap.size,5,none⟩=some (.int .i64 p.limit)/\w'.cell? ⟨w.heap.size,6,none⟩=some (.slice x.l p.left.length x.lc)/\w'.cell? ⟨w.heap.size,7,none⟩=some (.slice x.r p.right.length x.rc)/\w'.cell? ⟨w.heap.size,8,none⟩=some (.slice x.lk p.lkeys.length x.lkc)/\w'.cell? ⟨w.heap.size,9,none⟩=some (.slice x.rk p.rkeys.length x.rkc)/\w'.cell? ⟨w.heap.size,10,none⟩=some (.bool p.grouped)/\w'.cell? ⟨w.heap.size,11,none⟩=some (.slice x.g p.group.length x.gc)/\w'.cell? ⟨w.heap.size,12,none⟩=some (.slice x.a p.aggs.length x.ac)) 19 rfl hmx (SK24.out _ bR.drew) ?_
       intro hHz
       refine tkz 0 80 hHz ?_;refine tkz 1 81 hHz ?_;refine tkz 2 82 hHz ?_;refine tkz 3 83 hHz ?_;refine tkz 4 84 hHz ?_;refine tkz 5 85 hHz ?_;refine tkz 6 86 hHz ?_;refine tkz 7 87 hHz ?_;refine tkz 8 88 hHz ?_;refine tkz 9 89 hHz ?_;refine tkz 10 90 hHz ?_;refine tkz 11 91 hHz ?_;refine tkz 12 92 hHz ?_;refine tkz 13 93 hHz ?_;refine tkz 14 94 hHz ?_;refine tkz 15 95 hHz ?_
       refine wpAnyH_ready (rs:=[16]) (by kernel_rfl) (by simp) ?_
       refine AllReadyH.cons rfl (fun K hK=>?_) AllReadyH.nil
       go_simp
       go_at_call 44
       refine(KRE.out _ bR.drew).mono ?_
       rintro e w4 ⟨rfl,hb4⟩
       have hn4:Bwz wr w4:=bR.drew.trans hb4
       go_wp2_with fail
       refine hK.out _ _ (SK24.out _ hn4) (fun hHz=>?_)
       clear hK K
       try simp only[Act.put,sI,sZ,sSz]
       refine tkz 17 97 hHz ?_;refine tkz 18 98 hHz ?_
       refine wpAnyH_done (by kernel_rfl) ?_ _
       go_wp2
       go_ret
       exact⟨bf.Ad (HE1.out HNO.out).symm,bwr.trans (hn4.mono bwr.size)⟩
    ·have hje:j=n:=by omega
     subst hje
     go_wp2
     go_roundw
     case rel=>exact⟨1,es1,q1,by omega,by go_num,HOEQ.out,by have:=HCJ.out;rw[show j=A.length from HNL.out.symm]at this;exact this,hb0r⟩
     case measure=>simp[intOf]
  |1,_,hcj=>
   have HCJ0:Hid (CJ p s ((BH A B).take (A.length+0)) q):=hcj
   clear hcj
   obtain⟨t0,t1,t2,t3,t4,t5,t6,t7,t8⟩:=Ag HBJ.out hb0r
   go_wp2_with fail
   refine(KALH.out _ bwr).mono ?_
   rintro e W1 ⟨⟨hh1,es1,rfl,ho1⟩,hb1⟩
   clear t0 t1 t2 t3 t4 t5 t6 t7 t8 ho1
   have hb01:Bwz W0 W1:=hb0r.trans (hb1.mono hb0r.size)
   have bwr1:Bwz w W1:=bwr.trans (hb1.mono bwr.size)
   have HOQ1:Hid (OE W1 W0.heap.size u8 es q):=HOQ.out.below hb1
   unfold hdV
   obtain⟨b0,hb0⟩:=nM u8.ownBlock
   have hlo:∀g,b0=some g->g<W1.heap.size:=fun g hg=>(bf.AD HOQ1.out.own (hb0.trans hg)).2
   obtain⟨t0,t1,t2,t3,t4,t5,t6,t7,t8⟩:=Ag HBJ.out hb01
   clear HOQ hb1 hb0r bwr
   go_wp2_with fail
   refine(KARH.out _ bwr1).mono ?_
   rintro e W2 ⟨⟨hh,es2,rfl,ho2⟩,hb2⟩
   clear t0 t1 t2 t3 t4 t5 t6 t7 t8
   obtain⟨g1,g2,g3⟩:=hh
   have hg2:g2=B.length:=(OE.entsAt ho2).1
   have HLW:Hid (∀wr',EN W2 wr' b0->QJ wr' g1 B):=fun wr' hk=>(OE.entsAt (Pi ho2 hk hlo)).2.1
   have HOQ2:Hid (OE W2 W0.heap.size u8 es q):=HOQ1.out.below hb2
   have HB00:Hid (∀g,u8.ownBlock=some g->b0=some g\/W2.heap.size<=g):=fun g hg=>.inl (hb0.symm.trans hg)
   have hb02:Bwz W0 W2:=hb01.trans (hb2.mono hb01.size)
   obtain⟨n,hn⟩:=nM B.length
   have HNL:Hid (B.length=n):=hn
   rw[hn]at hg2 fewB
   have hg3:=hg2.symm
   subst hg3
   have HFIN:Hid (∀z∈B,BE z.row/\z.row.length<=9223372036854775807):=HFB.out
   unfold hdV
   clear hn hb0 hlo ho2 HOQ1 hb2 hb01 bwr1 HFA HFB
   go_upto_region 22 with fail
   go_loopw [8,11,12,13,14] (fun v ii _ _ _ wr=> ∃(j:Nat) (es:List EM) (q:List Ent),j<=n/\ii= .int .i64 j/\OE wr W0.heap.size v es q/\CJ p s ((BH A B).take (A.length+j)) q/\EN W2 wr b0/\(∀g,v.ownBlock=some g->b0=some g\/W2.heap.size<=g)/\Bwz W0 wr) (fun _ ii _ _ _ _=>n - (intOf ii).toNat)
   case atStart=>exact⟨0,es,q,Nat.zero_le _,rfl,HOQ2.out,by exact HCJ0.out,Lu _ _,HB00.out,hb02⟩
   case round=>
    obtain⟨j,es1,q1,hjn,rfl,hoe,hcj,hkx,hbk,hb0r⟩:=hrel
    have HOEQ:Hid (OE wr W0.heap.size u8 es1 q1):=hoe
    have HCJ:Hid (CJ p s ((BH A B).take (A.length+j)) q1):=hcj
    have HKX:Hid (EN W2 wr b0):=hkx
    have HBK:Hid (∀g,u8.ownBlock=some g->b0=some g\/W2.heap.size<=g):=hbk
    have bwr:Bwz w wr:=bw0.trans (hb0r.mono bw0.size)
    clear hoe hcj hkx hbk
    by_cases hlt:j<n
    ·obtain⟨lb,lo,ra,rc,el,x0,x1,x2,x3,x4,x5⟩:=(HLW.out wr HKX.out) j (by rw[HNL.out];exact hlt)
     subst el
     obtain⟨tg1,tg2⟩:=WY (a:=A) (b:=B) (k:=j) (by rw[HNL.out];exact hlt)
     have hmem:B.getD j default∈B:=A1 (by rw[HNL.out];exact hlt)
     have hfin:=HFIN.out _ hmem
     have HNB:Hid ((s.seq<=(B.getD j default).seq\/DF p 2 (B.getD j default)=false\/hasB q1 (Ay (sqE (B.getD j default)))=true)->Bx p s=false):=fun hw=>R8 (k:=(A.length+j)) HPA.out HPB.out HCJ.out (by unfold BH;rw[lAp,lMp,lMp];have:=HNL.out;omega) (by rw[tg1];exact hw)
     have HNX:Hid (∀q',(B.getD j default).seq<s.seq->DF p 2 (B.getD j default)=true->hasB q1 (Ay (sqE (B.getD j default)))=false->q'.Perm (sqE (B.getD j default)::q1)->C9 q'->CJ p s ((BH A B).take (A.length+(j+1))) q'):=fun q' h1 h2 h3 h4 h5=>by
      rw[tg2]
      exact HCJ.out.more h1 h2 h3 h4 h5
     have hql:q1.length<=8192:=by
      rw[HCJ.out.perm.length_eq,lMp,List.length_take]
      have:=HTL.out
      omega
     obtain⟨yl,hyl⟩:=nM (B.getD j default)
     rw[hyl]at x0 x2 x3 x5 hfin HNB HNX
     clear tg1 tg2 hmem hyl x1 x4
     have HX5:Hid (vl.rowAt wr ra yl.row):=x5
     have HRB:Hid (DF p 2 yl=(decide (pl.AB p 2 yl.row=0)&&pl.hasB p 2 yl.row&&decide (pl.Aq p 2 yl.row=yl.key))):=rfl
     have KRE:Hid (∀w1,Bwz wr w1->CTz 44 #[pl.Ap p x,.int .i64 2,.slice ra yl.row.length rc] w1 fun e w'=>e= .returned (.int .i64 (pl.AB p 2 yl.row))/\Bwz w1 w'):=fun w1 hb=>by
      have bw1:Bwz w w1:=bwr.trans (hb.mono bwr.size)
      have:=pl.I7 p x 2 ra rc yl.row w1 HW.out.1 (pl.Af HW.out.2 bw1) HP0.out (vl.Ac HX5.out hb) hfin.1 hfin.2
      have e1:pl.AB p 2 yl.row=pl.Rj p 2 yl.row:=if_pos HP0.out
      rw[e1]
      exact this
     have KKF:Hid (pl.AB p 2 yl.row=0->∀w1,Bwz wr w1->CTz 45 #[pl.Ap p x,.int .i64 2,.slice ra yl.row.length rc] w1 fun e w'=>e= .returned (.tuple #[.string (pl.Aq p 2 yl.row),.bool (pl.hasB p 2 yl.row)])/\Bwz w1 w'):=fun h0 w1 hb=>by
      have bw1:Bwz w w1:=bwr.trans (hb.mono bwr.size)
      exact pl.Lk p x 2 ra rc yl.row w1 HW.out.1 (pl.Af HW.out.2 bw1) h0 (vl.Ac HX5.out hb) hfin.1 hfin.2
     have HSQE:Hid (Ay (sqE yl)=(⟨#[]⟩,0,yl.seq)):=rfl
     obtain⟨yk,yt,sq,yr,ym⟩:=yl
     dsimp only at x0 x2 x3 KRE KKF HNB HNX HRB HSQE hfin
     have KIN:Hid (∀w1,Bwz wr w1->CTz 46 #[u8,.agg #[.string ⟨#[]⟩,.int .i64 0,.int .i64 sq,.slice none 0 0,.bool false]] w1 fun r w'=>(∃(hh:Hdr) (es':List EM) (l':List Ent),r= .returned (.tuple #[hdV hh,.bool (!hasB q1 (Ay (sqE ⟨yk,yt,sq,yr,ym⟩)))])/\OE w' W0.heap.size (hdV hh) es' l'/\(hasB q1 (Ay (sqE ⟨yk,yt,sq,yr,ym⟩))=false->l'.Perm (sqE ⟨yk,yt,sq,yr,ym⟩::q1)/\C9 l')/\(∀g,(hdV hh).ownBlock=some g->u8.ownBlock=some g\/w1.heap.size<=g))/\Below W0.heap.size w1 w'/\bf.Left w1 w' W0.heap.size u8):=fun w1 hb=>by
      obtain⟨ad8,cap8,e8⟩:=HOEQ.out.form
      have ho:=HOEQ.out.below hb
      rw[e8]at ho⊢
      refine(It W0.heap.size ad8 cap8 es1 q1 ⟨⟨#[]⟩,0,sq,(none,0,0),false⟩ (sqE ⟨yk,yt,sq,yr,ym⟩) w1 ho (fun w2 _=>⟨rfl,rfl,rfl,rfl,rfl,fun i hi=>absurd hi (Nat.not_lt_zero i)⟩) HCJ.out.rise (by omega) (Nat.zero_le _)).mono ?_
      rintro r w' ⟨⟨hh,es',l',h1,h2,_,h3,h4⟩,h5,h6⟩
      exact⟨⟨hh,es',l',h1,h2,h3,h4⟩,h5,h6⟩
     obtain⟨hq,hhq⟩:=nM (hasB q1 (Ay (sqE ⟨yk,yt,sq,yr,ym⟩)))
     obtain⟨rl,hrl⟩:=nM yr.length
     obtain⟨re,hre⟩:=nM (pl.AB p 2 yr)
     obtain⟨kh,hkh⟩:=nM (pl.hasB p 2 yr)
     obtain⟨kb,hkb⟩:=nM (pl.Aq p 2 yr)
     rw[hhq]at HNB HNX KIN
     rw[hrl]at x3 KRE KKF
     rw[hre]at KRE KKF HRB
     rw[hkh,hkb]at KKF HRB
     obtain⟨sS,hsS⟩:=nM s.seq
     have HJ8:=(Ag HBJ.out hb0r).2.2.2.2.2.2.2.2
     rw[hsS]at HNB HNX HJ8
     obtain⟨v0,v1,v2,v3,v4,v5,v6,v7,v8,v9,v10,v11,v12⟩:=Aj HB.out hb0r
     have i1:(0:Int)<=(j:Int):=by omega
     have i2:(j:Int)<(n:Int):=by omega
     have SK24:Hid (∀w',Bwz wr w'->w'.cell? ⟨lb,lo+j * 5+1+1,none⟩=some (.int .i64 sq)/\w'.cell? ⟨w.heap.size+1,8,none⟩=some (.int .i64 sS)/\w'.cell? ⟨lb,lo+j * 5+1+1+1,none⟩=some (.slice ra rl rc)/\w'.cell? ⟨w.heap.size,0,none⟩=some (.int .i64 p.kind)/\w'.cell? ⟨w.heap.size,1,none⟩=some (.int .i64 p.mode)/\w'.cell? ⟨w.heap.size,2,none⟩=some (.int .i64 p.low)/\w'.cell? ⟨w.heap.size,3,none⟩=some (.int .i64 p.high)/\w'.cell? ⟨w.heap.size,4,none⟩=some (.int .i64 p.size)/\w'.cell? ⟨w.heap.size,5,none⟩=some (.int .i64 p.limit)/\w'.cell? ⟨w.heap.size,6,none⟩=some (.slice x.l p.left.length x.lc)/\w'.cell? ⟨w.heap.size,7,none⟩=some (.slice x.r p.right.length x.rc)/\w'.cell? ⟨w.heap.size,8,none⟩=some (.slice x.lk p.lkeys.length x.lkc)/\w'.cell? ⟨w.heap.size,9,none⟩=some (.slice x.rk p.rkeys.length x.rkc)/\w'.cell? ⟨w.heap.size,10,none⟩=some (.bool p.grouped)/\w'.cell? ⟨w.heap.size,11,none⟩=some (.slice x.g p.group.length x.gc)/\w'.cell? ⟨w.heap.size,12,none⟩=some (.slice x.a p.aggs.length x.ac)):=fun w' hz=>⟨cLz hz x2,cLz hz HJ8,cLz hz x3,cLz hz v0,cLz hz v1,cLz hz v2,cLz hz v3,cLz hz v4,cLz hz v5,cLz hz v6,cLz hz v7,cLz hz v8,cLz hz v9,cLz hz v10,cLz hz v11,cLz hz v12⟩
     have SK26:Hid (∀w',Bwz wr w'->w'.cell? ⟨lb,lo+j * 5+1+1+1,none⟩=some (.slice ra rl rc)/\w'.cell? ⟨w.heap.size,0,none⟩=some (.int .i64 p.kind)/\w'.cell? ⟨w.heap.size,1,none⟩=some (.int .i64 p.mode)/\w'.cell? ⟨w.heap.size,2,none⟩=some (.int .i64 p.low)/\w'.cell? ⟨w.heap.size,3,none⟩=some (.int .i64 p.high)/\w'.cell? ⟨w.heap.size,4,none⟩=some (.int .i64 p.size)/\w'.cell? ⟨w.heap.size,5,none⟩=some (.int .i64 p.limit)/\w'.cell? ⟨w.heap.size,6,none⟩=some (.slice x.l p.left.length x.lc)/\w'.cell? ⟨w.heap.size,7,none⟩=some (.slice x.r p.right.length x.rc)/\w'.cell? ⟨w.heap.size,8,none⟩=some (.slice x.lk p.lkeys.length x.lkc)/\w'.cell? ⟨w.heap.size,9,none⟩=some (.slice x.rk p.rkeys.length x.rkc)/\w'.cell? ⟨w.heap.size,10,none⟩=some (.bool p.grouped)/\w'.cell? ⟨w.heap.size,11,none⟩=some (.slice x.g p.group.length x.gc)/\w'.cell? ⟨w.heap.size,12,none⟩=some (.slice x.a p.aggs.length x.ac)):=fun w' hz=>⟨cLz hz x3,cLz hz v0,cLz hz v1,cLz hz v2,cLz hz v3,cLz hz v4,cLz hz v5,cLz hz v6,cLz hz v7,cLz hz v8,cLz hz v9,cLz hz v10,cLz hz v11,cLz hz v12⟩
     clear hhq hrl hre hkh hkb hsS hfin x5
     clear v0 v1 v2 v3 v4 v5 v6 v7 v8 v9 v10 v11 v12
     by_cases hge:sS<=sq
     ·have HNO:Hid (Bx p s=false):=HNB.out (.inl hge)
      clear HNB HNX KIN KKF KRE HRB
      go_upto_region 24 with fail
      refine gr.BI (S:=fun w'=>w'.cell? ⟨lb,lo+j * 5+1+1,none⟩=some (.int .i64 sq)/\w'.cell? ⟨w.heap.size+1,8,none⟩=some (.int .i64 sS)/\w'.cell? ⟨lb,lo+j * 5+1+1+1,none⟩=some (.slice ra rl rc)/\w'.cell? ⟨w.heap.size,0,none⟩=some (.int .i64 p.kind)/\w'.cell? ⟨w.heap.size,1,none⟩=some (.int .i64 p.mode)/\w'.cell? ⟨w.heap.size,2,none⟩=some (.int .i64 p.low)/\w'.cell? ⟨w.heap.size,3,none⟩=some (.int .i64 p.high)/\w'.cell? ⟨w.heap.size,4,none⟩=some (.int .i64 p.size)/\w'.cell? ⟨w.heap.size,5,none⟩=some (.int .i64 p.limit)/\w'.cell? ⟨w.heap.size,6,none⟩=some (.slice x.l p.left.length x.lc)/\w'.cell? ⟨w.heap.size,7,none⟩=some (.slice x.r p.right.length x.rc)/\w'.cell? ⟨w.heap.size,8,none⟩=some (.slice x.lk p.lkeys.length x.lkc)/\w'.cell? ⟨w.heap.size,9,none⟩=some (.slice x.rk p.rkeys.length x.rkc)/\w'.cell? ⟨w.heap.size,10,none⟩=some (.bool p.grouped)/\w'.cell? ⟨w.heap.size,11,none⟩=some (.slice x.g p.group.length x.gc)/\w'.cell? ⟨w.heap.size,12,none⟩=some (.slice x.a p.aggs.length x.ac)) 19 rfl hmx (SK24.out _ bR.drew) ?_
      intro hHz
      refine tkz 0 80 hHz ?_;refine tkz 1 81 hHz ?_;refine tkz 2 82 hHz ?_;refine tkz 3 83 hHz ?_;refine tkz 4 84 hHz ?_;refine tkz 5 85 hHz ?_;refine tkz 6 86 hHz ?_;refine tkz 7 87 hHz ?_;refine tkz 8 88 hHz ?_;refine sk 9 89 hHz ?_;refine sk 10 90 hHz ?_;refine sk 11 91 hHz ?_;refine sk 12 92 hHz ?_;refine sk 13 93 hHz ?_;refine sk 14 94 hHz ?_;refine sk 15 95 hHz ?_;refine sk 16 96 hHz ?_;refine sk 17 97 hHz ?_;refine tkz 18 98 hHz ?_
      refine wpAnyH_done (by kernel_rfl) ?_ _
      go_wp2
      go_ret
      exact⟨bf.Ad (HE1.out HNO.out).symm,bwr.drew⟩
     ·by_cases hr0:re=0
      ·subst hr0
       go_upto_region 24 with fail
       refine gr.BI (S:=fun w'=>w'.cell? ⟨lb,lo+j * 5+1+1,none⟩=some (.int .i64 sq)/\w'.cell? ⟨w.heap.size+1,8,none⟩=some (.int .i64 sS)/\w'.cell? ⟨lb,lo+j * 5+1+1+1,none⟩=some (.slice ra rl rc)/\w'.cell? ⟨w.heap.size,0,none⟩=some (.int .i64 p.kind)/\w'.cell? ⟨w.heap.size,1,none⟩=some (.int .i64 p.mode)/\w'.cell? ⟨w.heap.size,2,none⟩=some (.int .i64 p.low)/\w'.cell? ⟨w.heap.size,3,none⟩=some (.int .i64 p.high)/\w'.cell? ⟨w.heap.size,4,none⟩=some (.int .i64 p.size)/\w'.cell? ⟨w.heap.size,5,none⟩=some (.int .i64 p.limit)/\w'.cell? ⟨w.heap.size,6,none⟩=some (.slice x.l p.left.length x.lc)/\w'.cell? ⟨w.heap.size,7,none⟩=some (.slice x.r p.right.length x.rc)/\w'.cell? ⟨w.heap.size,8,none⟩=some (.slice x.lk p.lkeys.length x.lkc)/\w'.cell? ⟨w.heap.size,9,none⟩=some (.slice x.rk p.rkeys.length x.rkc)/\w'.cell? ⟨w.heap.size,10,none⟩=some (.bool p.grouped)/\w'.cell? ⟨w.heap.size,11,none⟩=some (.slice x.g p.group.length x.gc)/\w'.cell? ⟨w.heap.size,12,none⟩=some (.slice x.a p.aggs.length x.ac)) 19 rfl hmx (SK24.out _ bR.drew) ?_
       intro hHz
       refine tkz 0 80 hHz ?_;refine tkz 1 81 hHz ?_;refine tkz 2 82 hHz ?_;refine tkz 3 83 hHz ?_;refine tkz 4 84 hHz ?_;refine tkz 5 85 hHz ?_;refine tkz 6 86 hHz ?_;refine tkz 7 87 hHz ?_;refine tkz 8 88 hHz ?_;refine tkz 9 89 hHz ?_;refine tkz 10 90 hHz ?_;refine tkz 11 91 hHz ?_;refine tkz 12 92 hHz ?_;refine tkz 13 93 hHz ?_;refine tkz 14 94 hHz ?_;refine tkz 15 95 hHz ?_
       refine wpAnyH_ready (rs:=[16]) (by kernel_rfl) (by simp) ?_
       refine AllReadyH.cons rfl (fun K hK=>?_) AllReadyH.nil
       go_simp
       go_at_call 44
       refine(KRE.out _ bR.drew).mono ?_
       rintro e w4 ⟨rfl,hb4⟩
       have hn4:Bwz wr w4:=bR.drew.trans hb4
       go_wp2_with fail
       refine hK.out _ _ (SK24.out _ hn4) (fun hHz=>?_)
       clear hK K
       try simp only[Act.put,sI,sZ,sSz]
       refine tkz 17 97 hHz ?_;refine tkz 18 98 hHz ?_
       refine wpAnyH_done (by kernel_rfl) ?_ _
       go_upto_region 26 with fail
       replace KKF:Hid (∀w1,Bwz wr w1->Calls Tryz.prog 45 #[pl.Ap p x,.int .i64 2,.slice ra rl rc] w1 fun e w'=>e= .returned (.tuple #[.string kb,.bool kh])/\Bwz w1 w'):=KKF.out (by trivial)
       refine gr.BI (S:=fun w'=>w'.cell? ⟨lb,lo+j * 5+1+1+1,none⟩=some (.slice ra rl rc)/\w'.cell? ⟨w.heap.size,0,none⟩=some (.int .i64 p.kind)/\w'.cell? ⟨w.heap.size,1,none⟩=some (.int .i64 p.mode)/\w'.cell? ⟨w.heap.size,2,none⟩=some (.int .i64 p.low)/\w'.cell? ⟨w.heap.size,3,none⟩=some (.int .i64 p.high)/\w'.cell? ⟨w.heap.size,4,none⟩=some (.int .i64 p.size)/\w'.cell? ⟨w.heap.size,5,none⟩=some (.int .i64 p.limit)/\w'.cell? ⟨w.heap.size,6,none⟩=some (.slice x.l p.left.length x.lc)/\w'.cell? ⟨w.heap.size,7,none⟩=some (.slice x.r p.right.length x.rc)/\w'.cell? ⟨w.heap.size,8,none⟩=some (.slice x.lk p.lkeys.length x.lkc)/\w'.cell? ⟨w.heap.size,9,none⟩=some (.slice x.rk p.rkeys.length x.rkc)/\w'.cell? ⟨w.heap.size,10,none⟩=some (.bool p.grouped)/\w'.cell? ⟨w.heap.size,11,none⟩=some (.slice x.g p.group.length x.gc)/\w'.cell? ⟨w.heap.size,12,none⟩=some (.slice x.a p.aggs.length x.ac)) 13 rfl hmx (SK26.out _ hn4.drew) ?_
       intro hHz
       refine tkz 0 100 hHz ?_;refine tkz 1 101 hHz ?_;refine tkz 2 102 hHz ?_;refine tkz 3 103 hHz ?_;refine tkz 4 104 hHz ?_;refine tkz 5 105 hHz ?_;refine tkz 6 106 hHz ?_
       refine wpAnyH_ready (rs:=[7]) (by kernel_rfl) (by simp) ?_
       refine AllReadyH.cons rfl (fun K hK=>?_) AllReadyH.nil
       go_simp
       go_at_call 45
       refine(KKF.out _ hn4.drew).mono ?_
       rintro e w5 ⟨rfl,hb5⟩
       have hn5:Bwz wr w5:=hn4.drew.trans (hb5.mono hn4.drew.size)
       go_wp2_with fail
       refine hK.out _ _ (SK26.out _ hn5) (fun hHz=>?_)
       clear hK K
       try simp only[Act.put,sI,sZ,sSz]
       refine tkz 8 99 hHz ?_;refine tkz 9 108 hHz ?_;refine tkz 10 109 hHz ?_;refine tkz 11 12 hHz ?_;refine tkz 12 13 hHz ?_
       refine wpAnyH_done (by kernel_rfl) ?_ _
       have y0:=cLz hn5 x0
       have y2:=cLz hn5 x2
       cases kh with
       |false=>
        have HNO:Hid (Bx p s=false):=HNB.out (.inr (.inl (by rw[HRB.out];simp)))
        clear HNB HNX KIN HRB
        go_wp2
        go_ret
        exact⟨bf.Ad (HE1.out HNO.out).symm,bwr.trans (hn5.mono bwr.size)⟩
       |true=>
        by_cases hke:kb=yk
        ·have HRY:Hid (DF p 2 ⟨yk,yt,sq,yr,ym⟩=true):=by
          show _=_
          rw[HRB.out,decide_eq_true hke]
          rfl
         have t1:(kb.toList==yk.toList)=true:=by rw[hke];simp
         have t2:(kb.toList !=yk.toList)=false:=by rw[hke];simp
         clear hke HRB
         go_wp2_with fail
         refine(KIN.out _ hn5).mono ?_
         rintro e w6 ⟨⟨hh,es',l',rfl,ho6,hp6,hg6⟩,hb6,hl6⟩
         have bw6:Bwz W0 w6:=(hb0r.trans (hn5.mono hb0r.size)).trans hb6
         cases hq with
         |true=>
          have HNO:Hid (Bx p s=false):=HNB.out (.inr (.inr rfl))
          clear HNB HNX hp6
          unfold hdV
          go_wp2
          go_ret
          exact⟨bf.Ad (HE1.out HNO.out).symm,bw0.trans (bw6.mono bw0.size)⟩
         |false=>
          obtain⟨hp7,hr7⟩:=hp6 rfl
          have HC7:=HNX.out l' (by omega) HRY.out (by trivial) hp7 hr7
          have HK6:Hid (EN W2 w6 b0):=Lv (Js HKX.out hn5) hl6 HBK.out
          have HG6:Hid (∀g,(hdV hh).ownBlock=some g->b0=some g\/W2.heap.size<=g):=fun g hg=>by
           rcases hg6 g hg with k|k
           ·exact HBK.out g k
           ·exact .inr (Nat.le_trans (Nat.le_trans HKX.out.1 hn5.size) k)
          have HO6:Hid (OE w6 W0.heap.size (hdV hh) es' l'):=ho6
          have HC8:Hid (CJ p s ((BH A B).take (A.length+(j+1))) l'):=HC7
          clear hp6 hp7 hr7 hg6 hl6 ho6 HC7 HNX HNB
          unfold hdV at HO6 HG6⊢
          go_wp2
          go_roundw
          case rel=>exact⟨j+1,es',l',by omega,by go_num,HO6.out,HC8.out,HK6.out,HG6.out,bw6⟩
          case measure=>simp[intOf];omega
        ·have HNO:Hid (Bx p s=false):=HNB.out (.inr (.inl (by rw[HRB.out,decide_eq_false hke];simp)))
         have t1:(kb.toList==yk.toList)=false:=by
          have:=bytes_beq kb yk
          rw[beq_eq_false_iff_ne]
          intro e
          rw[e]at this
          exact hke (by simpa using this.symm)
         have t2:(kb.toList !=yk.toList)=true:=by simpa using t1
         clear HNB HNX KIN HRB hke
         go_wp2
         go_ret
         exact⟨bf.Ad (HE1.out HNO.out).symm,bwr.trans (hn5.mono bwr.size)⟩
      ·have hrn:(re !=0)=true:=by simpa using hr0
       have HNO:Hid (Bx p s=false):=HNB.out (.inr (.inl (by rw[HRB.out,decide_eq_false hr0];simp)))
       clear HNB HNX KIN KKF HRB hr0
       go_upto_region 24 with fail
       refine gr.BI (S:=fun w'=>w'.cell? ⟨lb,lo+j * 5+1+1,none⟩=some (.int .i64 sq)/\w'.cell? ⟨w.heap.size+1,8,none⟩=some (.int .i64 sS)/\w'.cell? ⟨lb,lo+j * 5+1+1+1,none⟩=some (.slice ra rl rc)/\w'.cell? ⟨w.heap.size,0,none⟩=some (.int .i64 p.kind)/\w'.cell? ⟨w.heap.size,1,none⟩=some (.int .i64 p.mode)/\w'.cell? ⟨w.heap.size,2,none⟩=some (.int .i64 p.low)/\w'.cell? ⟨w.heap.size,3,none⟩=some (.int .i64 p.high)/\w'.cell? ⟨w.heap.size,4,none⟩=some (.int .i64 p.size)/\w'.cell? ⟨w.heap.size,5,none⟩=some (.int .i64 p.limit)/\w'.cell? ⟨w.heap.size,6,none⟩=some (.slice x.l p.left.length x.lc)/\w'.cell? ⟨w.heap.size,7,none⟩=some (.slice x.r p.right.length x.rc)/\w'.cell? ⟨w.heap.size,8,none⟩=some (.slice x.lk p.lkeys.length x.lkc)/\w'.cell? ⟨w.heap.size,9,none⟩=some (.slice x.rk p.rkeys.length x.rkc)/\w'.cell? ⟨w.heap.size,10,none⟩=some (.bool p.grouped)/\w'.cell? ⟨w.heap.size,11,none⟩=some (.slice x.g p.group.length x.gc)/\w'.cell? ⟨w.heap.size,12,none⟩=some (.slice x.a p.aggs.length x.ac)) 19 rfl hmx (SK24.out _ bR.drew) ?_
       intro hHz
       refine tkz 0 80 hHz ?_;refine tkz 1 81 hHz ?_;refine tkz 2 82 hHz ?_;refine tkz 3 83 hHz ?_;refine tkz 4 84 hHz ?_;refine tkz 5 85 hHz ?_;refine tkz 6 86 hHz ?_;refine tkz 7 87 hHz ?_;refine tkz 8 88 hHz ?_;refine tkz 9 89 hHz ?_;refine tkz 10 90 hHz ?_;refine tkz 11 91 hHz ?_;refine tkz 12 92 hHz ?_;refine tkz 13 93 hHz ?_;refine tkz 14 94 hHz ?_;refine tkz 15 95 hHz ?_
       refine wpAnyH_ready (rs:=[16]) (by kernel_rfl) (by simp) ?_
       refine AllReadyH.cons rfl (fun K hK=>?_) AllReadyH.nil
       go_simp
       go_at_call 44
       refine(KRE.out _ bR.drew).mono ?_
       rintro e w4 ⟨rfl,hb4⟩
       have hn4:Bwz wr w4:=bR.drew.trans hb4
       go_wp2_with fail
       refine hK.out _ _ (SK24.out _ hn4) (fun hHz=>?_)
       clear hK K
       try simp only[Act.put,sI,sZ,sSz]
       refine tkz 17 97 hHz ?_;refine tkz 18 98 hHz ?_
       refine wpAnyH_done (by kernel_rfl) ?_ _
       go_wp2
       go_ret
       exact⟨bf.Ad (HE1.out HNO.out).symm,bwr.trans (hn4.mono bwr.size)⟩
    ·have hje:j=n:=by omega
     subst hje
     go_wp2
     go_roundw
     case rel=>exact⟨2,es1,q1,by omega,by go_num,HOEQ.out,by have:=HCJ.out;rw[show j=B.length from HNL.out.symm]at this;exact this,hb0r⟩
     case measure=>simp[intOf]
  |2,_,hcj=>
   have HCJ0:Hid (CJ p s (BH A B) q):=by
    have:mkK A.length B.length 2=(BH A B).length:=by unfold BH;rw[lAp,lMp,lMp];rfl
    rw[this,List.take_length]at hcj
    exact hcj
   have HYS:Hid (Bx p s=true):=UH HPA.out HPB.out HLY.out HCJ0.out
   clear hcj
   go_wp2
   go_ret
   exact⟨bf.Ad (HE0.out HYS.out).symm,bwr⟩
end jn
end Go.Proofs.YtdohnkkbkfhphaaGreat
