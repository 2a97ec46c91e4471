import Derived.Test.YtdohnkkbkfhphaaGreatPq15
set_option linter.all false
set_option maxHeartbeats 8000000
set_option maxRecDepth 100000
namespace Go.Proofs.YtdohnkkbkfhphaaGreat
open Go.Proofs.Tryz
namespace jn
open Go.ChangeShapes Go.WideShapes Go.ChangeAt Go.RowKit
open vl bf
attribute [local go_sem] Oper.semAt_some
variable {W w : World} {N b base : Nat} {T : TypeId} {v : Value} {x : BX} {s : Jn} {y : JX}
structure calmT(T:TypeId):Prop where
 e:T≠63
 v:T≠103
 h:T≠26
theorem PZ{es:List EM}{l:List Ent}(h:OE w base v es l)(hN:An w N T)(hT:calmT T)(k:Nat)(u:Value):OE (w.setCell ⟨N,k,none⟩ u) base v es l:=
 h.other (by simp[World.setCell]) (fun g hg=>heap_setCell_other _ _ _ _ (by
  rcases hg with hg|hg
  ·exact tyAt_apart hg hN hT.e.symm
  ·exact tyAt_apart hg hN hT.v.symm))
theorem Es{b:Buf}(h:OB w base x b)(hN:An w N T)(hT:calmT T)(k:Nat)(u:Value):OB (w.setCell ⟨N,k,none⟩ u) base x b:=
 ⟨by simp[World.setCell];exact h.low,PZ h.mem hN hT k u,A2 h.hds (fun g hg=>heap_setCell_other _ _ _ _ (tyAt_apart (A7 h.hds hg) hN hT.h.symm)),h.rlen,fun i hi=>PZ (h.runs i hi) hN hT k u,h.two⟩
theorem Be{base N:Nat}{T:TypeId}{x:BX}{b:Buf}(hT:calmT T):∀(l:List Value) (o:Nat) (w:World),OB w base x b->An w N T->OB (w.setCells N o l) base x b
 |[],_,_,h,_=>h
 |v::l,o,w,h,hN=>Be hT l (o+1) _ (Es h hN hT o v) (AC hN _ _)
theorem DP{b N:Nat}{T:TypeId}:∀(l:List Value) (o:Nat) (w:World),An w b T->An (w.setCells N o l) b T
 |[],_,_,h=>h
 |v::l,o,w,h=>DP l (o+1) _ (AC h _ _)
theorem VI:(Tryz.prog.info? 29).map (·.size)=some 3:=by kernel_rfl
theorem size_setCells(N:Nat):∀(l:List Value) (o:Nat) (w:World),(w.setCells N o l).heap.size=w.heap.size
 |[],_,_=>rfl
 |v::l,o,w=>(size_setCells N l (o+1) _).trans (by simp[World.setCell])
theorem DW:calmT 31:=⟨by decide,by decide,by decide⟩
theorem WQ(w:World)(c:Fin 9->Value)(h:∀i,(c i).oneCell'=true)(t:TypeId):(w.alloc (.cells #[c 0,c 1,c 2,c 3,c 4,c 5,c 6,c 7,c 8] t)).there w.heap.size 0 9:=by
 intro j hj
 match j,hj with
 |0,_=>exact⟨by go_simp,by go_simp⟩
 |1,_=>exact⟨by go_simp,by go_simp⟩
 |2,_=>exact⟨by go_simp,by go_simp⟩
 |3,_=>exact⟨by go_simp,by go_simp⟩
 |4,_=>exact⟨by go_simp,by go_simp⟩
 |5,_=>exact⟨by go_simp,by go_simp⟩
 |6,_=>exact⟨by go_simp,by go_simp⟩
 |7,_=>exact⟨by go_simp,by go_simp⟩
 |8,_=>exact⟨by go_simp,by go_simp⟩
theorem Rj(h:BT W b s y)(hr:W.there b 0 9)(z:BX):BT (W.setCells b 0 [.int .i64 s.L.lim,.slice z.m.1.1 z.m.1.2.1 z.m.1.2.2,.slice z.ra z.rs.length z.rc]) b s ⟨z,y.r⟩:=by
 have hs:=World.rangeAt_setCells_same W b 0 [.int .i64 s.L.lim,.slice z.m.1.1 z.m.1.2.1 z.m.1.2.2,.slice z.ra z.rs.length z.rc] (fun j hj=>by
  have:=hr (0+j) (by simp at hj;omega)
  simpa using this)
 have ho:∀i,i<0\/3<=i->(W.setCells b 0 [.int .i64 s.L.lim,.slice z.m.1.1 z.m.1.2.1 z.m.1.2.2,.slice z.ra z.rs.length z.rc]).cell? ⟨b,i,none⟩=W.cell? ⟨b,i,none⟩:=fun i hi=>World.cell?_setCells_out b _ 0 W ⟨b,i,none⟩ (fun _ _=>by simpa using hi)
 obtain⟨u0,u1,u2,u3,u4,u5,u6,u7,u8⟩:=h
 refine⟨?_,?_,?_,?_,?_,?_,?_,?_,?_⟩
 ·exact hs 0 _ rfl
 ·exact hs 1 _ rfl
 ·exact hs 2 _ rfl
 ·rw[ho 3 (by omega)];exact u3
 ·rw[ho 4 (by omega)];exact u4
 ·rw[ho 5 (by omega)];exact u5
 ·rw[ho 6 (by omega)];exact u6
 ·rw[ho 7 (by omega)];exact u7
 ·rw[ho 8 (by omega)];exact u8
theorem Rk(h:BT W b s y)(hr:W.there b 0 9)(z:BX):BT (W.setCells b 3 [.int .i64 s.R.lim,.slice z.m.1.1 z.m.1.2.1 z.m.1.2.2,.slice z.ra z.rs.length z.rc]) b s ⟨y.l,z⟩:=by
 have hs:=World.rangeAt_setCells_same W b 3 [.int .i64 s.R.lim,.slice z.m.1.1 z.m.1.2.1 z.m.1.2.2,.slice z.ra z.rs.length z.rc] (fun j hj=>by
  have:=hr (3+j) (by simp at hj;omega)
  simpa using this)
 have ho:∀i,i<3\/6<=i->(W.setCells b 3 [.int .i64 s.R.lim,.slice z.m.1.1 z.m.1.2.1 z.m.1.2.2,.slice z.ra z.rs.length z.rc]).cell? ⟨b,i,none⟩=W.cell? ⟨b,i,none⟩:=fun i hi=>World.cell?_setCells_out b _ 3 W ⟨b,i,none⟩ (fun _ _=>by simpa using hi)
 obtain⟨u0,u1,u2,u3,u4,u5,u6,u7,u8⟩:=h
 refine⟨?_,?_,?_,?_,?_,?_,?_,?_,?_⟩
 ·rw[ho 0 (by omega)];exact u0
 ·rw[ho 1 (by omega)];exact u1
 ·rw[ho 2 (by omega)];exact u2
 ·exact hs 0 _ rfl
 ·exact hs 1 _ rfl
 ·exact hs 2 _ rfl
 ·rw[ho 6 (by omega)];exact u6
 ·rw[ho 7 (by omega)];exact u7
 ·rw[ho 8 (by omega)];exact u8
def Tm(x1 x2:BX):Prop:=∀p∈x1.m::x1.rs,∀q∈x2.m::x2.rs,apB (hdV p.1) (hdV q.1)
theorem Qa{b:Buf}(h:OB w base x b){p:Part}(hp:p∈x.m::x.rs){g:Nat}(hg:(hdV p.1).ownBlock=some g):base<=g/\g<w.heap.size:=by
 have key:∀{v:Value} {es:List EM} {l:List Ent},OE w base v es l->v.ownBlock=some g->base<=g/\g<w.heap.size:=fun h hg=>AG h.own hg
 rcases List.mem_cons.1 hp with rfl|hp
 ·exact key h.mem hg
 ·obtain⟨i,hi,rfl⟩:=List.getElem_of_mem hp
  have e:x.rs.getD i default=x.rs[i]:=by rw[gDe,gEe hi];rfl
  have:=h.runs i (by rw[<-h.rlen];exact hi)
  rw[e]at this
  exact key this hg
theorem JC{w1 w2:World}{b1 b2:Nat}{x1 x2:BX}{c1 c2:Buf}(h1:OB w1 b1 x1 c1)(h2:OB w2 b2 x2 c2)(hb:w1.heap.size<=b2):Tm x1 x2:=fun p hp q hq g hg hg2=>by
 have:=(Qa h1 hp hg).2
 have:=(Qa h2 hq hg2).1
 omega
theorem OS(s:Jn)(y:JX)(w:World)(h:joinAt w s y)(hL:okB s.L)(hR:okB s.R):
 Calls Tryz.prog 91 #[joinV s y] w fun e w'=>(∃x1 x2,e= .returned (joinV s ⟨x1,x2⟩)/\OB w' w.heap.size x1 s.L/\OB w' w.heap.size x2 s.R/\Tm x1 x2)/\Bwz w w':=by
 have KL:Hid (∀w1,Bwz w w1->Calls Tryz.prog 145 #[AQ s.L y.l,.func (.func 59) #[] #[]] w1 fun e w'=>(∃x',e= .returned (AQ s.L x')/\OB w' w1.heap.size x' s.L)/\Bwz w1 w'):=fun w1 hb=>by
  have hk:=DA 59 (enters_of func59 (by kernel_rfl) rfl) #[] (fun _=>true) s.L y.l w1 (Ak h.l hb) hL.small.1 hL.small.2.1 hL.small.2.2 (fun e z w2 her _ hb2=>EY e w2)
  rw[GE hL]at hk
  exact hk
 have KR:Hid (∀w1,Bwz w w1->Calls Tryz.prog 145 #[AQ s.R y.r,.func (.func 59) #[] #[]] w1 fun e w'=>(∃x',e= .returned (AQ s.R x')/\OB w' w1.heap.size x' s.R)/\Bwz w1 w'):=fun w1 hb=>by
  have hk:=DA 59 (enters_of func59 (by kernel_rfl) rfl) #[] (fun _=>true) s.R y.r w1 (Ak h.r hb) hR.small.1 hR.small.2.1 hR.small.2.2 (fun e z w2 her _ hb2=>EY e w2)
  rw[GE hR]at hk
  exact hk
 clear h hL hR
 rw[AK]
 unfold AQ hdV at KL KR
 go_enter func91,ntmps91
 go_wp2_with fail
 generalize hV:(World.alloc (World.alloc w _) _)=V
 have hb0:Bwz w V:=by rw[<-hV];exact(bR.alloc nR _).alloc (by simp) _
 have hsz:V.heap.size=w.heap.size+1+1:=by rw[<-hV];simp
 have HJ:Hid (BT V w.heap.size s y):=by
  subst hV
  exact Aw (BI ..) (bR.alloc nR _)
 have HT:Hid (V.there w.heap.size 0 9/\An V w.heap.size 31):=by
  subst hV
  refine⟨BA (WQ w (fun i=>match i with|0=>.int .i64 s.L.lim|1=>.slice y.l.m.1.1 y.l.m.1.2.1 y.l.m.1.2.2|2=>.slice y.l.ra y.l.rs.length y.l.rc|3=>.int .i64 s.R.lim|4=>.slice y.r.m.1.1 y.r.m.1.2.1 y.r.m.1.2.2|5=>.slice y.r.ra y.r.rs.length y.r.rc|6=>.int .i64 s.lm|7=>.int .i64 s.rm|8=>.int .i64 s.seq) (fun i=>by match i with|0|1|2|3|4|5|6|7|8=>rfl) 31) (bR.alloc nR _),?_⟩
  exact Af ⟨_,_,World.alloc_heap_new w _⟩ (bR.alloc nR _)
 have HZ:Hid (noJ V (w.heap.size+1)/\An V (w.heap.size+1) 31):=by
  subst hV
  have h1:=Fc (w.alloc (.cells #[.int .i64 s.L.lim,.slice y.l.m.1.1 y.l.m.1.2.1 y.l.m.1.2.2,.slice y.l.ra y.l.rs.length y.l.rc,.int .i64 s.R.lim,.slice y.r.m.1.1 y.r.m.1.2.1 y.r.m.1.2.2,.slice y.r.ra y.r.rs.length y.r.rc,.int .i64 s.lm,.int .i64 s.rm,.int .i64 s.seq] 31))
  have h2:=World.alloc_heap_new (w.alloc (.cells #[.int .i64 s.L.lim,.slice y.l.m.1.1 y.l.m.1.2.1 y.l.m.1.2.2,.slice y.l.ra y.l.rs.length y.l.rc,.int .i64 s.R.lim,.slice y.r.m.1.1 y.r.m.1.2.1 y.r.m.1.2.2,.slice y.r.ra y.r.rs.length y.r.rc,.int .i64 s.lm,.int .i64 s.rm,.int .i64 s.seq] 31)) (.cells #[.int .i64 0,.slice none 0 0,.slice none 0 0,.int .i64 0,.slice none 0 0,.slice none 0 0,.int .i64 0,.int .i64 0,.int .i64 0] 31)
  rw[World.size_alloc]at h1 h2
  exact⟨h1,_,_,h2⟩
 clear hV
 refine(KL.out _ hb0).mono ?_
 rintro e wa ⟨⟨x1,rfl,ho1⟩,hb1⟩
 have hbw:Bwz w wa:=hb0.trans (hb1.mono hb0.size)
 replace HJ:Hid (BT wa w.heap.size s y):=Aw HJ.out hb1
 replace HT:Hid (wa.there w.heap.size 0 9/\An wa w.heap.size 31):=⟨BA HT.out.1 hb1,Af HT.out.2 hb1⟩
 replace HZ:Hid (noJ wa (w.heap.size+1)/\An wa (w.heap.size+1) 31):=⟨AX HZ.out.1 hb1,Af HZ.out.2 hb1⟩
 have HO1:Hid (OB wa V.heap.size x1 s.L):=ho1
 clear ho1
 have room1:wa.there w.heap.size 0 3:=fun j hj=>HT.out.1 j (by omega)
 obtain⟨W1,hW1⟩:=nM (World.setCells wa w.heap.size 0 (#[.int .i64 s.L.lim,.slice x1.m.1.1 x1.m.1.2.1 x1.m.1.2.2,.slice x1.ra x1.rs.length x1.rc]:Array Value).toList)
 have HJ1:Hid (BT W1 w.heap.size s ⟨x1,y.r⟩):=by rw[<-hW1];exact Rj HJ.out HT.out.1 x1
 have HT1:Hid (W1.there w.heap.size 0 9/\An W1 w.heap.size 31):=by rw[<-hW1];exact⟨World.there_setCells HT.out.1 _ _ _,DP _ _ _ HT.out.2⟩
 have HZ1:Hid (noJ W1 (w.heap.size+1)/\An W1 (w.heap.size+1) 31):=by rw[<-hW1];exact⟨World.there_setCells HZ.out.1 _ _ _,DP _ _ _ HZ.out.2⟩
 have HO2:Hid (OB W1 V.heap.size x1 s.L):=by rw[<-hW1];exact Be DW _ _ _ HO1.out HT.out.2
 have hbw1:Bwz w W1:=by rw[<-hW1];exact below_setCells nR _ _ _ hbw
 have hs1:W1.heap.size=wa.heap.size:=by rw[<-hW1];exact size_setCells _ _ _ _
 obtain⟨u0,u1,u2,u3,u4,u5,u6,u7,u8⟩:=HJ1.out
 go_wp2_with ((with_reducible refine wpList_store_mid ?_ 29 (.tmp 6) (.tmp 5) ?_ w.heap.size 0 #[.int .i64 s.L.lim,.slice x1.m.1.1 x1.m.1.2.1 x1.m.1.2.2,.slice x1.ra x1.rs.length x1.rc] ?_ ?_ ?_ ?_ ?_ ?_);exact rfl;exact rfl;exact rfl;exact rfl;exact room1;exact VI;exact(by simp[Value.oneCell']);rw[hW1])
 refine(KR.out _ hbw1).mono ?_
 rintro e wb ⟨⟨x2,rfl,ho2⟩,hb2⟩
 have hbw2:Bwz w wb:=hbw1.trans (hb2.mono hbw1.size)
 have HAP:Hid (Tm x1 x2):=JC HO1.out ho2 (by omega)
 have HJ2:Hid (BT wb w.heap.size s ⟨x1,y.r⟩):=Aw HJ1.out hb2
 have HT2:Hid (wb.there w.heap.size 0 9/\An wb w.heap.size 31):=⟨BA HT1.out.1 hb2,Af HT1.out.2 hb2⟩
 have HZ2:Hid (noJ wb (w.heap.size+1)/\An wb (w.heap.size+1) 31):=⟨AX HZ1.out.1 hb2,Af HZ1.out.2 hb2⟩
 have HOL:Hid (OB wb w.heap.size x1 s.L):=Ch (HO2.out.below hb2) (by omega)
 have HOR:Hid (OB wb w.heap.size x2 s.R):=Ch ho2 (by have:=hbw1.size;omega)
 clear u0 u1 u2 u3 u4 u5 u6 u7 u8 ho2 HJ1 HT1 HZ1 HO2 HO1 HJ HT HZ hW1 KL KR
 have room2:wb.there w.heap.size 3 3:=fun j hj=>by
  have:=HT2.out.1 (3+j) (by omega)
  simpa using this
 obtain⟨W2,hW2⟩:=nM (World.setCells wb w.heap.size 3 (#[.int .i64 s.R.lim,.slice x2.m.1.1 x2.m.1.2.1 x2.m.1.2.2,.slice x2.ra x2.rs.length x2.rc]:Array Value).toList)
 have HJ3:Hid (BT W2 w.heap.size s ⟨x1,x2⟩):=by rw[<-hW2];exact Rk HJ2.out HT2.out.1 x2
 have HZ3:Hid (noJ W2 (w.heap.size+1)/\An W2 (w.heap.size+1) 31):=by rw[<-hW2];exact⟨World.there_setCells HZ2.out.1 _ _ _,DP _ _ _ HZ2.out.2⟩
 replace HOL:Hid (OB W2 w.heap.size x1 s.L):=by rw[<-hW2];exact Be DW _ _ _ HOL.out HT2.out.2
 replace HOR:Hid (OB W2 w.heap.size x2 s.R):=by rw[<-hW2];exact Be DW _ _ _ HOR.out HT2.out.2
 have hbw3:Bwz w W2:=by rw[<-hW2];exact below_setCells nR _ _ _ hbw2
 obtain⟨W3,hW3⟩:=nM (World.setCells W2 (w.heap.size+1) 0 (#[.int .i64 s.L.lim,.slice x1.m.1.1 x1.m.1.2.1 x1.m.1.2.2,.slice x1.ra x1.rs.length x1.rc,.int .i64 s.R.lim,.slice x2.m.1.1 x2.m.1.2.1 x2.m.1.2.2,.slice x2.ra x2.rs.length x2.rc,.int .i64 s.lm,.int .i64 s.rm,.int .i64 s.seq]:Array Value).toList)
 have HR3:Hid (W3.rangeAt (w.heap.size+1) 0 (#[.int .i64 s.L.lim,.slice x1.m.1.1 x1.m.1.2.1 x1.m.1.2.2,.slice x1.ra x1.rs.length x1.rc,.int .i64 s.R.lim,.slice x2.m.1.1 x2.m.1.2.1 x2.m.1.2.2,.slice x2.ra x2.rs.length x2.rc,.int .i64 s.lm,.int .i64 s.rm,.int .i64 s.seq]:Array Value).toList):=by rw[<-hW3];exact C3 HZ3.out.1 rfl
 replace HOL:Hid (OB W3 w.heap.size x1 s.L):=by rw[<-hW3];exact Be DW _ _ _ HOL.out HZ3.out.2
 replace HOR:Hid (OB W3 w.heap.size x2 s.R):=by rw[<-hW3];exact Be DW _ _ _ HOR.out HZ3.out.2
 have hbw4:Bwz w W3:=by rw[<-hW3];exact below_setCells (Nat.le_succ _) _ _ _ hbw3
 have room3:=HZ3.out.1
 obtain⟨u0,u1,u2,u3,u4,u5,u6,u7,u8⟩:=HJ3.out
 go_wp2_with (first
  |((with_reducible refine wpList_store_mid ?_ 29 (.tmp 10) (.tmp 9) ?_ w.heap.size 3 #[.int .i64 s.R.lim,.slice x2.m.1.1 x2.m.1.2.1 x2.m.1.2.2,.slice x2.ra x2.rs.length x2.rc] ?_ ?_ ?_ ?_ ?_ ?_);exact rfl;exact rfl;exact rfl;exact rfl;exact room2;exact VI;exact(by simp[Value.oneCell']);rw[hW2])
  |((with_reducible refine wpList_store_mid ?_ 31 (.tmp 2) (.tmp 11) ?_ (w.heap.size+1) 0 #[.int .i64 s.L.lim,.slice x1.m.1.1 x1.m.1.2.1 x1.m.1.2.2,.slice x1.ra x1.rs.length x1.rc,.int .i64 s.R.lim,.slice x2.m.1.1 x2.m.1.2.1 x2.m.1.2.2,.slice x2.ra x2.rs.length x2.rc,.int .i64 s.lm,.int .i64 s.rm,.int .i64 s.seq] ?_ ?_ ?_ ?_ ?_ ?_);exact rfl;exact rfl;exact rfl;exact rfl;exact room3;exact EN;exact(by simp[Value.oneCell']);rw[hW3]))
 have y0:=HR3.out 0 _ rfl
 have y1:=HR3.out 1 _ rfl
 have y2:=HR3.out 2 _ rfl
 have y3:=HR3.out 3 _ rfl
 have y4:=HR3.out 4 _ rfl
 have y5:=HR3.out 5 _ rfl
 have y6:=HR3.out 6 _ rfl
 have y7:=HR3.out 7 _ rfl
 have y8:=HR3.out 8 _ rfl
 simp only[Nat.zero_add]at y0 y1 y2 y3 y4 y5 y6 y7 y8
 exact bodyPost_ret (v:=.agg #[.int .i64 s.L.lim,.slice x1.m.1.1 x1.m.1.2.1 x1.m.1.2.2,.slice x1.ra x1.rs.length x1.rc,.int .i64 s.R.lim,.slice x2.m.1.1 x2.m.1.2.1 x2.m.1.2.2,.slice x2.ra x2.rs.length x2.rc,.int .i64 s.lm,.int .i64 s.rm,.int .i64 s.seq]) (by simp[results,results91,go_sem,y0,y1,y2,y3,y4,y5,y6,y7,y8]) rfl ⟨⟨x1,x2,by rw[AK],HOL.out,HOR.out,HAP.out⟩,hbw4⟩
def AY(s:Jn)(side time:Int):Jn:=if side=2 then⟨s.L,s.R,s.lm,time,s.seq⟩else⟨s.L,s.R,time,s.rm,s.seq⟩
theorem mark_le(side:Int):Bp side=6\/Bp side=7:=by
 unfold Bp
 split
 ·exact .inr rfl
 ·exact .inl rfl
theorem cell_far{i j:Nat}{u:Value}(h:w.cell? ⟨b,i,none⟩=some v)(hij:j≠i):(w.setCell ⟨b,j,none⟩ u).cell? ⟨b,i,none⟩=some v:=(World.cell?_setCell_other _ _ _ _ (fun e=>hij (by injection e))).trans h
theorem Rl{p:pl.Pln}{x:pl.PA}{t:Value}(h:boxC w b p x s y t)(side time:Int):boxC (w.setCell ⟨b,13+Bp side,none⟩ (.int .i64 time)) b p x (AY s side time) y t:=by
 have hm:=mark_le side
 refine⟨?_,?_,cell_far h.told (by omega),fun j hj=>?_⟩
 ·obtain⟨v0,v1,v2,v3,v4,v5,v6,v7,v8,v9,v10,v11,v12⟩:=h.plan
  exact⟨cell_far v0 (by omega),cell_far v1 (by omega),cell_far v2 (by omega),cell_far v3 (by omega),cell_far v4 (by omega),cell_far v5 (by omega),cell_far v6 (by omega),cell_far v7 (by omega),cell_far v8 (by omega),cell_far v9 (by omega),cell_far v10 (by omega),cell_far v11 (by omega),cell_far v12 (by omega)⟩
 ·have hc:=LY h.join side
  have hn:=World.cell?_setCell_same _ _ (.int .i64 time) hc
  obtain⟨u0,u1,u2,u3,u4,u5,u6,u7,u8⟩:=h.join
  unfold AY
  unfold Bp at hn hm⊢
  by_cases e:side=2
  ·rw[if_pos e]at hn⊢
   rw[if_pos e]
   exact⟨cell_far u0 (by omega),cell_far u1 (by omega),cell_far u2 (by omega),cell_far u3 (by omega),cell_far u4 (by omega),cell_far u5 (by omega),cell_far u6 (by omega),hn,cell_far u8 (by omega)⟩
  ·rw[if_neg e]at hn⊢
   rw[if_neg e]
   exact⟨cell_far u0 (by omega),cell_far u1 (by omega),cell_far u2 (by omega),cell_far u3 (by omega),cell_far u4 (by omega),cell_far u5 (by omega),hn,cell_far u7 (by omega),cell_far u8 (by omega)⟩
 ·exact⟨by
   obtain⟨u,hu⟩:=Option.isSome_iff_exists.1 (h.room j hj).1
   obtain⟨u',hu'⟩:=cell?_setCell_some (p:=⟨b,13+Bp side,none⟩) (x:=.int .i64 time) hu
   rw[hu'];rfl,by rw[World.frozen?_setCell];exact(h.room j hj).2⟩
theorem Tn(b:Nat)(p:pl.Pln)(x:pl.PA)(s:Jn)(y:JX)(t:Value)(side time:Int)(w:World)(h:boxC w b p x s y t):
 Calls Tryz.prog 255 #[.pointer (some ⟨b,0,none⟩),.int .i64 side,.int .i64 time] w fun e w'=>e= .returned (.tuple #[])/\w'=w.setCell ⟨b,13+Bp side,none⟩ (.int .i64 time):=by
 have KM:Hid (∀w1,Calls Tryz.prog 143 #[.pointer (some ⟨b,13,none⟩),.int .i64 side] w1 fun e w'=>e= .returned (.pointer (some ⟨b,13+Bp side,none⟩))/\w'=w1):=fun w1=>Lo b 13 side w1
 have hc:=LY h.join side
 have hf:w.frozen? ⟨b,13+Bp side,none⟩=false:=by
  have:=(h.room (13+Bp side) (by rcases mark_le side with e|e<;>omega)).2
  simpa using this
 clear h
 obtain⟨k,hk⟩:=nM (13+Bp side)
 rw[hk]at KM hc hf⊢
 clear hk
 go_enter func255,ntmps255
 go_wp2_with (go_at_call 143;refine(KM.out _).mono ?_;rintro e w2 ⟨rfl,rfl⟩)
 exact bodyPost_end (v:=.tuple #[]) (by simp[results,results255,go_sem]) rfl ⟨rfl,rfl⟩
theorem To(b:Nat)(p:pl.Pln)(x:pl.PA)(s:Jn)(y:JX)(ta:Option Addr)(tn tc:Nat)(w:World)(h:boxC w b p x s y (.slice ta tn tc)):
 Calls Tryz.prog 257 #[.pointer (some ⟨b,0,none⟩)] w fun e w'=>e= .returned (.tuple #[joinV s y,.slice ta tn tc])/\Bwz w w':=by
 have hlt:=h.lt
 obtain⟨u0,u1,u2,u3,u4,u5,u6,u7,u8⟩:=h.join
 have ut:=h.told
 clear h
 rw[AK]
 go_enter func257,ntmps257
 go_wp2
 have hne:b≠w.heap.size:=by omega
 go_region_held3 (fun w'=>w'.cell? ⟨b,13,none⟩=some (.int .i64 s.L.lim)/\w'.cell? ⟨b,14,none⟩=some (.slice y.l.m.1.1 y.l.m.1.2.1 y.l.m.1.2.2)/\w'.cell? ⟨b,15,none⟩=some (.slice y.l.ra y.l.rs.length y.l.rc)/\w'.cell? ⟨b,16,none⟩=some (.int .i64 s.R.lim)/\w'.cell? ⟨b,17,none⟩=some (.slice y.r.m.1.1 y.r.m.1.2.1 y.r.m.1.2.2)/\w'.cell? ⟨b,18,none⟩=some (.slice y.r.ra y.r.rs.length y.r.rc)/\w'.cell? ⟨b,19,none⟩=some (.int .i64 s.lm)/\w'.cell? ⟨b,20,none⟩=some (.int .i64 s.rm)/\w'.cell? ⟨b,21,none⟩=some (.int .i64 s.seq)/\w'.cell? ⟨b,22,none⟩=some (.slice ta tn tc)) (first|go_keep|(refine⟨?_,?_,?_,?_,?_,?_,?_,?_,?_,?_⟩<;>go_simp))
  (fail)
 all_goals
  go_wp2
  exact bodyPost_ret (v:=.tuple #[.agg #[.int .i64 s.L.lim,.slice y.l.m.1.1 y.l.m.1.2.1 y.l.m.1.2.2,.slice y.l.ra y.l.rs.length y.l.rc,.int .i64 s.R.lim,.slice y.r.m.1.1 y.r.m.1.2.1 y.r.m.1.2.2,.slice y.r.ra y.r.rs.length y.r.rc,.int .i64 s.lm,.int .i64 s.rm,.int .i64 s.seq],.slice ta tn tc]) (by simp[results,results257,go_sem]) rfl ⟨rfl,(bR.alloc nR _).drew⟩
end jn
namespace bf
open Go.ChangeShapes Go.WideShapes Go.ChangeAt Go.RowKit
open vl
variable {W W1 W2 : World} {o : Obj} {C NB base g : Nat} {x : BX} {b : Buf}
theorem In{r:Option Nat}(hg:(W1.alloc o).grownBy W2 r):W1.heap.size<=W2.heap.size/\∀k,k<W1.heap.size->r≠some k->W2.heap[k]? =W1.heap[k]? :=
 ⟨by have:=hg.size;simp at this;omega,fun k hk hne=>by
  rw[hg.block k (by simp;omega) (fun e=>hne e.symm)]
  exact Below.heap_alloc _ _ k hk⟩
theorem UR(h:PSt W C NB base x b)(hb1:Bwz W W1)(hg:(W1.alloc o).grownBy W2 (hdV x.m.1).ownBlock):
 W2.cell? ⟨NB,1,none⟩=some (hdV x.m.1)/\W2.frozen? ⟨NB,1,none⟩=false:=by
 have h1:=h.below hb1
 obtain⟨hs,hk⟩:=In hg
 obtain⟨eN,eC⟩:=Kg h1 hs hk
 exact⟨(cOb (a:=⟨NB,1,none⟩) eN).trans h1.k.c1,(A6 (p:=⟨NB,1,none⟩) eN).trans h1.f1⟩
theorem US{c4:Nat}{e:EM}{y:Ent}(h:PSt W C NB base x b)(hb1:Bwz W W1)(hx:OR W1 base e y)
 (hown:W2.ownsRow base 63 5 (.slice (some ⟨g,0,none⟩) (x.m.2.length+1) c4) (x.m.2.length+1) (Ar x.m.2++[.string e.key,.int .i64 e.time,.int .i64 e.seq,hdV e.row,.bool e.met])) (hg:(W1.alloc o).grownBy W2 (hdV x.m.1).ownBlock) (hat:(hdV x.m.1).ownBlock=some g\/g=W1.heap.size+1):
 PSt (W2.setCell ⟨NB,1,none⟩ (.slice (some ⟨g,0,none⟩) (x.m.2.length+1) c4)) C NB base ⟨x.ra,x.rc,((some ⟨g,0,none⟩,x.m.2.length+1,c4),x.m.2++[e]),x.rs⟩ ⟨b.lim,b.mem++[y],b.runs⟩/\Below base W (W2.setCell ⟨NB,1,none⟩ (.slice (some ⟨g,0,none⟩) (x.m.2.length+1) c4)):=by
 have h1:=h.below hb1
 obtain⟨hs,hk⟩:=In hg
 obtain⟨eN,eC⟩:=Kg h1 hs hk
 have hsn:=LM h.k.ob.mem hb1 hx hown hg
 have hOB:OB W2 base ⟨x.ra,x.rc,((some ⟨g,0,none⟩,x.m.2.length+1,c4),x.m.2++[e]),x.rs⟩ ⟨b.lim,b.mem++[y],b.runs⟩:=TS h1.k.ob hsn.1 hs hk (fun g' hg'=>by
  have:g=g':=by cases hg';rfl
  subst this
  rcases hat with h2|h2
  ·exact .inl h2
  ·exact .inr (by omega))
 have t2:=AD h1.k.ty eN
 have c0:=(cOb (a:=⟨NB,0,none⟩) eN).trans h1.k.c0
 have c1:=(cOb (a:=⟨NB,1,none⟩) eN).trans h1.k.c1
 have c2:=(cOb (a:=⟨NB,2,none⟩) eN).trans h1.k.c2
 have f1:=(A6 (p:=⟨NB,1,none⟩) eN).trans h1.f1
 have f2:=(A6 (p:=⟨NB,2,none⟩) eN).trans h1.k.f2
 have hne:=h.k.ne
 have eO:∀u,(W2.setCell ⟨NB,1,none⟩ u).heap[C]? =W1.heap[C]? :=fun u=>(heap_setCell_other _ _ _ _ (by dsimp only;omega)).trans eC
 refine⟨⟨⟨Iy hOB t2 _ _,?_,World.cell?_setCell_same _ _ _ c1,?_,?_,AC t2 _ _,(cOb (a:=⟨C,0,none⟩) (eO _)).trans h1.k.r0,(cOb (a:=⟨C,1,none⟩) (eO _)).trans h1.k.r1,(cOb (a:=⟨C,2,none⟩) (eO _)).trans h1.k.r2,(A6 (p:=⟨C,0,none⟩) (eO _)).trans h1.k.g0,(A6 (p:=⟨C,1,none⟩) (eO _)).trans h1.k.g1,(A6 (p:=⟨C,2,none⟩) (eO _)).trans h1.k.g2,AD h1.k.rt (eO _),hne,h.k.up⟩,?_⟩,?_⟩
 ·dsimp only;go_simp
 ·dsimp only;go_simp
 ·go_simp
 ·go_simp
 ·have:=h.k.up
  exact hsn.2.setCell (by dsimp only;omega) _
theorem Nx(h:PSt W C NB base x b)(hg:(W.alloc o).grownBy W2 (Value.slice x.ra x.rs.length x.rc).ownBlock):
 W2.heap.size≥W.heap.size/\W2.heap[NB]? =W.heap[NB]? /\W2.heap[C]? =W.heap[C]? /\(∀k,An W k 63\/An W k 103->W2.heap[k]? =W.heap[k]?):=by
 obtain⟨hs,hk⟩:=In hg
 have ap:∀k t,An W k t->t≠26->W2.heap[k]? =W.heap[k]? :=fun k t hk' ht=>hk k (Ba hk') (fun e=>tyAt_apart (A7 h.k.ob.hds e) hk' (fun e=>ht e.symm) rfl)
 exact⟨hs,ap _ _ h.k.ty (by decide),ap _ _ h.k.rt (by decide),fun k hk'=>by rcases hk' with hk'|hk';exact ap _ _ hk' (by decide);exact ap _ _ hk' (by decide)⟩
theorem Tp{cap2:Nat}(h:PSt W C NB base x b)
 (hown2:W2.ownsRow base 26 1 (.slice (some ⟨g,0,none⟩) (x.rs.length+1) cap2) (x.rs.length+1) ((x.rs.map fun p=>hdV p.1)++[hdV x.m.1])) (hg:(W.alloc o).grownBy W2 (Value.slice x.ra x.rs.length x.rc).ownBlock):
 PSt ((W2.setCell ⟨NB,2,none⟩ (.slice (some ⟨g,0,none⟩) (x.rs.length+1) cap2)).setCell ⟨NB,1,none⟩ (.slice none 0 0)) C NB base ⟨some ⟨g,0,none⟩,cap2,((none,0,0),[]),x.rs++[x.m]⟩ ⟨b.lim,[],b.runs++[b.mem]⟩/\Below base W ((W2.setCell ⟨NB,2,none⟩ (.slice (some ⟨g,0,none⟩) (x.rs.length+1) cap2)).setCell ⟨NB,1,none⟩ (.slice none 0 0)):=by
 obtain⟨hs,eN,eC,hch⟩:=Nx h hg
 have hOB:=Vx h.k.ob hown2 hs hch
 have t2:=AD h.k.ty eN
 have c0:=(cOb (a:=⟨NB,0,none⟩) eN).trans h.k.c0
 have c1:=(cOb (a:=⟨NB,1,none⟩) eN).trans h.k.c1
 have c2:=(cOb (a:=⟨NB,2,none⟩) eN).trans h.k.c2
 have f1:=(A6 (p:=⟨NB,1,none⟩) eN).trans h.f1
 have f2:=(A6 (p:=⟨NB,2,none⟩) eN).trans h.k.f2
 have hne:=h.k.ne
 have eO:∀u u',((W2.setCell ⟨NB,2,none⟩ u).setCell ⟨NB,1,none⟩ u').heap[C]? =W.heap[C]? :=fun u u'=>(heap_setCell_other _ _ _ _ (by dsimp only;omega)).trans ((heap_setCell_other _ _ _ _ (by dsimp only;omega)).trans eC)
 refine⟨⟨⟨Iy (Iy hOB t2 _ _) (AC t2 _ _) _ _,?_,?_,?_,?_,AC (AC t2 _ _) _ _,(cOb (a:=⟨C,0,none⟩) (eO _ _)).trans h.k.r0,(cOb (a:=⟨C,1,none⟩) (eO _ _)).trans h.k.r1,(cOb (a:=⟨C,2,none⟩) (eO _ _)).trans h.k.r2,(A6 (p:=⟨C,0,none⟩) (eO _ _)).trans h.k.g0,(A6 (p:=⟨C,1,none⟩) (eO _ _)).trans h.k.g1,(A6 (p:=⟨C,2,none⟩) (eO _ _)).trans h.k.g2,AD h.k.rt (eO _ _),hne,h.k.up⟩,?_⟩,?_⟩
 ·dsimp only;go_simp
 ·unfold hdV;dsimp only;go_simp
 ·dsimp only;rw[lAp];go_simp
 ·go_simp
 ·go_simp
 ·have:=h.k.up
  have hlow:=h.k.ob.low
  have hb2:Below base W W2:=(bR.alloc hlow o).grown hg (by simp;omega) (fun c hc=>(AG h.k.ob.hds hc).1)
  exact(hb2.setCell (by dsimp only;omega) _).setCell (by dsimp only;omega) _
theorem Io{ops:Array Oper}{o:Oper}{a:Act}{K:Act->World->Prop}{Q:Exit->Act->World->Prop}{E:Prop}(hgd:o.guard=none)(s x:Operand)
 (hop:o.op= .call {callee:=.builtin .append,args:=#[s,x],argTypes:=#[26,26]})
 (base:Nat) (v:Value) (L:List EM) (ek:ByteArray) (et es1:Int) (ad:Option Addr) (rl cap:Nat) (em:Bool) (w1:World) (ln:Nat) (ho:w1.ownsRow base 63 5 v ln (Ar L)) (hl:ln<=1000000) (hb:base<=w1.heap.size)
 (hs:a.eval s=v) (hx:a.eval x= .slice (some ⟨w1.heap.size,0,none⟩) 1 1)
 (h:∀g cap2 w2,w2.ownsRow base 63 5 (.slice (some ⟨g,0,none⟩) (ln+1) cap2) (ln+1) (Ar L++[.string ek,.int .i64 et,.int .i64 es1,.slice ad rl cap,.bool em])->(w1.alloc (.cells #[.string ek,.int .i64 et,.int .i64 es1,.slice ad rl cap,.bool em] 63)).grownBy w2 v.ownBlock->(v.ownBlock=some g\/g=w1.heap.size+1)->g<w2.heap.size->K (a.put o.dst (.slice (some ⟨g,0,none⟩) (ln+1) cap2)) w2):
 if Region.wanted o (yielded ops a.tmps)=true then Oper.wp Tryz.prog o a (w1.alloc (.cells #[.string ek,.int .i64 et,.int .i64 es1,.slice ad rl cap,.bool em] 63)) K Q else E:=by
 obtain⟨i0,hi,hz0,hz1,hz2⟩:=info_parts PO
 exact step_append_lies _ hgd s x 26 hop base 63 i0 (.agg #[.string ⟨#[]⟩,.int .i64 0,.int .i64 0,.slice none 0 0,.bool false]) 5 64 underlying26 hi hz0 hz1 hz2 rfl (by decide) v ln (Ar L) hs
  (ho.alloc _) ⟨w1.heap.size,0,none⟩ 1 1 [.string ek,.int .i64 et,.int .i64 es1,.slice ad rl cap,.bool em] hx rfl (D7 _ _ _ _ _ _ _) (by intro u hu;simp at hu;rcases hu with rfl|rfl|rfl|rfl|rfl<;>rfl) (by decide) (by unfold maxLen;omega) (by omega) (by simp;omega) (w1.heap.size+1) (by simp) h
end bf
end Go.Proofs.YtdohnkkbkfhphaaGreat
