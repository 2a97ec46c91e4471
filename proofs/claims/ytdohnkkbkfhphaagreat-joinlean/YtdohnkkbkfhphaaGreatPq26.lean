import Derived.Test.YtdohnkkbkfhphaaGreatPq24
import Derived.Deep.DeepCutAuto
set_option linter.all false
set_option maxHeartbeats 4000000
set_option maxRecDepth 100000
namespace Go.Proofs.YtdohnkkbkfhphaaGreat
open Go.Proofs.Tryz
namespace jn
open Go.ChangeShapes Go.WideShapes Go.ChangeAt Go.RowKit
open vl bf
attribute [local go_sem] Oper.semAt_some
variable {ops : Array Oper} {o op : Oper} {a : Act} {Q : Exit -> Act -> World -> Prop} {w : World} {rest : List Oper} {b : Nat}
def kindT(k:Int):TypeId:=if k=1 then 139 else if k=2 then 141 else 143
def kindP(k:Int):TypeId:=if k=1 then 137 else if k=2 then 140 else 142
theorem Jg{K:Act->World->Prop}{E:Prop}(hgd:op.guard=none)(ty:TypeId)(x y:Operand)(ho:op.op= .store ty x y)
 (b o:Nat) (cells:Array Value) (hx:a.eval x= .pointer (some ⟨b,o,none⟩)) (hy:a.eval y= .agg cells) (ht:w.there b o cells.size) (hi:(Tryz.prog.info? ty).map (·.size)=some cells.size) (h1:cells.all (·.oneCell')=true)
 (h:K (a.put op.dst undef) (w.setCells b o cells.toList)):
 if Region.wanted op (yielded ops a.tmps)=true then Oper.wp Tryz.prog op a w K Q else E:=by
 have hw:Region.wanted op (yielded ops a.tmps)=true:=by simp[Region.wanted,hgd]
 rw[if_pos hw]
 exact wp_store_mid ty x y ho b o cells hx hy ht hi h1 h
theorem Jh:(Tryz.prog.info? 136).map (·.size)=some 23:=by kernel_rfl
theorem GS(t:TypeId)(parts:Array (Nat×Operand))(ho:o.op= .build t parts)(cells:Array Value)(h:Tryz.prog.built t (parts.map fun(i,x)=>(i,a.eval x)).toList=some cells)(w:World):(execOp a.eval o).run Tryz.prog w= .ok (.value (.agg cells)) w:=by
 unfold execOp
 simp only[ho,Sem.run_bind,run_build w t _ cells h,Result.andThen_ok]
 rfl
theorem LN(w:World)(t:TypeId)(c0 c1 c2 c3 c4 c5 c6 c7 c8 c9 c10 c11 c12 c13 c14 c15 c16 c17 c18 c19 c20 c21 c22:Value):(w.alloc (.cells #[c0,c1,c2,c3,c4,c5,c6,c7,c8,c9,c10,c11,c12,c13,c14,c15,c16,c17,c18,c19,c20,c21,c22] t)).there w.heap.size 0 23:=by
 intro j hj
 match j,hj with
 |0,_=>exact⟨by go_simp,by go_simp⟩
 |1,_=>exact⟨by go_simp,by go_simp⟩
 |2,_=>exact⟨by go_simp,by go_simp⟩
 |3,_=>exact⟨by go_simp,by go_simp⟩
 |4,_=>exact⟨by go_simp,by go_simp⟩
 |5,_=>exact⟨by go_simp,by go_simp⟩
 |6,_=>exact⟨by go_simp,by go_simp⟩
 |7,_=>exact⟨by go_simp,by go_simp⟩
 |8,_=>exact⟨by go_simp,by go_simp⟩
 |9,_=>exact⟨by go_simp,by go_simp⟩
 |10,_=>exact⟨by go_simp,by go_simp⟩
 |11,_=>exact⟨by go_simp,by go_simp⟩
 |12,_=>exact⟨by go_simp,by go_simp⟩
 |13,_=>exact⟨by go_simp,by go_simp⟩
 |14,_=>exact⟨by go_simp,by go_simp⟩
 |15,_=>exact⟨by go_simp,by go_simp⟩
 |16,_=>exact⟨by go_simp,by go_simp⟩
 |17,_=>exact⟨by go_simp,by go_simp⟩
 |18,_=>exact⟨by go_simp,by go_simp⟩
 |19,_=>exact⟨by go_simp,by go_simp⟩
 |20,_=>exact⟨by go_simp,by go_simp⟩
 |21,_=>exact⟨by go_simp,by go_simp⟩
 |22,_=>exact⟨by go_simp,by go_simp⟩
 |n+23,h=>exact absurd h (by omega)
theorem ES(hg:o.guard=none)(t:TypeId)(parts:Array (Nat×Operand))(ho:o.op= .build t parts)(cells:Array Value)
 (hf:Tryz.prog.built t (parts.map fun(i,x)=>(i,a.eval x)).toList=some cells) (h:wpList Tryz.prog ops Q rest (a.put o.dst (.agg cells)) w):wpList Tryz.prog ops Q (o::rest) a w:=
 wpList_build hg t parts ho (by rw[hf];rfl) (by rw[hf];exact h)
theorem O4{U:World}{p:pl.Pln}{x:pl.PA}{s:Jn}{y:JX}{t:Value}(h:boxC U b p x s y t):U.rangeAt b 0 [.int .i64 p.kind,.int .i64 p.mode,.int .i64 p.low,.int .i64 p.high,.int .i64 p.size,.int .i64 p.limit,.slice x.l p.left.length x.lc,.slice x.r p.right.length x.rc,.slice x.lk p.lkeys.length x.lkc,.slice x.rk p.rkeys.length x.rkc,.bool p.grouped,.slice x.g p.group.length x.gc,.slice x.a p.aggs.length x.ac,.int .i64 s.L.lim,.slice y.l.m.1.1 y.l.m.1.2.1 y.l.m.1.2.2,.slice y.l.ra y.l.rs.length y.l.rc,.int .i64 s.R.lim,.slice y.r.m.1.1 y.r.m.1.2.1 y.r.m.1.2.2,.slice y.r.ra y.r.rs.length y.r.rc,.int .i64 s.lm,.int .i64 s.rm,.int .i64 s.seq,t]:=fun j v hv=>by
 obtain⟨v0,v1,v2,v3,v4,v5,v6,v7,v8,v9,v10,v11,v12⟩:=h.plan
 obtain⟨u0,u1,u2,u3,u4,u5,u6,u7,u8⟩:=h.join
 have ut:=h.told
 match j,hv with
 |0,hv=>injection hv with hv;subst hv;exact v0
 |1,hv=>injection hv with hv;subst hv;exact v1
 |2,hv=>injection hv with hv;subst hv;exact v2
 |3,hv=>injection hv with hv;subst hv;exact v3
 |4,hv=>injection hv with hv;subst hv;exact v4
 |5,hv=>injection hv with hv;subst hv;exact v5
 |6,hv=>injection hv with hv;subst hv;exact v6
 |7,hv=>injection hv with hv;subst hv;exact v7
 |8,hv=>injection hv with hv;subst hv;exact v8
 |9,hv=>injection hv with hv;subst hv;exact v9
 |10,hv=>injection hv with hv;subst hv;exact v10
 |11,hv=>injection hv with hv;subst hv;exact v11
 |12,hv=>injection hv with hv;subst hv;exact v12
 |13,hv=>injection hv with hv;subst hv;exact u0
 |14,hv=>injection hv with hv;subst hv;exact u1
 |15,hv=>injection hv with hv;subst hv;exact u2
 |16,hv=>injection hv with hv;subst hv;exact u3
 |17,hv=>injection hv with hv;subst hv;exact u4
 |18,hv=>injection hv with hv;subst hv;exact u5
 |19,hv=>injection hv with hv;subst hv;exact u6
 |20,hv=>injection hv with hv;subst hv;exact u7
 |21,hv=>injection hv with hv;subst hv;exact u8
 |22,hv=>injection hv with hv;subst hv;exact ut
 |n+23,hv=>cases hv
theorem E4(hgd:op.guard=none)(x:Operand)(ho:op.op= .load 136 x)(b:Nat)(hx:a.eval x= .pointer (some ⟨b,0,none⟩))(cs:Array Value)(hl:cs.size=23)(hc:w.rangeAt b 0 cs.toList)
 (h:wpList Tryz.prog ops Q rest (a.put op.dst (.agg cs)) w):wpList Tryz.prog ops Q (op::rest) a w:=
 wpList_load_mid hgd _ x ho b 0 hx cs.toList _ hc underlying136 rfl (by rw[Array.length_toList,hl];exact Jh) h
theorem LO:calmT 136:=⟨by decide,by decide,by decide⟩
theorem Sy(w:World)(T:TypeId)(p:pl.Pln)(x:pl.PA)(s:Jn)(y:JX)(t:Value)(ht:t.oneCell'=true):boxC (w.alloc (.cells #[.int .i64 p.kind,.int .i64 p.mode,.int .i64 p.low,.int .i64 p.high,.int .i64 p.size,.int .i64 p.limit,.slice x.l p.left.length x.lc,.slice x.r p.right.length x.rc,.slice x.lk p.lkeys.length x.lkc,.slice x.rk p.rkeys.length x.rkc,.bool p.grouped,.slice x.g p.group.length x.gc,.slice x.a p.aggs.length x.ac,.int .i64 s.L.lim,.slice y.l.m.1.1 y.l.m.1.2.1 y.l.m.1.2.2,.slice y.l.ra y.l.rs.length y.l.rc,.int .i64 s.R.lim,.slice y.r.m.1.1 y.r.m.1.2.1 y.r.m.1.2.2,.slice y.r.ra y.r.rs.length y.r.rc,.int .i64 s.lm,.int .i64 s.rm,.int .i64 s.seq,t] T)) w.heap.size p x s y t/\An (w.alloc (.cells #[.int .i64 p.kind,.int .i64 p.mode,.int .i64 p.low,.int .i64 p.high,.int .i64 p.size,.int .i64 p.limit,.slice x.l p.left.length x.lc,.slice x.r p.right.length x.rc,.slice x.lk p.lkeys.length x.lkc,.slice x.rk p.rkeys.length x.rkc,.bool p.grouped,.slice x.g p.group.length x.gc,.slice x.a p.aggs.length x.ac,.int .i64 s.L.lim,.slice y.l.m.1.1 y.l.m.1.2.1 y.l.m.1.2.2,.slice y.l.ra y.l.rs.length y.l.rc,.int .i64 s.R.lim,.slice y.r.m.1.1 y.r.m.1.2.1 y.r.m.1.2.2,.slice y.r.ra y.r.rs.length y.r.rc,.int .i64 s.lm,.int .i64 s.rm,.int .i64 s.seq,t] T)) w.heap.size T:=by
 refine⟨⟨?_,?_,by go_simp,LN _ _ _ _ _ _ _ _ _ _ _ _ _ _ _ _ _ _ _ _ _ _ _ _ _⟩,⟨_,_,World.alloc_heap_new w _⟩⟩
 ·unfold BB
  refine⟨?_,?_,?_,?_,?_,?_,?_,?_,?_,?_,?_,?_,?_⟩<;>go_simp
 ·unfold jnC
  refine⟨?_,?_,?_,?_,?_,?_,?_,?_,?_⟩<;>go_simp
theorem MS(h:w.there b 0 23)(p:pl.Pln)(x:pl.PA)(s:Jn)(y:JX)(t:Value):boxC (w.setCells b 0 [.int .i64 p.kind,.int .i64 p.mode,.int .i64 p.low,.int .i64 p.high,.int .i64 p.size,.int .i64 p.limit,.slice x.l p.left.length x.lc,.slice x.r p.right.length x.rc,.slice x.lk p.lkeys.length x.lkc,.slice x.rk p.rkeys.length x.rkc,.bool p.grouped,.slice x.g p.group.length x.gc,.slice x.a p.aggs.length x.ac,.int .i64 s.L.lim,.slice y.l.m.1.1 y.l.m.1.2.1 y.l.m.1.2.2,.slice y.l.ra y.l.rs.length y.l.rc,.int .i64 s.R.lim,.slice y.r.m.1.1 y.r.m.1.2.1 y.r.m.1.2.2,.slice y.r.ra y.r.rs.length y.r.rc,.int .i64 s.lm,.int .i64 s.rm,.int .i64 s.seq,t]) b p x s y t:=by
 have hs:=World.rangeAt_setCells_same w b 0 [.int .i64 p.kind,.int .i64 p.mode,.int .i64 p.low,.int .i64 p.high,.int .i64 p.size,.int .i64 p.limit,.slice x.l p.left.length x.lc,.slice x.r p.right.length x.rc,.slice x.lk p.lkeys.length x.lkc,.slice x.rk p.rkeys.length x.rkc,.bool p.grouped,.slice x.g p.group.length x.gc,.slice x.a p.aggs.length x.ac,.int .i64 s.L.lim,.slice y.l.m.1.1 y.l.m.1.2.1 y.l.m.1.2.2,.slice y.l.ra y.l.rs.length y.l.rc,.int .i64 s.R.lim,.slice y.r.m.1.1 y.r.m.1.2.1 y.r.m.1.2.2,.slice y.r.ra y.r.rs.length y.r.rc,.int .i64 s.lm,.int .i64 s.rm,.int .i64 s.seq,t] h
 have hc:∀i v,[.int .i64 p.kind,.int .i64 p.mode,.int .i64 p.low,.int .i64 p.high,.int .i64 p.size,.int .i64 p.limit,.slice x.l p.left.length x.lc,.slice x.r p.right.length x.rc,.slice x.lk p.lkeys.length x.lkc,.slice x.rk p.rkeys.length x.rkc,.bool p.grouped,.slice x.g p.group.length x.gc,.slice x.a p.aggs.length x.ac,.int .i64 s.L.lim,.slice y.l.m.1.1 y.l.m.1.2.1 y.l.m.1.2.2,.slice y.l.ra y.l.rs.length y.l.rc,.int .i64 s.R.lim,.slice y.r.m.1.1 y.r.m.1.2.1 y.r.m.1.2.2,.slice y.r.ra y.r.rs.length y.r.rc,.int .i64 s.lm,.int .i64 s.rm,.int .i64 s.seq,t][i]? =some v->(w.setCells b 0 [.int .i64 p.kind,.int .i64 p.mode,.int .i64 p.low,.int .i64 p.high,.int .i64 p.size,.int .i64 p.limit,.slice x.l p.left.length x.lc,.slice x.r p.right.length x.rc,.slice x.lk p.lkeys.length x.lkc,.slice x.rk p.rkeys.length x.rkc,.bool p.grouped,.slice x.g p.group.length x.gc,.slice x.a p.aggs.length x.ac,.int .i64 s.L.lim,.slice y.l.m.1.1 y.l.m.1.2.1 y.l.m.1.2.2,.slice y.l.ra y.l.rs.length y.l.rc,.int .i64 s.R.lim,.slice y.r.m.1.1 y.r.m.1.2.1 y.r.m.1.2.2,.slice y.r.ra y.r.rs.length y.r.rc,.int .i64 s.lm,.int .i64 s.rm,.int .i64 s.seq,t]).cell? ⟨b,i,none⟩=some v:=fun i v hv=>by
  have:=hs i v hv
  simpa using this
 exact⟨⟨hc 0 _ rfl,hc 1 _ rfl,hc 2 _ rfl,hc 3 _ rfl,hc 4 _ rfl,hc 5 _ rfl,hc 6 _ rfl,hc 7 _ rfl,hc 8 _ rfl,hc 9 _ rfl,hc 10 _ rfl,hc 11 _ rfl,hc 12 _ rfl⟩,⟨hc 13 _ rfl,hc 14 _ rfl,hc 15 _ rfl,hc 16 _ rfl,hc 17 _ rfl,hc 18 _ rfl,hc 19 _ rfl,hc 20 _ rfl,hc 21 _ rfl⟩,hc 22 _ rfl,World.there_setCells h _ _ _⟩
theorem O5(p:pl.Pln)(x:pl.PA)(s:Jn)(y:JX)(w:World)(h:joinAt w s y)(hL:okB s.L)(hR:okB s.R):
 Calls Tryz.prog 48 #[pl.As p x,joinV s y] w fun e w'=> ∃K y',e= .returned (.iface (kindP p.kind) (.pointer (some ⟨K,0,none⟩)))/\JSt w w' K (kindT p.kind) p x s y' (.slice none 0 0) []:=by
 have KC:=hIz (fun(w1:World) (hb:Bwz w w1)=>OS s y w1 (h.below hb) hL hR)
 clear h hL hR
 unfold pl.As
 rw[AK]at KC⊢
 go_enter func48,ntmps48
 go_wp2
 generalize hV:(World.alloc (World.alloc w _) _)=V
 have hb0:Bwz w V:=by rw[<-hV];exact(bR.alloc nR _).alloc (by simp) _
 have HP:Hid (BB V w.heap.size p x):=by
  subst hV
  exact Al (CH ..) (bR.alloc nR _)
 have HJ:Hid (BT V (w.heap.size+1) s y):=by
  subst hV
  have:=BI (w.alloc (.cells #[.int .i64 p.kind,.int .i64 p.mode,.int .i64 p.low,.int .i64 p.high,.int .i64 p.size,.int .i64 p.limit,.slice x.l p.left.length x.lc,.slice x.r p.right.length x.rc,.slice x.lk p.lkeys.length x.lkc,.slice x.rk p.rkeys.length x.rkc,.bool p.grouped,.slice x.g p.group.length x.gc,.slice x.a p.aggs.length x.ac] 25)) s y 31
  rw[World.size_alloc]at this
  exact this
 clear hV
 go_cut [5] (fun pt wc=> ∃(B:Nat) (x1 x2:BX),pt= .pointer (some ⟨B,0,none⟩)/\w.heap.size<=B/\Hid (boxC wc B p x s ⟨x1,x2⟩ (.slice none 0 0))/\Hid (BB wc w.heap.size p x)/\Hid (OB wc w.heap.size x1 s.L/\OB wc w.heap.size x2 s.R/\Tm x1 x2)/\Bwz w wc)
 case first=>
  refine gr.B8 6 rfl (by kernel_rfl) (S:=fun w'=>BB w' w.heap.size p x/\BT w' (w.heap.size+1) s y) ⟨HP.out,HJ.out⟩ (fun hHz=>?_)
  refine gr.Ag (v:=.agg #[.int .i64 p.kind,.int .i64 p.mode,.int .i64 p.low,.int .i64 p.high,.int .i64 p.size,.int .i64 p.limit,.slice x.l p.left.length x.lc,.slice x.r p.right.length x.rc,.slice x.lk p.lkeys.length x.lkc,.slice x.rk p.rkeys.length x.rkc,.bool p.grouped,.slice x.g p.group.length x.gc,.slice x.a p.aggs.length x.ac]) 0 (some 6) hHz ?_ (hy:=by intro w' hSw;obtain⟨⟨v0,v1,v2,v3,v4,v5,v6,v7,v8,v9,v10,v11,v12⟩, -⟩:=hSw;go_simp)
  refine gr.Ag (v:=.agg #[.int .i64 s.L.lim,.slice y.l.m.1.1 y.l.m.1.2.1 y.l.m.1.2.2,.slice y.l.ra y.l.rs.length y.l.rc,.int .i64 s.R.lim,.slice y.r.m.1.1 y.r.m.1.2.1 y.r.m.1.2.2,.slice y.r.ra y.r.rs.length y.r.rc,.int .i64 s.lm,.int .i64 s.rm,.int .i64 s.seq]) 1 (some 7) hHz ?_ (hy:=by intro w' hSw;obtain⟨-,⟨u0,u1,u2,u3,u4,u5,u6,u7,u8⟩⟩:=hSw;go_simp)
  refine wpAnyH_ready (rs:=[2,4]) (by kernel_rfl) (by simp) ?_
  refine AllReadyH.cons rfl (fun K hK=>?_) (AllReadyH.cons rfl (fun K hK=>?_) AllReadyH.nil)
  ·go_simp
   go_at_call 91
   refine(KC.out _ hb0.drew).mono ?_
   rintro e wc ⟨⟨x1,x2,rfl,o1,o2,oa⟩,hbc⟩
   rw[AK]
   go_wp2_with fail
   have hy:Bwz V wc:=bR.drew.trans hbc
   refine hK.out _ _ ⟨Al HP.out hy,Aw HJ.out hy⟩ (fun hHz=>?_)
   clear hK K
   try simp only[Act.put,sI,sZ,sS]
   refine gr.Ag (v:=.agg #[.int .i64 p.kind,.int .i64 p.mode,.int .i64 p.low,.int .i64 p.high,.int .i64 p.size,.int .i64 p.limit,.slice x.l p.left.length x.lc,.slice x.r p.right.length x.rc,.slice x.lk p.lkeys.length x.lkc,.slice x.rk p.rkeys.length x.rkc,.bool p.grouped,.slice x.g p.group.length x.gc,.slice x.a p.aggs.length x.ac,.int .i64 s.L.lim,.slice x1.m.1.1 x1.m.1.2.1 x1.m.1.2.2,.slice x1.ra x1.rs.length x1.rc,.int .i64 s.R.lim,.slice x2.m.1.1 x2.m.1.2.1 x2.m.1.2.2,.slice x2.ra x2.rs.length x2.rc,.int .i64 s.lm,.int .i64 s.rm,.int .i64 s.seq,.slice none 0 0]) 3 (some 9) hHz ?_ (hy:=fun w' _=>GS 136 #[(0,.tmp 6),(1,.tmp 8)] rfl _ (by kernel_rfl) w')
   refine wpAnyH_ready (rs:=[4]) (by kernel_rfl) (by simp) ?_
   refine AllReadyH.cons rfl (fun K hK=>?_) AllReadyH.nil
   go_simp
   have hy2:=hy.alloc hy.size
   refine hK.out _ _ ⟨Al HP.out (hy2 _),Aw HJ.out (hy2 _)⟩ (fun hHz=>?_)
   clear hK K
   try simp only[Act.put,sI,sZ,sS]
   refine wpAnyH_ready (rs:=[5]) (by kernel_rfl) (by simp) ?_
   refine AllReadyH.cons rfl (fun K hK=>?_) AllReadyH.nil
   refine Jg rfl 136 (.tmp 5) (.tmp 9) rfl wc.heap.size 0 #[.int .i64 p.kind,.int .i64 p.mode,.int .i64 p.low,.int .i64 p.high,.int .i64 p.size,.int .i64 p.limit,.slice x.l p.left.length x.lc,.slice x.r p.right.length x.rc,.slice x.lk p.lkeys.length x.lkc,.slice x.rk p.rkeys.length x.rkc,.bool p.grouped,.slice x.g p.group.length x.gc,.slice x.a p.aggs.length x.ac,.int .i64 s.L.lim,.slice x1.m.1.1 x1.m.1.2.1 x1.m.1.2.2,.slice x1.ra x1.rs.length x1.rc,.int .i64 s.R.lim,.slice x2.m.1.1 x2.m.1.2.1 x2.m.1.2.2,.slice x2.ra x2.rs.length x2.rc,.int .i64 s.lm,.int .i64 s.rm,.int .i64 s.seq,.slice none 0 0] rfl rfl (LN _ _ _ _ _ _ _ _ _ _ _ _ _ _ _ _ _ _ _ _ _ _ _ _ _) Jh (by simp[Value.oneCell']) ?_
   have hy3:=below_setCells hy.size [.int .i64 p.kind,.int .i64 p.mode,.int .i64 p.low,.int .i64 p.high,.int .i64 p.size,.int .i64 p.limit,.slice x.l p.left.length x.lc,.slice x.r p.right.length x.rc,.slice x.lk p.lkeys.length x.lkc,.slice x.rk p.rkeys.length x.rkc,.bool p.grouped,.slice x.g p.group.length x.gc,.slice x.a p.aggs.length x.ac,.int .i64 s.L.lim,.slice x1.m.1.1 x1.m.1.2.1 x1.m.1.2.2,.slice x1.ra x1.rs.length x1.rc,.int .i64 s.R.lim,.slice x2.m.1.1 x2.m.1.2.1 x2.m.1.2.2,.slice x2.ra x2.rs.length x2.rc,.int .i64 s.lm,.int .i64 s.rm,.int .i64 s.seq,.slice none 0 0] 0 _ (hy2 (.cells #[.int .i64 0,.int .i64 0,.int .i64 0,.int .i64 0,.int .i64 0,.int .i64 0,.slice none 0 0,.slice none 0 0,.slice none 0 0,.slice none 0 0,.bool false,.slice none 0 0,.slice none 0 0,.int .i64 0,.slice none 0 0,.slice none 0 0,.int .i64 0,.slice none 0 0,.slice none 0 0,.int .i64 0,.int .i64 0,.int .i64 0,.slice none 0 0] 136))
   refine hK.out _ _ ⟨Al HP.out hy3,Aw HJ.out hy3⟩ (fun hHz=>?_)
   refine wpAnyH_done (by kernel_rfl) ?_ _
   go_wp2
   go_meet
   exact⟨wc.heap.size,x1,x2,rfl,by have:=hb0.size;have:=hy.size;omega,MS (LN _ _ _ _ _ _ _ _ _ _ _ _ _ _ _ _ _ _ _ _ _ _ _ _ _) p x s ⟨x1,x2⟩ _,hHz.1,⟨Be LO _ _ _ ((Ch o1 hb0.size).below (bR.alloc nR _)) ⟨_,_,World.alloc_heap_new wc _⟩,Be LO _ _ _ ((Ch o2 hb0.size).below (bR.alloc nR _)) ⟨_,_,World.alloc_heap_new wc _⟩,oa⟩,hb0.trans (hy3.mono hb0.size)⟩
  ·go_simp
   have hya:Bwz V ((V.drew).alloc (.cells #[.int .i64 0,.int .i64 0,.int .i64 0,.int .i64 0,.int .i64 0,.int .i64 0,.slice none 0 0,.slice none 0 0,.slice none 0 0,.slice none 0 0,.bool false,.slice none 0 0,.slice none 0 0,.int .i64 0,.slice none 0 0,.slice none 0 0,.int .i64 0,.slice none 0 0,.slice none 0 0,.int .i64 0,.int .i64 0,.int .i64 0,.slice none 0 0] 136)):=bR.drew.alloc nR _
   refine hK.out _ _ ⟨Al HP.out hya,Aw HJ.out hya⟩ (fun hHz=>?_)
   clear hK K
   try simp only[Act.put,sI,sZ,sS]
   refine wpAnyH_ready (rs:=[2]) (by kernel_rfl) (by simp) ?_
   refine AllReadyH.cons rfl (fun K hK=>?_) AllReadyH.nil
   go_simp
   go_at_call 91
   refine(KC.out _ (hb0.trans (hya.mono hb0.size))).mono ?_
   rintro e wc ⟨⟨x1,x2,rfl,o1,o2,oa⟩,hbc⟩
   rw[AK]
   go_wp2_with fail
   have hy:Bwz V wc:=hya.trans (hbc.mono hya.size)
   refine hK.out _ _ ⟨Al HP.out hy,Aw HJ.out hy⟩ (fun hHz=>?_)
   clear hK K
   try simp only[Act.put,sI,sZ,sS]
   refine gr.Ag (v:=.agg #[.int .i64 p.kind,.int .i64 p.mode,.int .i64 p.low,.int .i64 p.high,.int .i64 p.size,.int .i64 p.limit,.slice x.l p.left.length x.lc,.slice x.r p.right.length x.rc,.slice x.lk p.lkeys.length x.lkc,.slice x.rk p.rkeys.length x.rkc,.bool p.grouped,.slice x.g p.group.length x.gc,.slice x.a p.aggs.length x.ac,.int .i64 s.L.lim,.slice x1.m.1.1 x1.m.1.2.1 x1.m.1.2.2,.slice x1.ra x1.rs.length x1.rc,.int .i64 s.R.lim,.slice x2.m.1.1 x2.m.1.2.1 x2.m.1.2.2,.slice x2.ra x2.rs.length x2.rc,.int .i64 s.lm,.int .i64 s.rm,.int .i64 s.seq,.slice none 0 0]) 3 (some 9) hHz ?_ (hy:=fun w' _=>GS 136 #[(0,.tmp 6),(1,.tmp 8)] rfl _ (by kernel_rfl) w')
   refine wpAnyH_ready (rs:=[5]) (by kernel_rfl) (by simp) ?_
   refine AllReadyH.cons rfl (fun K hK=>?_) AllReadyH.nil
   have hro:wc.there V.heap.size 0 23:=BA (LN V.drew 136 (.int .i64 0) (.int .i64 0) (.int .i64 0) (.int .i64 0) (.int .i64 0) (.int .i64 0) (.slice none 0 0) (.slice none 0 0) (.slice none 0 0) (.slice none 0 0) (.bool false) (.slice none 0 0) (.slice none 0 0) (.int .i64 0) (.slice none 0 0) (.slice none 0 0) (.int .i64 0) (.slice none 0 0) (.slice none 0 0) (.int .i64 0) (.int .i64 0) (.int .i64 0) (.slice none 0 0)) hbc
   refine Jg rfl 136 (.tmp 5) (.tmp 9) rfl V.heap.size 0 #[.int .i64 p.kind,.int .i64 p.mode,.int .i64 p.low,.int .i64 p.high,.int .i64 p.size,.int .i64 p.limit,.slice x.l p.left.length x.lc,.slice x.r p.right.length x.rc,.slice x.lk p.lkeys.length x.lkc,.slice x.rk p.rkeys.length x.rkc,.bool p.grouped,.slice x.g p.group.length x.gc,.slice x.a p.aggs.length x.ac,.int .i64 s.L.lim,.slice x1.m.1.1 x1.m.1.2.1 x1.m.1.2.2,.slice x1.ra x1.rs.length x1.rc,.int .i64 s.R.lim,.slice x2.m.1.1 x2.m.1.2.1 x2.m.1.2.2,.slice x2.ra x2.rs.length x2.rc,.int .i64 s.lm,.int .i64 s.rm,.int .i64 s.seq,.slice none 0 0] rfl rfl hro Jh (by simp[Value.oneCell']) ?_
   have hy3:=below_setCells (Nat.le_refl V.heap.size) [.int .i64 p.kind,.int .i64 p.mode,.int .i64 p.low,.int .i64 p.high,.int .i64 p.size,.int .i64 p.limit,.slice x.l p.left.length x.lc,.slice x.r p.right.length x.rc,.slice x.lk p.lkeys.length x.lkc,.slice x.rk p.rkeys.length x.rkc,.bool p.grouped,.slice x.g p.group.length x.gc,.slice x.a p.aggs.length x.ac,.int .i64 s.L.lim,.slice x1.m.1.1 x1.m.1.2.1 x1.m.1.2.2,.slice x1.ra x1.rs.length x1.rc,.int .i64 s.R.lim,.slice x2.m.1.1 x2.m.1.2.1 x2.m.1.2.2,.slice x2.ra x2.rs.length x2.rc,.int .i64 s.lm,.int .i64 s.rm,.int .i64 s.seq,.slice none 0 0] 0 _ hy
   refine hK.out _ _ ⟨Al HP.out hy3,Aw HJ.out hy3⟩ (fun hHz=>?_)
   refine wpAnyH_done (by kernel_rfl) ?_ _
   have hty:An wc V.heap.size 136:=Af ⟨_,_,World.alloc_heap_new V.drew _⟩ hbc
   go_wp2
   go_meet
   exact⟨V.heap.size,x1,x2,rfl,hb0.size,MS hro p x s ⟨x1,x2⟩ _,hHz.1,⟨Be LO _ _ _ (Ch o1 (Nat.le_trans hb0.size hya.size)) hty,Be LO _ _ _ (Ch o2 (Nat.le_trans hb0.size hya.size)) hty,oa⟩,hb0.trans (hy3.mono hb0.size)⟩
 case rest=>
  obtain⟨B,x1,x2,rfl,hB,HC,HPb,HO,hbw⟩:=hcut
  rename World=>W
  have k0:=HPb.out.1
  have HRA:Hid (W.rangeAt B 0 [.int .i64 p.kind,.int .i64 p.mode,.int .i64 p.low,.int .i64 p.high,.int .i64 p.size,.int .i64 p.limit,.slice x.l p.left.length x.lc,.slice x.r p.right.length x.rc,.slice x.lk p.lkeys.length x.lkc,.slice x.rk p.rkeys.length x.rkc,.bool p.grouped,.slice x.g p.group.length x.gc,.slice x.a p.aggs.length x.ac,.int .i64 s.L.lim,.slice x1.m.1.1 x1.m.1.2.1 x1.m.1.2.2,.slice x1.ra x1.rs.length x1.rc,.int .i64 s.R.lim,.slice x2.m.1.1 x2.m.1.2.1 x2.m.1.2.2,.slice x2.ra x2.rs.length x2.rc,.int .i64 s.lm,.int .i64 s.rm,.int .i64 s.seq,.slice none 0 0]):=O4 HC.out
  have HX:Hid (∀T,JSt w (W.alloc (.cells #[.int .i64 p.kind,.int .i64 p.mode,.int .i64 p.low,.int .i64 p.high,.int .i64 p.size,.int .i64 p.limit,.slice x.l p.left.length x.lc,.slice x.r p.right.length x.rc,.slice x.lk p.lkeys.length x.lkc,.slice x.rk p.rkeys.length x.rkc,.bool p.grouped,.slice x.g p.group.length x.gc,.slice x.a p.aggs.length x.ac,.int .i64 s.L.lim,.slice x1.m.1.1 x1.m.1.2.1 x1.m.1.2.2,.slice x1.ra x1.rs.length x1.rc,.int .i64 s.R.lim,.slice x2.m.1.1 x2.m.1.2.1 x2.m.1.2.2,.slice x2.ra x2.rs.length x2.rc,.int .i64 s.lm,.int .i64 s.rm,.int .i64 s.seq,.slice none 0 0] T)) W.heap.size T p x s ⟨x1,x2⟩ (.slice none 0 0) []):=fun T=>by
   have hba:Bwz W (W.alloc (.cells #[.int .i64 p.kind,.int .i64 p.mode,.int .i64 p.low,.int .i64 p.high,.int .i64 p.size,.int .i64 p.limit,.slice x.l p.left.length x.lc,.slice x.r p.right.length x.rc,.slice x.lk p.lkeys.length x.lkc,.slice x.rk p.rkeys.length x.rkc,.bool p.grouped,.slice x.g p.group.length x.gc,.slice x.a p.aggs.length x.ac,.int .i64 s.L.lim,.slice x1.m.1.1 x1.m.1.2.1 x1.m.1.2.2,.slice x1.ra x1.rs.length x1.rc,.int .i64 s.R.lim,.slice x2.m.1.1 x2.m.1.2.1 x2.m.1.2.2,.slice x2.ra x2.rs.length x2.rc,.int .i64 s.lm,.int .i64 s.rm,.int .i64 s.seq,.slice none 0 0] T)):=bR.alloc nR _
   have hn:=Sy W T p x s ⟨x1,x2⟩ (.slice none 0 0) rfl
   exact⟨hn.1,hn.2,hbw.size,HO.out.1.below hba,HO.out.2.1.below hba,HO.out.2.2,CG.start (Nat.le_trans hbw.size hba.size),hbw.trans (hba.mono hbw.size)⟩
  by_cases h1:p.kind=1
  ·have e1:(p.kind==1)=true:=by simpa using h1
   have eP:Hid (kindP p.kind=137):=by show _=_;unfold kindP;rw[if_pos h1]
   have eT:Hid (kindT p.kind=139):=by show _=_;unfold kindT;rw[if_pos h1]
   clear h1
   go_wp2_with (first
    |((with_reducible refine E4 ?_ (.tmp 5) ?_ B ?_ #[.int .i64 p.kind,.int .i64 p.mode,.int .i64 p.low,.int .i64 p.high,.int .i64 p.size,.int .i64 p.limit,.slice x.l p.left.length x.lc,.slice x.r p.right.length x.rc,.slice x.lk p.lkeys.length x.lkc,.slice x.rk p.rkeys.length x.rkc,.bool p.grouped,.slice x.g p.group.length x.gc,.slice x.a p.aggs.length x.ac,.int .i64 s.L.lim,.slice x1.m.1.1 x1.m.1.2.1 x1.m.1.2.2,.slice x1.ra x1.rs.length x1.rc,.int .i64 s.R.lim,.slice x2.m.1.1 x2.m.1.2.1 x2.m.1.2.2,.slice x2.ra x2.rs.length x2.rc,.int .i64 s.lm,.int .i64 s.rm,.int .i64 s.seq,.slice none 0 0] ?_ ?_ ?_);exact rfl;exact rfl;exact rfl;exact rfl;exact HRA.out)
    |((with_reducible refine ES ?_ 139 #[(0,.tmp 14)] ?_ #[.int .i64 p.kind,.int .i64 p.mode,.int .i64 p.low,.int .i64 p.high,.int .i64 p.size,.int .i64 p.limit,.slice x.l p.left.length x.lc,.slice x.r p.right.length x.rc,.slice x.lk p.lkeys.length x.lkc,.slice x.rk p.rkeys.length x.rkc,.bool p.grouped,.slice x.g p.group.length x.gc,.slice x.a p.aggs.length x.ac,.int .i64 s.L.lim,.slice x1.m.1.1 x1.m.1.2.1 x1.m.1.2.2,.slice x1.ra x1.rs.length x1.rc,.int .i64 s.R.lim,.slice x2.m.1.1 x2.m.1.2.1 x2.m.1.2.2,.slice x2.ra x2.rs.length x2.rc,.int .i64 s.lm,.int .i64 s.rm,.int .i64 s.seq,.slice none 0 0] ?_ ?_);exact rfl;exact rfl;exact(by kernel_rfl)))
   go_ret
   exact⟨W.heap.size,⟨x1,x2⟩,by rw[eP.out];rfl,by rw[eT.out];exact HX.out _⟩
  ·have e1:(p.kind==1)=false:=by simpa using h1
   by_cases h2:p.kind=2
   ·have e2:(p.kind==2)=true:=by simpa using h2
    have eP:Hid (kindP p.kind=140):=by show _=_;unfold kindP;rw[if_neg h1,if_pos h2]
    have eT:Hid (kindT p.kind=141):=by show _=_;unfold kindT;rw[if_neg h1,if_pos h2]
    clear h1 h2
    go_wp2_with (first
    |((with_reducible refine E4 ?_ (.tmp 5) ?_ B ?_ #[.int .i64 p.kind,.int .i64 p.mode,.int .i64 p.low,.int .i64 p.high,.int .i64 p.size,.int .i64 p.limit,.slice x.l p.left.length x.lc,.slice x.r p.right.length x.rc,.slice x.lk p.lkeys.length x.lkc,.slice x.rk p.rkeys.length x.rkc,.bool p.grouped,.slice x.g p.group.length x.gc,.slice x.a p.aggs.length x.ac,.int .i64 s.L.lim,.slice x1.m.1.1 x1.m.1.2.1 x1.m.1.2.2,.slice x1.ra x1.rs.length x1.rc,.int .i64 s.R.lim,.slice x2.m.1.1 x2.m.1.2.1 x2.m.1.2.2,.slice x2.ra x2.rs.length x2.rc,.int .i64 s.lm,.int .i64 s.rm,.int .i64 s.seq,.slice none 0 0] ?_ ?_ ?_);exact rfl;exact rfl;exact rfl;exact rfl;exact HRA.out)
    |((with_reducible refine ES ?_ 141 #[(0,.tmp 20)] ?_ #[.int .i64 p.kind,.int .i64 p.mode,.int .i64 p.low,.int .i64 p.high,.int .i64 p.size,.int .i64 p.limit,.slice x.l p.left.length x.lc,.slice x.r p.right.length x.rc,.slice x.lk p.lkeys.length x.lkc,.slice x.rk p.rkeys.length x.rkc,.bool p.grouped,.slice x.g p.group.length x.gc,.slice x.a p.aggs.length x.ac,.int .i64 s.L.lim,.slice x1.m.1.1 x1.m.1.2.1 x1.m.1.2.2,.slice x1.ra x1.rs.length x1.rc,.int .i64 s.R.lim,.slice x2.m.1.1 x2.m.1.2.1 x2.m.1.2.2,.slice x2.ra x2.rs.length x2.rc,.int .i64 s.lm,.int .i64 s.rm,.int .i64 s.seq,.slice none 0 0] ?_ ?_);exact rfl;exact rfl;exact(by kernel_rfl)))
    go_ret
    exact⟨W.heap.size,⟨x1,x2⟩,by rw[eP.out];rfl,by rw[eT.out];exact HX.out _⟩
   ·have e2:(p.kind==2)=false:=by simpa using h2
    have eP:Hid (kindP p.kind=142):=by show _=_;unfold kindP;rw[if_neg h1,if_neg h2]
    have eT:Hid (kindT p.kind=143):=by show _=_;unfold kindT;rw[if_neg h1,if_neg h2]
    clear h1 h2
    go_wp2_with (first
    |((with_reducible refine E4 ?_ (.tmp 5) ?_ B ?_ #[.int .i64 p.kind,.int .i64 p.mode,.int .i64 p.low,.int .i64 p.high,.int .i64 p.size,.int .i64 p.limit,.slice x.l p.left.length x.lc,.slice x.r p.right.length x.rc,.slice x.lk p.lkeys.length x.lkc,.slice x.rk p.rkeys.length x.rkc,.bool p.grouped,.slice x.g p.group.length x.gc,.slice x.a p.aggs.length x.ac,.int .i64 s.L.lim,.slice x1.m.1.1 x1.m.1.2.1 x1.m.1.2.2,.slice x1.ra x1.rs.length x1.rc,.int .i64 s.R.lim,.slice x2.m.1.1 x2.m.1.2.1 x2.m.1.2.2,.slice x2.ra x2.rs.length x2.rc,.int .i64 s.lm,.int .i64 s.rm,.int .i64 s.seq,.slice none 0 0] ?_ ?_ ?_);exact rfl;exact rfl;exact rfl;exact rfl;exact HRA.out)
    |((with_reducible refine ES ?_ 143 #[(0,.tmp 24)] ?_ #[.int .i64 p.kind,.int .i64 p.mode,.int .i64 p.low,.int .i64 p.high,.int .i64 p.size,.int .i64 p.limit,.slice x.l p.left.length x.lc,.slice x.r p.right.length x.rc,.slice x.lk p.lkeys.length x.lkc,.slice x.rk p.rkeys.length x.rkc,.bool p.grouped,.slice x.g p.group.length x.gc,.slice x.a p.aggs.length x.ac,.int .i64 s.L.lim,.slice x1.m.1.1 x1.m.1.2.1 x1.m.1.2.2,.slice x1.ra x1.rs.length x1.rc,.int .i64 s.R.lim,.slice x2.m.1.1 x2.m.1.2.1 x2.m.1.2.2,.slice x2.ra x2.rs.length x2.rc,.int .i64 s.lm,.int .i64 s.rm,.int .i64 s.seq,.slice none 0 0] ?_ ?_);exact rfl;exact rfl;exact(by kernel_rfl)))
    go_ret
    exact⟨W.heap.size,⟨x1,x2⟩,by rw[eP.out];rfl,by rw[eT.out];exact HX.out _⟩
end jn
end Go.Proofs.YtdohnkkbkfhphaaGreat
