import Derived.Test.YtfkihidbnfkbaaaGreatDoorPv28
set_option linter.all false
set_option maxHeartbeats 8000000
set_option maxRecDepth 100000
open Go.ChangeShapes Go.WideShapes Go.ChangeAt Go.RowKit Go.Maps Go.WideMaps List
open Inhabited renaming default->ϰ
namespace Go.Proofs.YtfkihidbnfkbaaaGreatDoor
open Go.Proofs.Tryz
namespace jn
open vl bf
attribute [local go_sem] Oper.semAt_some
variable {ops : Array Oper} {o op : Oper} {a : Act} {Q : Exit -> Act -> World -> Prop} {w : Ϙ} {rest : List Oper} {b : Nat} {p : pl.Pln}
def kindT(k:Int):TypeId:=if k=1 then 270 else if k=2 then 272 else 274
def kindP(k:Int):TypeId:=if k=1 then 268 else if k=2 then 271 else 273
theorem L3{K:Act->World->Prop}{E:Prop}(e:op.guard=none)(c:TypeId)(x y:Operand)(g:op.op= .store c x y)
 (b o:Nat) (cells:Array Value) (m:a.eval x= .pointer (some ⟨b,o,none⟩)) (hy:a.eval y= .agg cells) (i:w.there b o cells.size) (f:(Tryz.prog.info? c).map (·.size)=some cells.size) (d:cells.all (·.oneCell')=true)
 (h:K (a.put op.dst undef) (w.setCells b o cells.toList)):
 if Region.wanted op (yielded ops a.tmps)=true then Oper.wp Tryz.prog op a w K Q else E:=by
 have j:Region.wanted op (yielded ops a.tmps)=true:=by simp[Region.wanted,e]
 rw[if_pos j];exact wp_store_mid c x y g b o cells m hy i f d h
theorem Kl:(Tryz.prog.info? 267).map (·.size)=some 23:=ϟ
theorem I9(t:TypeId)(c:Array (Nat×Operand))(d:o.op= .build t c)(cells:Array Value)(h:Tryz.prog.built t (c.map λ(i,x)=>(i,a.eval x)).toList=some cells)(w:Ϙ):(execOp a.eval o).run Tryz.prog w= .ok (.value (.agg cells)) w:=by
 unfold execOp;simp only[d,Sem.run_bind,run_build w t _ cells h,Result.andThen_ok];rfl
theorem Oe(w:Ϙ)(t:TypeId)(c d x C c4 D E F G H e f g i m q r s u v z A B:Value):(w.alloc (.cells #[c,d,x,C,c4,D,E,F,G,H,e,f,g,i,m,q,r,s,u,v,z,A,B] t)).there w.heap.size 0 23:=by
 intro j I
 match j,I with
 |0,_=>exact⟨Ϡ,Ϡ⟩
 |1,_=>exact⟨Ϡ,Ϡ⟩
 |2,_=>exact⟨Ϡ,Ϡ⟩
 |3,_=>exact⟨Ϡ,Ϡ⟩
 |4,_=>exact⟨Ϡ,Ϡ⟩
 |5,_=>exact⟨Ϡ,Ϡ⟩
 |6,_=>exact⟨Ϡ,Ϡ⟩
 |7,_=>exact⟨Ϡ,Ϡ⟩
 |8,_=>exact⟨Ϡ,Ϡ⟩
 |9,_=>exact⟨Ϡ,Ϡ⟩
 |10,_=>exact⟨Ϡ,Ϡ⟩
 |11,_=>exact⟨Ϡ,Ϡ⟩
 |12,_=>exact⟨Ϡ,Ϡ⟩
 |13,_=>exact⟨Ϡ,Ϡ⟩
 |14,_=>exact⟨Ϡ,Ϡ⟩
 |15,_=>exact⟨Ϡ,Ϡ⟩
 |16,_=>exact⟨Ϡ,Ϡ⟩
 |17,_=>exact⟨Ϡ,Ϡ⟩
 |18,_=>exact⟨Ϡ,Ϡ⟩
 |19,_=>exact⟨Ϡ,Ϡ⟩
 |20,_=>exact⟨Ϡ,Ϡ⟩
 |21,_=>exact⟨Ϡ,Ϡ⟩
 |22,_=>exact⟨Ϡ,Ϡ⟩
 |n+23,h=>exact absurd h Ϝ
theorem FT(e:o.guard=none)(t:TypeId)(c:Array (Nat×Operand))(f:o.op= .build t c)(cells:Array Value)
 (d:Tryz.prog.built t (c.map λ(i,x)=>(i,a.eval x)).toList=some cells) (h:wpList Tryz.prog ops Q rest (a.put o.dst (.agg cells)) w):wpList Tryz.prog ops Q (o::rest) a w:=
 wpList_build e t c f (by rw[d];rfl) (by rw[d];exact h)
theorem Ri{U:Ϙ}{x:pl.PA}{s:Jn}{y:JX}{t:Value}(h:boxC U b p x s y t):U.rangeAt b 0 [vI p.kind,vI p.mode,vI p.low,vI p.high,vI p.size,vI p.limit,vS x.l p.left.length x.lc,vS x.r p.right.length x.rc,vS x.lk p.lkeys.length x.lkc,vS x.rk p.rkeys.length x.rkc,.bool p.grouped,vS x.g p.group.length x.gc,vS x.a p.aggs.length x.ac,vI s.L.lim,vS y.l.m.1.1 y.l.m.1.2.1 y.l.m.1.2.2,vS y.l.ra y.l.rs.length y.l.rc,vI s.R.lim,vS y.r.m.1.1 y.r.m.1.2.1 y.r.m.1.2.2,vS y.r.ra y.r.rs.length y.r.rc,vI s.lm,vI s.rm,vI s.seq,t]:=λj v c=>by
 obtain⟨e,f,q,r,u,z,A,B,C,D,g,i,m⟩:=h.plan;obtain⟨u0,u1,u2,u3,u4,u5,u6,u7,u8⟩:=h.join;have d:=h.told
 match j,c with
 |0,c=>injection c with c;subst c;exact e
 |1,c=>injection c with c;subst c;exact f
 |2,c=>injection c with c;subst c;exact q
 |3,c=>injection c with c;subst c;exact r
 |4,c=>injection c with c;subst c;exact u
 |5,c=>injection c with c;subst c;exact z
 |6,c=>injection c with c;subst c;exact A
 |7,c=>injection c with c;subst c;exact B
 |8,c=>injection c with c;subst c;exact C
 |9,c=>injection c with c;subst c;exact D
 |10,c=>injection c with c;subst c;exact g
 |11,c=>injection c with c;subst c;exact i
 |12,c=>injection c with c;subst c;exact m
 |13,c=>injection c with c;subst c;exact u0
 |14,c=>injection c with c;subst c;exact u1
 |15,c=>injection c with c;subst c;exact u2
 |16,c=>injection c with c;subst c;exact u3
 |17,c=>injection c with c;subst c;exact u4
 |18,c=>injection c with c;subst c;exact u5
 |19,c=>injection c with c;subst c;exact u6
 |20,c=>injection c with c;subst c;exact u7
 |21,c=>injection c with c;subst c;exact u8
 |22,c=>injection c with c;subst c;exact d
 |n+23,c=>cases c
theorem Fw(e:op.guard=none)(x:Operand)(g:op.op= .load 267 x)(b:Nat)(i:a.eval x= .pointer (τ b))(c:Array Value)(f:c.size=23)(d:w.rangeAt b 0 c.toList)
 (h:wpList Tryz.prog ops Q rest (a.put op.dst (.agg c)) w):wpList Tryz.prog ops Q (op::rest) a w:=
 wpList_load_mid e _ x g b 0 i c.toList _ d underlying267 rfl (by rw[Array.length_toList,f];exact Kl) h
theorem Of:calmT 267:=⟨ϝ,ϝ,ϝ⟩
theorem Wa(w:Ϙ)(T:TypeId)(p:pl.Pln)(x:pl.PA)(s:Jn)(y:JX)(t:Value)(c:t.oneCell'=true):boxC (ξ w #[vI p.kind,vI p.mode,vI p.low,vI p.high,vI p.size,vI p.limit,vS x.l p.left.length x.lc,vS x.r p.right.length x.rc,vS x.lk p.lkeys.length x.lkc,vS x.rk p.rkeys.length x.rkc,.bool p.grouped,vS x.g p.group.length x.gc,vS x.a p.aggs.length x.ac,vI s.L.lim,vS y.l.m.1.1 y.l.m.1.2.1 y.l.m.1.2.2,vS y.l.ra y.l.rs.length y.l.rc,vI s.R.lim,vS y.r.m.1.1 y.r.m.1.2.1 y.r.m.1.2.2,vS y.r.ra y.r.rs.length y.r.rc,vI s.lm,vI s.rm,vI s.seq,t] T) w.heap.size p x s y t/\Ae (ξ w #[vI p.kind,vI p.mode,vI p.low,vI p.high,vI p.size,vI p.limit,vS x.l p.left.length x.lc,vS x.r p.right.length x.rc,vS x.lk p.lkeys.length x.lkc,vS x.rk p.rkeys.length x.rkc,.bool p.grouped,vS x.g p.group.length x.gc,vS x.a p.aggs.length x.ac,vI s.L.lim,vS y.l.m.1.1 y.l.m.1.2.1 y.l.m.1.2.2,vS y.l.ra y.l.rs.length y.l.rc,vI s.R.lim,vS y.r.m.1.1 y.r.m.1.2.1 y.r.m.1.2.2,vS y.r.ra y.r.rs.length y.r.rc,vI s.lm,vI s.rm,vI s.seq,t] T) w.heap.size T:=by
 refine⟨⟨?_,?_,Ϡ,Oe _ _ _ _ _ _ _ _ _ _ _ _ _ _ _ _ _ _ _ _ _ _ _ _ _⟩,⟨_,_,World.alloc_heap_new w _⟩⟩
 ·unfold Bp;refine⟨?_,?_,?_,?_,?_,?_,?_,?_,?_,?_,?_,?_,?_⟩<;>go_simp
 ·unfold jnC;refine⟨?_,?_,?_,?_,?_,?_,?_,?_,?_⟩<;>go_simp
theorem Pq(h:w.there b 0 23)(p:pl.Pln)(x:pl.PA)(s:Jn)(y:JX)(t:Value):boxC (w.setCells b 0 [vI p.kind,vI p.mode,vI p.low,vI p.high,vI p.size,vI p.limit,vS x.l p.left.length x.lc,vS x.r p.right.length x.rc,vS x.lk p.lkeys.length x.lkc,vS x.rk p.rkeys.length x.rkc,.bool p.grouped,vS x.g p.group.length x.gc,vS x.a p.aggs.length x.ac,vI s.L.lim,vS y.l.m.1.1 y.l.m.1.2.1 y.l.m.1.2.2,vS y.l.ra y.l.rs.length y.l.rc,vI s.R.lim,vS y.r.m.1.1 y.r.m.1.2.1 y.r.m.1.2.2,vS y.r.ra y.r.rs.length y.r.rc,vI s.lm,vI s.rm,vI s.seq,t]) b p x s y t:=by
 have d:=World.rangeAt_setCells_same w b 0 [vI p.kind,vI p.mode,vI p.low,vI p.high,vI p.size,vI p.limit,vS x.l p.left.length x.lc,vS x.r p.right.length x.rc,vS x.lk p.lkeys.length x.lkc,vS x.rk p.rkeys.length x.rkc,.bool p.grouped,vS x.g p.group.length x.gc,vS x.a p.aggs.length x.ac,vI s.L.lim,vS y.l.m.1.1 y.l.m.1.2.1 y.l.m.1.2.2,vS y.l.ra y.l.rs.length y.l.rc,vI s.R.lim,vS y.r.m.1.1 y.r.m.1.2.1 y.r.m.1.2.2,vS y.r.ra y.r.rs.length y.r.rc,vI s.lm,vI s.rm,vI s.seq,t] h;have c:∀i v,[vI p.kind,vI p.mode,vI p.low,vI p.high,vI p.size,vI p.limit,vS x.l p.left.length x.lc,vS x.r p.right.length x.rc,vS x.lk p.lkeys.length x.lkc,vS x.rk p.rkeys.length x.rkc,.bool p.grouped,vS x.g p.group.length x.gc,vS x.a p.aggs.length x.ac,vI s.L.lim,vS y.l.m.1.1 y.l.m.1.2.1 y.l.m.1.2.2,vS y.l.ra y.l.rs.length y.l.rc,vI s.R.lim,vS y.r.m.1.1 y.r.m.1.2.1 y.r.m.1.2.2,vS y.r.ra y.r.rs.length y.r.rc,vI s.lm,vI s.rm,vI s.seq,t][i]? =some v->Δ (w.setCells b 0 [vI p.kind,vI p.mode,vI p.low,vI p.high,vI p.size,vI p.limit,vS x.l p.left.length x.lc,vS x.r p.right.length x.rc,vS x.lk p.lkeys.length x.lkc,vS x.rk p.rkeys.length x.rkc,.bool p.grouped,vS x.g p.group.length x.gc,vS x.a p.aggs.length x.ac,vI s.L.lim,vS y.l.m.1.1 y.l.m.1.2.1 y.l.m.1.2.2,vS y.l.ra y.l.rs.length y.l.rc,vI s.R.lim,vS y.r.m.1.1 y.r.m.1.2.1 y.r.m.1.2.2,vS y.r.ra y.r.rs.length y.r.rc,vI s.lm,vI s.rm,vI s.seq,t]) b i v:=λi v e=>by
  have:=d i v e;simpa using this
 exact⟨⟨c 0 _ rfl,c 1 _ rfl,c 2 _ rfl,c 3 _ rfl,c 4 _ rfl,c 5 _ rfl,c 6 _ rfl,c 7 _ rfl,c 8 _ rfl,c 9 _ rfl,c 10 _ rfl,c 11 _ rfl,c 12 _ rfl⟩,⟨c 13 _ rfl,c 14 _ rfl,c 15 _ rfl,c 16 _ rfl,c 17 _ rfl,c 18 _ rfl,c 19 _ rfl,c 20 _ rfl,c 21 _ rfl⟩,c 22 _ rfl,World.there_setCells h _ _ _⟩
theorem Rj(p:pl.Pln)(x:pl.PA)(s:Jn)(y:JX)(w:Ϙ)(h:joinAt w s y)(U:okB s.L)(X:okB s.R):
 η 154 #[pl.Aq p x,joinV s y] w λe w'=> ∃K y',e= .returned (.iface (kindP p.kind) (.pointer (τ K)))/\JSt w w' K (kindT p.kind) p x s y' (vS none 0 0) []:=by
 have I:=hIz (λ(w1:Ϙ) (hb:ϛ w w1)=>So s y w1 (h.below hb) U X);clear h U X;unfold pl.Aq;rw[AP]at I⊢;go_enter func154,ntmps154;go_wp2;generalize D:(World.alloc (World.alloc w _) _)=V;have m:ϛ w V:=by rw[<-D];exact ϧ.alloc Ϟ _
 have r:Ϛ (Bp V w p x):=by
  subst D;exact Ak (CH ..) ϧ
 have q:Ϛ (BS V (w+1) s y):=by
  subst D;have:=Ck (ξ w (Φ p x) 32) s y 38;rw[World.size_alloc]at this;exact this
 clear D
 go_cut [5] (λpt wc=> ∃(B:Nat) (c d:BX),pt= .pointer (τ B)/\w.heap.size<=B/\Ϛ (boxC wc B p x s ⟨c,d⟩ (vS none 0 0))/\Ϛ (Bp wc w p x)/\Ϛ (OB wc w c s.L/\OB wc w d s.R/\XJ c d)/\ϛ w wc)
 case first=>
  refine gr.CP 6 rfl ϟ (S:=λw'=>Bp w' w p x/\BS w' (w+1) s y) ⟨r.o,q.o⟩ (λi=>?_);refine gr.PC (v:=.agg (Φ p x)) 0 (some 6) i ?_ (hy:=by intro w' J;obtain⟨⟨v0,v1,v2,v3,v4,v5,v6,v7,v8,v9,ac,ad,ae⟩, -⟩:=J;go_simp);refine gr.PC (v:=.agg (Ψ s y)) 1 (some 7) i ?_ (hy:=by intro w' J;obtain⟨-,⟨u0,u1,u2,u3,u4,u5,u6,u7,u8⟩⟩:=J;go_simp);refine wpAnyH_ready (rs:=[2,4]) ϟ Ϟ ?_;refine AllReadyH.cons rfl (λK f=>?_) (AllReadyH.cons rfl (λK f=>?_) AllReadyH.nil)
  ·go_simp;go_at_call 213;refine(I.o _ m.drew).mono ?_;rintro e wc ⟨⟨c,d,rfl,O,P,R⟩,C⟩;rw[AP];go_wp2_with fail;have g:ϛ V wc:=bR.drew.trans C;refine f.out _ _ ⟨Ak r.o g,A1 q.o g⟩ (λi=>?_);clear f K
   try simp only[Act.put,sI,sZ,sS]
   refine gr.PC (v:=.agg #[vI p.kind,vI p.mode,vI p.low,vI p.high,vI p.size,vI p.limit,vS x.l p.left.length x.lc,vS x.r p.right.length x.rc,vS x.lk p.lkeys.length x.lkc,vS x.rk p.rkeys.length x.rkc,.bool p.grouped,vS x.g p.group.length x.gc,vS x.a p.aggs.length x.ac,vI s.L.lim,vS c.m.1.1 c.m.1.2.1 c.m.1.2.2,vS c.ra c.rs.length c.rc,vI s.R.lim,vS d.m.1.1 d.m.1.2.1 d.m.1.2.2,vS d.ra d.rs.length d.rc,vI s.lm,vI s.rm,vI s.seq,ψ]) 3 (some 9) i ?_ (hy:=λw' _=>I9 267 #[(0,.tmp 6),(1,.tmp 8)] rfl _ ϟ w');refine rD 4 λK f=>?_;go_simp;have N:=g.alloc g.size;refine f.out _ _ ⟨Ak r.o (N _),A1 q.o (N _)⟩ (λi=>?_);clear f K
   try simp only[Act.put,sI,sZ,sS]
   refine rD 5 λK f=>?_;refine L3 rfl 267 (.tmp 5) (.tmp 9) rfl wc.heap.size 0 #[vI p.kind,vI p.mode,vI p.low,vI p.high,vI p.size,vI p.limit,vS x.l p.left.length x.lc,vS x.r p.right.length x.rc,vS x.lk p.lkeys.length x.lkc,vS x.rk p.rkeys.length x.rkc,.bool p.grouped,vS x.g p.group.length x.gc,vS x.a p.aggs.length x.ac,vI s.L.lim,vS c.m.1.1 c.m.1.2.1 c.m.1.2.2,vS c.ra c.rs.length c.rc,vI s.R.lim,vS d.m.1.1 d.m.1.2.1 d.m.1.2.2,vS d.ra d.rs.length d.rc,vI s.lm,vI s.rm,vI s.seq,ψ] rfl rfl (Oe _ _ _ _ _ _ _ _ _ _ _ _ _ _ _ _ _ _ _ _ _ _ _ _ _) Kl ϥ ?_;have t:=below_setCells g.size [vI p.kind,vI p.mode,vI p.low,vI p.high,vI p.size,vI p.limit,vS x.l p.left.length x.lc,vS x.r p.right.length x.rc,vS x.lk p.lkeys.length x.lkc,vS x.rk p.rkeys.length x.rkc,.bool p.grouped,vS x.g p.group.length x.gc,vS x.a p.aggs.length x.ac,vI s.L.lim,vS c.m.1.1 c.m.1.2.1 c.m.1.2.2,vS c.ra c.rs.length c.rc,vI s.R.lim,vS d.m.1.1 d.m.1.2.1 d.m.1.2.2,vS d.ra d.rs.length d.rc,vI s.lm,vI s.rm,vI s.seq,ψ] 0 _ (N (.cells #[ω,ω,ω,ω,ω,ω,ψ,ψ,ψ,ψ,ϋ,ψ,ψ,ω,ψ,ψ,ω,ψ,ψ,ω,ω,ω,ψ] 267));refine f.out _ _ ⟨Ak r.o t,A1 q.o t⟩ (λi=>?_);refine wpAnyH_done ϟ ?_ _;go_wp2;go_meet;exact⟨wc.heap.size,c,d,rfl,by have:=m.size;have:=g.size;omega,Pq (Oe _ _ _ _ _ _ _ _ _ _ _ _ _ _ _ _ _ _ _ _ _ _ _ _ _) p x s ⟨c,d⟩ _,i.1,⟨Bj Of _ _ _ ((Ci O m.size).below ϧ) ⟨_,_,World.alloc_heap_new wc _⟩,Bj Of _ _ _ ((Ci P m.size).below ϧ) ⟨_,_,World.alloc_heap_new wc _⟩,R⟩,bT m t⟩
  ·go_simp;have u:ϛ V (ξ (V.drew) #[ω,ω,ω,ω,ω,ω,ψ,ψ,ψ,ψ,ϋ,ψ,ψ,ω,ψ,ψ,ω,ψ,ψ,ω,ω,ω,ψ] 267):=bR.drew.alloc nR _;refine f.out _ _ ⟨Ak r.o u,A1 q.o u⟩ (λi=>?_);clear f K
   try simp only[Act.put,sI,sZ,sS]
   refine rD 2 λK f=>?_;go_simp;go_at_call 213;refine(I.o _ (bT m u)).mono ?_;rintro e wc ⟨⟨c,d,rfl,O,P,R⟩,C⟩;rw[AP];go_wp2_with fail;have g:ϛ V wc:=bT u C;refine f.out _ _ ⟨Ak r.o g,A1 q.o g⟩ (λi=>?_);clear f K
   try simp only[Act.put,sI,sZ,sS]
   refine gr.PC (v:=.agg #[vI p.kind,vI p.mode,vI p.low,vI p.high,vI p.size,vI p.limit,vS x.l p.left.length x.lc,vS x.r p.right.length x.rc,vS x.lk p.lkeys.length x.lkc,vS x.rk p.rkeys.length x.rkc,.bool p.grouped,vS x.g p.group.length x.gc,vS x.a p.aggs.length x.ac,vI s.L.lim,vS c.m.1.1 c.m.1.2.1 c.m.1.2.2,vS c.ra c.rs.length c.rc,vI s.R.lim,vS d.m.1.1 d.m.1.2.1 d.m.1.2.2,vS d.ra d.rs.length d.rc,vI s.lm,vI s.rm,vI s.seq,ψ]) 3 (some 9) i ?_ (hy:=λw' _=>I9 267 #[(0,.tmp 6),(1,.tmp 8)] rfl _ ϟ w');refine rD 5 λK f=>?_;have Z:wc.there V.heap.size 0 23:=Bz (Oe V.drew 267 (vI 0) (vI 0) (vI 0) (vI 0) (vI 0) (vI 0) (vS none 0 0) (vS none 0 0) (vS none 0 0) (vS none 0 0) (.bool false) (vS none 0 0) (vS none 0 0) (vI 0) (vS none 0 0) (vS none 0 0) (vI 0) (vS none 0 0) (vS none 0 0) (vI 0) (vI 0) (vI 0) (vS none 0 0)) C;refine L3 rfl 267 (.tmp 5) (.tmp 9) rfl V.heap.size 0 #[vI p.kind,vI p.mode,vI p.low,vI p.high,vI p.size,vI p.limit,vS x.l p.left.length x.lc,vS x.r p.right.length x.rc,vS x.lk p.lkeys.length x.lkc,vS x.rk p.rkeys.length x.rkc,.bool p.grouped,vS x.g p.group.length x.gc,vS x.a p.aggs.length x.ac,vI s.L.lim,vS c.m.1.1 c.m.1.2.1 c.m.1.2.2,vS c.ra c.rs.length c.rc,vI s.R.lim,vS d.m.1.1 d.m.1.2.1 d.m.1.2.2,vS d.ra d.rs.length d.rc,vI s.lm,vI s.rm,vI s.seq,ψ] rfl rfl Z Kl ϥ ?_;have t:=below_setCells (Nat.le_refl V.heap.size) [vI p.kind,vI p.mode,vI p.low,vI p.high,vI p.size,vI p.limit,vS x.l p.left.length x.lc,vS x.r p.right.length x.rc,vS x.lk p.lkeys.length x.lkc,vS x.rk p.rkeys.length x.rkc,.bool p.grouped,vS x.g p.group.length x.gc,vS x.a p.aggs.length x.ac,vI s.L.lim,vS c.m.1.1 c.m.1.2.1 c.m.1.2.2,vS c.ra c.rs.length c.rc,vI s.R.lim,vS d.m.1.1 d.m.1.2.1 d.m.1.2.2,vS d.ra d.rs.length d.rc,vI s.lm,vI s.rm,vI s.seq,ψ] 0 _ g
   refine f.out _ _ ⟨Ak r.o t,A1 q.o t⟩ (λi=>?_);refine wpAnyH_done ϟ ?_ _;have aa:Ae wc V 267:=Ad ⟨_,_,World.alloc_heap_new V.drew _⟩ C;go_wp2;go_meet;exact⟨V.heap.size,c,d,rfl,m.size,Pq Z p x s ⟨c,d⟩ _,i.1,⟨Bj Of _ _ _ (Ci O (Nat.le_trans m.size u.size)) aa,Bj Of _ _ _ (Ci P (Nat.le_trans m.size u.size)) aa,R⟩,bT m t⟩
 case rest=>
  obtain⟨B,c,d,rfl,hB,HC,ab,F,L⟩:=hcut;rename World=>W;have k0:=ab.o.1;have G:Ϛ (W.rangeAt B 0 [vI p.kind,vI p.mode,vI p.low,vI p.high,vI p.size,vI p.limit,vS x.l p.left.length x.lc,vS x.r p.right.length x.rc,vS x.lk p.lkeys.length x.lkc,vS x.rk p.rkeys.length x.rkc,.bool p.grouped,vS x.g p.group.length x.gc,vS x.a p.aggs.length x.ac,vI s.L.lim,vS c.m.1.1 c.m.1.2.1 c.m.1.2.2,vS c.ra c.rs.length c.rc,vI s.R.lim,vS d.m.1.1 d.m.1.2.1 d.m.1.2.2,vS d.ra d.rs.length d.rc,vI s.lm,vI s.rm,vI s.seq,ψ]):=Ri HC.o;have H:Ϛ (∀T,JSt w (ξ W #[vI p.kind,vI p.mode,vI p.low,vI p.high,vI p.size,vI p.limit,vS x.l p.left.length x.lc,vS x.r p.right.length x.rc,vS x.lk p.lkeys.length x.lkc,vS x.rk p.rkeys.length x.rkc,.bool p.grouped,vS x.g p.group.length x.gc,vS x.a p.aggs.length x.ac,vI s.L.lim,vS c.m.1.1 c.m.1.2.1 c.m.1.2.2,vS c.ra c.rs.length c.rc,vI s.R.lim,vS d.m.1.1 d.m.1.2.1 d.m.1.2.2,vS d.ra d.rs.length d.rc,vI s.lm,vI s.rm,vI s.seq,ψ] T) W.heap.size T p x s ⟨c,d⟩ (vS none 0 0) []):=λT=>by
   have E:ϛ W (ξ W #[vI p.kind,vI p.mode,vI p.low,vI p.high,vI p.size,vI p.limit,vS x.l p.left.length x.lc,vS x.r p.right.length x.rc,vS x.lk p.lkeys.length x.lkc,vS x.rk p.rkeys.length x.rkc,.bool p.grouped,vS x.g p.group.length x.gc,vS x.a p.aggs.length x.ac,vI s.L.lim,vS c.m.1.1 c.m.1.2.1 c.m.1.2.2,vS c.ra c.rs.length c.rc,vI s.R.lim,vS d.m.1.1 d.m.1.2.1 d.m.1.2.2,vS d.ra d.rs.length d.rc,vI s.lm,vI s.rm,vI s.seq,ψ] T):=ϧ;have Y:=Wa W T p x s ⟨c,d⟩ (vS none 0 0) rfl;exact⟨Y.1,Y.2,L.size,F.o.1.below E,F.o.2.1.below E,F.o.2.2,CG.start (Nat.le_trans L.size E.size),bT L E⟩
  by_cases j:p.kind=1
  ·have e1:(p.kind==1)=true:=by simpa using j
   have z:Ϛ (kindP p.kind=268):=by show _=_;unfold kindP;rw[if_pos j]
   have A:Ϛ (kindT p.kind=270):=by show _=_;unfold kindT;rw[if_pos j]
   clear j;go_wp2_with (first
    |((with_reducible refine Fw ?_ (.tmp 5) ?_ B ?_ #[vI p.kind,vI p.mode,vI p.low,vI p.high,vI p.size,vI p.limit,vS x.l p.left.length x.lc,vS x.r p.right.length x.rc,vS x.lk p.lkeys.length x.lkc,vS x.rk p.rkeys.length x.rkc,.bool p.grouped,vS x.g p.group.length x.gc,vS x.a p.aggs.length x.ac,vI s.L.lim,vS c.m.1.1 c.m.1.2.1 c.m.1.2.2,vS c.ra c.rs.length c.rc,vI s.R.lim,vS d.m.1.1 d.m.1.2.1 d.m.1.2.2,vS d.ra d.rs.length d.rc,vI s.lm,vI s.rm,vI s.seq,ψ] ?_ ?_ ?_);exact rfl;exact rfl;exact rfl;exact rfl;exact G.o)
    |((with_reducible refine FT ?_ 270 #[(0,.tmp 14)] ?_ #[vI p.kind,vI p.mode,vI p.low,vI p.high,vI p.size,vI p.limit,vS x.l p.left.length x.lc,vS x.r p.right.length x.rc,vS x.lk p.lkeys.length x.lkc,vS x.rk p.rkeys.length x.rkc,.bool p.grouped,vS x.g p.group.length x.gc,vS x.a p.aggs.length x.ac,vI s.L.lim,vS c.m.1.1 c.m.1.2.1 c.m.1.2.2,vS c.ra c.rs.length c.rc,vI s.R.lim,vS d.m.1.1 d.m.1.2.1 d.m.1.2.2,vS d.ra d.rs.length d.rc,vI s.lm,vI s.rm,vI s.seq,ψ] ?_ ?_);exact rfl;exact rfl;exact ϟ))
   go_ret;exact⟨W.heap.size,⟨c,d⟩,by rw[z.o];rfl,by rw[A.o];exact H.o _⟩
  ·have e1:(p.kind==1)=false:=by simpa using j
   by_cases n:p.kind=2
   ·have e2:(p.kind==2)=true:=by simpa using n
    have z:Ϛ (kindP p.kind=271):=by show _=_;unfold kindP;rw[if_neg j,if_pos n]
    have A:Ϛ (kindT p.kind=272):=by show _=_;unfold kindT;rw[if_neg j,if_pos n]
    clear j n;go_wp2_with (first
    |((with_reducible refine Fw ?_ (.tmp 5) ?_ B ?_ #[vI p.kind,vI p.mode,vI p.low,vI p.high,vI p.size,vI p.limit,vS x.l p.left.length x.lc,vS x.r p.right.length x.rc,vS x.lk p.lkeys.length x.lkc,vS x.rk p.rkeys.length x.rkc,.bool p.grouped,vS x.g p.group.length x.gc,vS x.a p.aggs.length x.ac,vI s.L.lim,vS c.m.1.1 c.m.1.2.1 c.m.1.2.2,vS c.ra c.rs.length c.rc,vI s.R.lim,vS d.m.1.1 d.m.1.2.1 d.m.1.2.2,vS d.ra d.rs.length d.rc,vI s.lm,vI s.rm,vI s.seq,ψ] ?_ ?_ ?_);exact rfl;exact rfl;exact rfl;exact rfl;exact G.o)
    |((with_reducible refine FT ?_ 272 #[(0,.tmp 20)] ?_ #[vI p.kind,vI p.mode,vI p.low,vI p.high,vI p.size,vI p.limit,vS x.l p.left.length x.lc,vS x.r p.right.length x.rc,vS x.lk p.lkeys.length x.lkc,vS x.rk p.rkeys.length x.rkc,.bool p.grouped,vS x.g p.group.length x.gc,vS x.a p.aggs.length x.ac,vI s.L.lim,vS c.m.1.1 c.m.1.2.1 c.m.1.2.2,vS c.ra c.rs.length c.rc,vI s.R.lim,vS d.m.1.1 d.m.1.2.1 d.m.1.2.2,vS d.ra d.rs.length d.rc,vI s.lm,vI s.rm,vI s.seq,ψ] ?_ ?_);exact rfl;exact rfl;exact ϟ))
    go_ret;exact⟨W.heap.size,⟨c,d⟩,by rw[z.o];rfl,by rw[A.o];exact H.o _⟩
   ·have e2:(p.kind==2)=false:=by simpa using n
    have z:Ϛ (kindP p.kind=273):=by show _=_;unfold kindP;rw[if_neg j,if_neg n]
    have A:Ϛ (kindT p.kind=274):=by show _=_;unfold kindT;rw[if_neg j,if_neg n]
    clear j n;go_wp2_with (first
    |((with_reducible refine Fw ?_ (.tmp 5) ?_ B ?_ #[vI p.kind,vI p.mode,vI p.low,vI p.high,vI p.size,vI p.limit,vS x.l p.left.length x.lc,vS x.r p.right.length x.rc,vS x.lk p.lkeys.length x.lkc,vS x.rk p.rkeys.length x.rkc,.bool p.grouped,vS x.g p.group.length x.gc,vS x.a p.aggs.length x.ac,vI s.L.lim,vS c.m.1.1 c.m.1.2.1 c.m.1.2.2,vS c.ra c.rs.length c.rc,vI s.R.lim,vS d.m.1.1 d.m.1.2.1 d.m.1.2.2,vS d.ra d.rs.length d.rc,vI s.lm,vI s.rm,vI s.seq,ψ] ?_ ?_ ?_);exact rfl;exact rfl;exact rfl;exact rfl;exact G.o)
    |((with_reducible refine FT ?_ 274 #[(0,.tmp 24)] ?_ #[vI p.kind,vI p.mode,vI p.low,vI p.high,vI p.size,vI p.limit,vS x.l p.left.length x.lc,vS x.r p.right.length x.rc,vS x.lk p.lkeys.length x.lkc,vS x.rk p.rkeys.length x.rkc,.bool p.grouped,vS x.g p.group.length x.gc,vS x.a p.aggs.length x.ac,vI s.L.lim,vS c.m.1.1 c.m.1.2.1 c.m.1.2.2,vS c.ra c.rs.length c.rc,vI s.R.lim,vS d.m.1.1 d.m.1.2.1 d.m.1.2.2,vS d.ra d.rs.length d.rc,vI s.lm,vI s.rm,vI s.seq,ψ] ?_ ?_);exact rfl;exact rfl;exact ϟ))
    go_ret;exact⟨W.heap.size,⟨c,d⟩,by rw[z.o];rfl,by rw[A.o];exact H.o _⟩
theorem L4(h:pl.An p=0)(c:p.kind=1):(-1099511627776<=p.low/\p.low<=1099511627776)/\(-1099511627776<=p.high/\p.high<=1099511627776):=by
 have:=(pl.BI h).2.1.1;rw[if_pos c]at this;exact this
theorem Ps{t:Int}(h:tm.Bm t=true): -1099511627776<=t/\t<=1099511627776:=by
 unfold tm.Bm at h;exact of_decide_eq_true h
theorem TT(b:Nat)(p:pl.Pln)(x:pl.PA)(s:Jn)(y:JX)(v:Ev)(i:ϙ)(r:Nat)(L w:Ϙ)(h:JSt L w b 270 p x s y (vS none 0 0) [])(P:p.kind=1)(hg:goodJ p s)(I:comeJ p s v)(hv:vl.rowAt L i v.row):
 η 342 #[μ b,B8 p v i r] w λe w'=>e= .returned (.bool (!(partners p s v).isEmpty))/\∃D B j,JSt L w' b 270 p x (BK p s v) D B j/\j.map CO.chg=Cn p s v/\Bo 270 w w':=by
 have hT:calmC 270:=⟨⟨ϝ,ϝ,ϝ⟩,ϝ⟩;have z:Ϛ (∀N,ϛ w N->CT 346 #[μ b,B8 p v i r,vI (Dy p v),vI (toJ p v)] N λe w'=>e= .returned (.bool (!(partners p s v).isEmpty))/\∃D B j,JSt L w' b 270 p x (BK p s v) D B j/\j.map CO.chg=Cn p s v/\Bo 270 N w'):=λN hb=>Qp b _ p x s y v i r (Dy p v) (toJ p v) L N (h.below hb) hT ϝ hg I.side hv I.err;have hf:=L4 (pl.Da I.err).1 P;have ht:=Ps I.time;have J:=h.box.plan.2.2.1;have K:=h.box.plan.2.2.2.1;have lb:=h.box.lt;have u:Ϛ ((v.side=1->Dy p v=v.time+p.low/\toJ p v=v.time+p.high)/\(v.side≠1->Dy p v=v.time - p.high/\toJ p v=v.time - p.low)):=by
  unfold Dy toJ;rw[if_pos P,if_pos P];exact⟨λe=>by rw[if_pos e,if_pos e];exact⟨rfl,rfl⟩,λe=>by rw[if_neg e,if_neg e];exact⟨rfl,rfl⟩⟩
 clear h P hg I hv;unfold B8 at z⊢;obtain⟨F,h1⟩:=nM (pl.Ar p v.side v.row);obtain⟨G,h2⟩:=nM (pl.hasB p v.side v.row);obtain⟨H,ab⟩:=nM v.row.length;obtain⟨R,hR⟩:=nM (!(partners p s v).isEmpty);obtain⟨q,U⟩:=nM p.low;obtain⟨n,S⟩:=nM p.high;have O:Ϛ (p.low=q/\p.high=n):=⟨U,S⟩;rw[U]at hf J u;rw[S]at hf K u;rw[hR]at z⊢;rw[h1,h2,ab]at z⊢;obtain⟨t,ac⟩:=nM v.side;obtain⟨d,W⟩:=nM v.time;rw[ac,W]at z u⊢;rw[W]at ht;obtain⟨fr,aa⟩:=nM (Dy p v);obtain⟨tO,ad⟩:=nM (toJ p v);rw[aa,ad]at z u;clear h1 h2 ab hR U S ac W aa ad;go_enter func342,ntmps342;by_cases E:t=1
 ·have e1:(t==1)=true:=by simpa using E
  obtain⟨Y,Z⟩:=u.o.1 E;clear E u;subst Y Z;have ae:IntKind.i64.wrap (d+q)=d+q:=by rw[ch.Bt];omega
  have af:IntKind.i64.wrap (d+n)=d+n:=by rw[ch.Bt];omega
  go_wp2;generalize c:(World.alloc w _)=V;have m:ϛ w V:=by rw[<-c];exact ϧ
  have s0:Δ V w 0 (vI t):=by subst c;go_simp
  have s1:Δ V w 1 (vI d):=by subst c;go_simp
  have s2:Δ V w 2 (vS i H r):=by subst c;go_simp
  have s3:Δ V w 3 (.string F):=by subst c;go_simp
  have s4:Δ V w 4 (.bool G):=by subst c;go_simp
  have g:Ϛ (Ae V w 208):=by subst c;exact⟨_,_,World.alloc_heap_new w _⟩
  replace J:=cLz m J;replace K:=cLz m K;clear c
  go_region_held3 (λw'=>Ϗ w' w (vI t) (vI d) (vS i H r) (.string F) (.bool G) (Δ w' b 2 (vI q)/\Δ w' b 3 (vI n))) (first|exact X|go_keep)
   (first
    |(go_at_call 346;refine(z.o _ m.drew).mono ?_;rintro e C ⟨rfl,D,B,j,A,T,f⟩;have X:Ϗ C w (vI t) (vI d) (vS i H r) (.string F) (.bool G) (Δ C b 2 (vI q)/\Δ C b 3 (vI n)):=⟨f.cell g.o ϝ ϝ ϝ s0,f.cell g.o ϝ ϝ ϝ s1,f.cell g.o ϝ ϝ ϝ s2,f.cell g.o ϝ ϝ ϝ s3,f.cell g.o ϝ ϝ ϝ s4,O.o.1▸A.box.plan.2.2.1,O.o.2▸A.box.plan.2.2.2.1⟩))
  all_goals
   go_wp2;go_ret;exact⟨rfl,D,B,j,A,T,(Aw (m.drew)).trans f⟩
 ·have e1:(t==1)=false:=by simpa using E
  obtain⟨Y,Z⟩:=u.o.2 E;clear E u;subst Y Z;have ae:IntKind.i64.wrap (d - n)=d - n:=by rw[ch.Bt];omega
  have af:IntKind.i64.wrap (d - q)=d - q:=by rw[ch.Bt];omega
  go_wp2;generalize c:(World.alloc w _)=V;have m:ϛ w V:=by rw[<-c];exact ϧ
  have s0:Δ V w 0 (vI t):=by subst c;go_simp
  have s1:Δ V w 1 (vI d):=by subst c;go_simp
  have s2:Δ V w 2 (vS i H r):=by subst c;go_simp
  have s3:Δ V w 3 (.string F):=by subst c;go_simp
  have s4:Δ V w 4 (.bool G):=by subst c;go_simp
  have g:Ϛ (Ae V w 208):=by subst c;exact⟨_,_,World.alloc_heap_new w _⟩
  replace J:=cLz m J;replace K:=cLz m K;clear c
  go_region_held3 (λw'=>Ϗ w' w (vI t) (vI d) (vS i H r) (.string F) (.bool G) (Δ w' b 2 (vI q)/\Δ w' b 3 (vI n))) (first|exact X|go_keep)
   (first
    |(go_at_call 346;refine(z.o _ m.drew).mono ?_;rintro e C ⟨rfl,D,B,j,A,T,f⟩;have X:Ϗ C w (vI t) (vI d) (vS i H r) (.string F) (.bool G) (Δ C b 2 (vI q)/\Δ C b 3 (vI n)):=⟨f.cell g.o ϝ ϝ ϝ s0,f.cell g.o ϝ ϝ ϝ s1,f.cell g.o ϝ ϝ ϝ s2,f.cell g.o ϝ ϝ ϝ s3,f.cell g.o ϝ ϝ ϝ s4,O.o.1▸A.box.plan.2.2.1,O.o.2▸A.box.plan.2.2.2.1⟩))
  all_goals
   go_wp2;go_ret;exact⟨rfl,D,B,j,A,T,(Aw (m.drew)).trans f⟩
theorem TU(b:Nat)(p:pl.Pln)(x:pl.PA)(s:Jn)(y:JX)(v:Ev)(g:ϙ)(n:Nat)(q w:Ϙ)(h:JSt q w b 272 p x s y (vS none 0 0) [])(X:p.kind=2)(W:goodJ p s)(j:comeJ p s v)(hv:vl.rowAt q g v.row):
 η 383 #[μ b,B8 p v g n] w λe w'=>e= .returned (.bool (!(partners p s v).isEmpty))/\∃z u f,JSt q w' b 272 p x (BK p s v) z u f/\f.map CO.chg=Cn p s v/\Bo 272 w w':=by
 have hT:calmC 272:=⟨⟨ϝ,ϝ,ϝ⟩,ϝ⟩;have i:Ϛ (∀c,ϛ w c->CT 346 #[μ b,B8 p v g n,vI (Dy p v),vI (toJ p v)] c λe w'=>e= .returned (.bool (!(partners p s v).isEmpty))/\∃z u f,JSt q w' b 272 p x (BK p s v) z u f/\f.map CO.chg=Cn p s v/\Bo 272 c w'):=λc hb=>Qp b _ p x s y v g n (Dy p v) (toJ p v) q c (h.below hb) hT ϝ W j.side hv j.err;have J:1<=p.size/\p.size<=1099511627776:=by
  have:=(pl.BI (pl.Da j.err).1).2.1.2.1;rw[if_pos X]at this;exact this
 have ht:=Ps j.time;have A:Ϛ (∀c,CT 367 #[vI v.time,vI p.size] c λe w'=>e= .returned (.tuple #[vI (Dy p v),vI (toJ p v+1),ω])/\w'=c):=λc=>by
  have:=tm.Mw v.time p.size c j.time J.1 J.2;have e1:Dy p v=tm.start v.time p.size:=by unfold Dy tm.start;rw[if_neg Ϝ]
  have e2:toJ p v+1=tm.start v.time p.size+p.size:=by unfold toJ tm.start;rw[if_neg Ϝ];omega
  rw[e1,e2];exact this
 have ac: -4398046511104<=toJ p v/\toJ p v<=4398046511104:=by
  unfold toJ;rw[if_neg Ϝ];have D:=Int.emod_nonneg v.time (show p.size≠0 by omega);have E:=Int.emod_lt_of_pos v.time (show 0<p.size by omega);omega
 have O:=h.box.plan.2.2.2.2.1;have lb:=h.box.lt;have ab:Ϛ (∀c s y t L,JSt q c b 272 p x s y t L->Δ c b 4 (vI p.size)):=λc s y t L G=>G.box.plan.2.2.2.2.1;clear h X W j hv J ht;unfold B8 at i⊢;obtain⟨K,D⟩:=nM (pl.Ar p v.side v.row);obtain⟨N,E⟩:=nM (pl.hasB p v.side v.row);obtain⟨P,Y⟩:=nM v.row.length;obtain⟨R,T⟩:=nM (!(partners p s v).isEmpty);obtain⟨sz,aa⟩:=nM p.size;rw[aa]at O A ab;rw[T]at i⊢;rw[D,E,Y]at i⊢;obtain⟨S,Z⟩:=nM v.side;obtain⟨C,I⟩:=nM v.time;rw[Z,I]at i⊢;rw[I]at A;obtain⟨fr,U⟩:=nM (Dy p v);obtain⟨B,H⟩:=nM (toJ p v);rw[U,H]at i A;rw[H]at ac;clear D E Y T aa Z I U H;have ad:IntKind.i64.wrap (B+1 - 1)=B:=by rw[ch.Bt];omega
 have ae:IntKind.i64.wrap B=B:=by rw[ch.Bt];omega
 go_enter func383,ntmps383;go_wp2;generalize d:(World.alloc w _)=V;have F:ϛ w V:=by rw[<-d];exact ϧ
 have s0:Δ V w 0 (vI S):=by subst d;go_simp
 have s1:Δ V w 1 (vI C):=by subst d;go_simp
 have s2:Δ V w 2 (vS g P n):=by subst d;go_simp
 have s3:Δ V w 3 (.string K):=by subst d;go_simp
 have s4:Δ V w 4 (.bool N):=by subst d;go_simp
 have r:Ϛ (Ae V w 208):=by subst d;exact⟨_,_,World.alloc_heap_new w _⟩
 replace O:=cLz F O;clear d
 go_region_held3 (λw'=>Δ w' w 1 (vI C)/\Δ w' b 4 (vI sz)) (first|go_keep)
  (first
   |(go_at_call 367;refine(A.o _).mono ?_;rintro e w2 ⟨rfl,rfl⟩))
 go_wp2
 go_region_held3 (λw'=>ό w' w (vI S) (vI C) (vS g P n) (.string K) (.bool N)) (first|exact hy|go_keep)
  (first
   |(go_at_call 346;refine(i.o _ F.drew.drew).mono ?_;rintro e wn ⟨rfl,z,u,f,G,hl,m⟩;have hy:ό wn w (vI S) (vI C) (vS g P n) (.string K) (.bool N):=⟨m.cell r.o ϝ ϝ ϝ s0,m.cell r.o ϝ ϝ ϝ s1,m.cell r.o ϝ ϝ ϝ s2,m.cell r.o ϝ ϝ ϝ s3,m.cell r.o ϝ ϝ ϝ s4⟩))
 all_goals
  go_wp2;go_ret;exact⟨rfl,z,u,f,G,hl,(Aw (F.drew.drew)).trans m⟩
theorem last_at{l:List Ent}{m:Nat}(h:l.length=m+1):l.getLast? =some (l.getD m ϰ):=by
 rw[getLast?_eq_getElem?,h,gDe,Nat.add_sub_cancel,gEe Ϝ];rfl
theorem Y8(b:Nat)(p:pl.Pln)(x:pl.PA)(s:Jn)(y:JX)(v:Ev)(g:ϙ)(i:Nat)(P w:Ϙ)(h:JSt P w b 274 p x s y (vS none 0 0) [])(W:goodJ p s)(L:comeJ p s v)(al:v.side=1)(hv:vl.rowAt P g v.row):
 η 388 #[μ b,B8 p v g i] w λe w'=>e= .returned (.bool (!(Co p s v).isEmpty))/\∃t' L',JSt P w' b 274 p x s y t' L'/\L'.map CO.chg=Hr p s v/\Bo 274 w w':=by
 have hT:calmC 274:=⟨⟨ϝ,ϝ,ϝ⟩,ϝ⟩;have H:=hqz h;have J:Aj s (3 - v.side)=s.R:=by rw[al];rfl
 have ex:Br y (3 - v.side)=y.r:=by rw[al];rfl
 have Z:=DZ L.err;have hp:=(pl.Da L.err).1;have a7:∀z∈Ab s.R,wfE z/\wfP (AZ z):=λz n=>W.wf z (mem_append.2 (.inr n));have ev:BF p s v (-1099511627776) v.time=Co p s v:=by unfold BF Co;rw[J]
 have D:Ϛ (∀c,ϛ w c->CT 352 #[μ b,B8 p v g i,vI (-1099511627776),vI v.time] c λe w'=>(∃Y K,e= .returned (hdV Y)/\OE w' c (hdV Y) K (Co p s v))/\ϛ c w'):=λc j=>by
  have:=GR b p x s y _ v g i (-1099511627776) v.time c L.side (H.o.below j).box (by rw[J,ex];exact(H.o.below j).r.at) (by rw[J];exact W.ok.R) (by rw[J];exact a7);rw[ev]at this;exact this
 have KJ:=hIz (λ(q:List Cel) (qa:ϙ) (qc:Nat) (c:Ϙ) (h1:0<q.length) (h2:q.length<=400) (j:ϛ P c) (hq:vl.rowAt c qa q)=>CC v.side g qa i qc v.row q c Z.1 h1 Z.2 h2 (vl.Ac hv j) hq);have S:=hIz (λ(c:Ϙ) (j:ϛ w c)=>Hn b p x v.side g i v.row c hp L.side (H.o.below j).box.plan (vl.Ac hv (H.o.bl.trans (j.mono H.o.bl.size))) Z.1 Z.2);have KP:=hIz (λ(c:Ϙ)=>Ki p.mode 1 c);have aq:Ϛ (∀k,k<(Co p s v).length->(0<((Co p s v).getD k ϰ).row.length/\((Co p s v).getD k ϰ).row.length<=400)):=λk hk=>by
  rw[<-ev]at hk⊢;exact DZ (Fh W (Ir L.side).1 (Jp (AO hk)))
 have bi:(Co p s v).length<=4096:=by rw[<-ev];exact Jo (by rw[J];exact W.ok.R)
 have G:Ϛ (Hr p s v=match (Co p s v).getLast? with
  |some e=>[⟨1,AX v.side v.row e.row⟩]
  |none=>if Ct p.mode 1=true then [⟨1,AW p v.side v.row⟩]else []):=rfl
 have pm:=h.box.plan.2.1;have lb:=h.box.lt;obtain⟨t,ay⟩:=nM (Co p s v);obtain⟨AT,aw⟩:=nM (Hr p s v);rw[ay]at D aq G bi⊢;rw[aw]at G⊢;unfold B8 at D⊢;obtain⟨kb,h1⟩:=nM (pl.Ar p v.side v.row);obtain⟨kh,h2⟩:=nM (pl.hasB p v.side v.row);obtain⟨r,ak⟩:=nM v.row.length;obtain⟨c2,a1⟩:=nM (Ct p.mode 1);obtain⟨md,a3⟩:=nM p.mode;rw[a1]at KP G;rw[a3]at KP pm;rw[h1,h2,ak]at D⊢;rw[ak]at KJ S;obtain⟨f,a5⟩:=nM v.side;obtain⟨ao,a6⟩:=nM v.time;rw[a5]at D KJ S G⊢;rw[a6]at D⊢;have a9:Ϛ (∀w',ϛ w w'->ϛ P w'):=λw' j=>h.bl.trans (j.mono h.bl.size);clear h W L hv Z hp a7 ev J ex ay aw h1 h2 ak a1 a3 a5 a6 al;go_enter func388,ntmps388;go_wp2;generalize u:(World.alloc w _)=V;have a0:ϛ w V:=by rw[<-u];exact ϧ
 have s0:Δ V w 0 (vI f):=by subst u;go_simp
 have s1:Δ V w 1 (vI ao):=by subst u;go_simp
 have s2:Δ V w 2 (vS g r i):=by subst u;go_simp
 have s3:Δ V w 3 (.string kb):=by subst u;go_simp
 have s4:Δ V w 4 (.bool kh):=by subst u;go_simp
 have bd:Ϛ (Ae V w 208):=by subst u;exact⟨_,_,World.alloc_heap_new w _⟩
 clear u;have SK:Ϛ (∀w',ϛ V w'->ό w' w (vI f) (vI ao) (vS g r i) (.string kb) (.bool kh)):=λw' n=>⟨cLz n s0,cLz n s1,cLz n s2,cLz n s3,cLz n s4⟩
 go_region_held3 (λw'=>ό w' w (vI f) (vI ao) (vS g r i) (.string kb) (.bool kh)) (first|exact SK.o _ N|exact SK.o _ bR.drew|go_keep)
  (first
   |(go_at_call 352;refine(D.o _ a0.drew).mono ?_;rintro e X ⟨⟨Y,K,rfl,ho⟩,bh⟩;have N:ϛ V X:=bR.drew.trans bh;have I:Ϛ (OE X V.heap.size (hdV Y) K t):=ho;clear ho;obtain⟨g1,g2,g3⟩:=Y;unfold hdV;dsimp only))
 have ar:Ϛ (g2=t.length):=by
  show _=_;rw[<-I.o.len];exact(Cx (p:=((g1,g2,g3),K)) I.o).1.1
 have F:ϛ w X:=bT a0 N;have af:Ϛ (JSt P X b 274 p x s y (vS none 0 0) []):=H.o.below F;have t0:=cLz N s0;have t1:=cLz N s1;have t2:=cLz N s2;have bn:=cLz F pm;have ab:Ϛ (Ae X w 208):=Ad bd.o N;clear s0 s1 s2 s3 s4 SK D
 cases hP:t with
 |nil=>
  have ap:Ϛ (false= !t.isEmpty):=by show _=_;rw[hP];rfl
  have n:g2=0:=by rw[ar.o,hP];rfl
  subst n;have C:Ϛ (AT=if c2=true then [⟨1,AW p f v.row⟩]else []):=by show _=_;rw[G.o,hP];rfl
  cases c2 with
  |true=>
   obtain⟨AR,av⟩:=nM (AW p f v.row);rw[av]at S C;obtain⟨an,az⟩:=nM AR.length;rw[az]at S;clear av az;go_wp2_with (go_at_call 354;refine(KP.o _).mono ?_;rintro e X ⟨rfl,rfl⟩);have ai:=af.o.below bR.drew
   go_region_held3 (λw'=>Δ w' w 0 (vI f)/\Δ w' w 2 (vS g r i)) (first|exact aa|go_keep)
    (first
     |(go_at_call 357;refine(E7 ai hT (Nat.zero_le _) T aj).mono ?_;rintro e R ⟨rfl,t8,ah,A⟩;have aa:Δ R w 0 (vI f)/\Δ R w 2 (vS g r i):=⟨A.cell (Ad ab.o d) ϝ ϝ (cLz d t0),A.cell (Ad ab.o d) ϝ ϝ (cLz d t2)⟩)
     |(go_at_call 356;refine(S.o _ F.drew).mono ?_;rintro e B ⟨⟨be,bg,rfl,aj⟩,T⟩;have d:ϛ X B:=bR.drew.trans T;have aa:Δ B w 0 (vI f)/\Δ B w 2 (vS g r i):=⟨cLz d t0,cLz d t2⟩))
   all_goals
    go_wp2;go_ret;exact⟨Aa ap.o,t8,_,ah,by rw[C.o];rfl,((Aw F).trans (Aw d)).trans A.m⟩
  |false=>
   go_wp2_with (go_at_call 354;refine(KP.o _).mono ?_;rintro e X ⟨rfl,rfl⟩);go_ret;exact⟨Aa ap.o,_,[],af.o,by rw[C.o];rfl,Aw F⟩
 |cons z0 zl=>
  obtain⟨m,hm⟩:∃m,t.length=m+1:=⟨zl.length,by rw[hP];rfl⟩;have HM:=hqz hm;have ba:Ϛ (true= !t.isEmpty):=by show _=_;rw[hP];rfl
  have n:g2=m+1:=by rw[ar.o,hm]
  subst n;have ae:m<t.length:=Ϝ;obtain⟨gb,am,ea,x1,x2,x3,x4,x5⟩:=(Cx (p:=((g1,m+1,g3),K)) I.o).2 m (by rw[I.o.len];exact ae);dsimp only at ea;subst ea;have U:=I.o.ers.2 m ae;have ac:=aq.o m ae;have C:Ϛ (AT=[⟨1,AX f v.row (t.getD m ϰ).row⟩]):=by show _=_;rw[G.o,last_at hm]
  obtain⟨E,hE⟩:=nM (t.getD m ϰ);rw[hE]at U ac C;obtain⟨⟨ek,et,bj,⟨O,r2,r3⟩,em⟩,a8⟩:∃z,K.getD m ϰ=z:=⟨_,rfl⟩;rw[a8]at x4 U;unfold hdV at x4;dsimp only at x4;have a4:r2=E.row.length:=U.len;have bb:Ϛ (vl.rowAt X O E.row):=U.row;have ag:Ϛ (∀c,ϛ X c->CT 353 (ν f g r i O r2 r3) c λe w'=>(∃ad au,e= .returned (vS ad (AX f v.row E.row).length au)/\AA w' c (vS ad (AX f v.row E.row).length au) (AX f v.row E.row))/\ϛ c w'):=λc j=>by rw[a4];exact KJ.o E.row O r3 c ac.1 ac.2 (a9.o _ (bT F j)) (vl.Ac bb.o j)
  obtain⟨JR,ax⟩:=nM (AX f v.row E.row);rw[ax]at ag C;obtain⟨jn,a2⟩:=nM JR.length;rw[a2]at ag;have bc:Ϛ (Ae X gb 166):=Ay I.o.own rfl;have i0:(0:Int)<(m:Int)+1:=Ϝ;have i1:(0:Int)<=(m:Int):=Ϝ;have i2:(m:Int)<(m:Int)+1:=Ϝ;have bk:IntKind.i64.wrap ((m:Int)+1 - 1)=(m:Int):=by rw[ch.Bt];omega
  have bm:IntKind.i64.wrap (m:Int)=(m:Int):=by rw[ch.Bt];omega
  have ai:=af.o.below bR.drew;clear hP U ac hE a8 a4 ax a2 x1 x2 x3 x5 hm ae;go_wp2
  go_region_held3 (λw'=>Δ w' w 0 (vI f)/\Δ w' w 2 (vS g r i)/\Δ w' gb (am+m * 5+1+1+1) (vS O r2 r3)) (first|exact aa|go_keep)
   (first
    |(go_at_call 357;refine(E7 ai hT (Nat.zero_le _) T aj).mono ?_;rintro e R ⟨rfl,t8,ah,A⟩;have aa:Δ R w 0 (vI f)/\Δ R w 2 (vS g r i)/\Δ R gb (am+m * 5+1+1+1) (vS O r2 r3):=⟨A.cell (Ad ab.o d) ϝ ϝ (cLz d t0),A.cell (Ad ab.o d) ϝ ϝ (cLz d t2),A.cell (Ad bc.o d) ϝ ϝ (cLz d x4)⟩)
    |(go_at_call 353;refine(ag.o _ bR.drew).mono ?_;rintro e B ⟨⟨be,bg,rfl,aj⟩,T⟩;have d:ϛ X B:=bR.drew.trans T;have aa:Δ B w 0 (vI f)/\Δ B w 2 (vS g r i)/\Δ B gb (am+m * 5+1+1+1) (vS O r2 r3):=⟨cLz d t0,cLz d t2,cLz d x4⟩))
  all_goals
   go_wp2;go_ret;exact⟨Aa ba.o,t8,_,ah,by rw[C.o];rfl,((Aw F).trans (Aw d)).trans A.m⟩
end jn
namespace jn
open vl bf
variable {w w' : Ϙ} {M nn : Nat} {k : ByteArray}
def IA(w:World)(M nn:Nat)(f:ByteArray->Int):Prop:=∃D:DataW Unit,w.ownsMap Tryz.prog 9 (plainElem (H:=Unit) Tryz.prog 3) M nn D/\∀k:ByteArray,k.size<=maxLen->D.atKey (.string k.data.toList) (.lit (.int .i64 0))= .lit (.int .i64 (f k))
theorem Wb(w:Ϙ):IA (w.alloc (.map #[] 0)) w.heap.size 0 (λ_=>0):=⟨_,World.ownsMap_made _ _ _ _,λs c=>rfl⟩
theorem Y9{f:ByteArray->Int}(h:IA w M nn f):M<w.heap.size:=by
 obtain⟨D,c,_⟩:=h;exact c.lt
theorem TV{f:ByteArray->Int}(h:IA w M nn f)(m:w'.heap[M]? =w.heap[M]?):IA w' M nn f:=by
 obtain⟨D,⟨d,c,j,F,i,e⟩,g⟩:=h;exact⟨D,⟨d,c,m.trans j,F,i,e⟩,g⟩
theorem ED{f:ByteArray->Int}(h:IA w M nn f)(c:ϛ w w'):IA w' M nn f:=TV h (c.block M (Y9 h))
theorem TW{f:ByteArray->Int}(h:IA w M nn f)(d:k.size<=maxLen):(Instr.lookup 222 (.map (some M)) (.string k) false).run Tryz.prog w= .ok (.int .i64 (f k)) w:=by
 obtain⟨D,g,i⟩:=h;obtain⟨c,n,j,_⟩:=g.lookup_int ch.law underlying222 underlying3 (Tryz.zeroValue3 w) (keyOf_string_mk underlying9 d);have m:=(i k d).symm.trans j;have e:∀a b:Int,(DataW.lit (Lit.int .i64 a):DataW Unit)= .lit (.int .i64 b)->a=b:=λa b h=>(Lit.int.inj (DataW.lit.inj h)).2;rw[n,e _ _ m]
theorem Wc{f:ByteArray->Int}(h:IA w M nn f)(d:k.size<=maxLen){v:Int}(u:pl.i64 v)(m:nn<maxLen):
 ∃w',(Instr.mapUpdate 222 (.map (some M)) (.string k) (.int .i64 v)).run Tryz.prog w= .ok () w'/\IA w' M (nn+1) (λg=>if g=k then v else f g)/\w.grownBy w' (some M):=by
 obtain⟨D,c,i⟩:=h;obtain⟨w',r,n,j⟩:=c.update ch.law underlying222 m (keyOf_string_mk underlying9 d) (plainElem_int (H:=Unit) (a:=v) underlying3 (Lr u));refine⟨w',r,⟨_,n,λt s=>?_⟩,j⟩;by_cases e:t=k
 ·subst e;rw[atKey_put_same c.isMap (ch.law.key (keyOf_string_mk underlying9 d))];simp
 ·rw[atKey_put_other (λq:Lit.string t.data.toList=Lit.string k.data.toList=>e (NW (Lit.string.inj q))),i t s];simp[e]
end jn
namespace jn
open vl bf
attribute [local go_sem] Oper.semAt_some
variable {l : List Ent} {low : Int} {y : Ent}
def Dc(l:List Ent)(low:Int)(key:ByteArray):Int:=match (l.filter λy=>decide (y.key=key)&&decide (y.time<=low)).getLast? with
 |some y=>y.seq
 |none=>0
theorem TX(s:Jn)(c:ByteArray)(low:Int):lastOf s c low=Dc (DO (Ab s.R)) low c:=rfl
theorem TY(h:¬y.time<=low):Dc (l++[y]) low=Dc l low:=by
 funext k
 unfold Dc;rw[filter_append];have:([y].filter λz=>decide (z.key=k)&&decide (z.time<=low))=[]:=by simp[h]
 rw[this,append_nil]
theorem Rk(h:y.time<=low):Dc (l++[y]) low=λk=>if k=y.key then y.seq else Dc l low k:=by
 funext k
 unfold Dc;rw[filter_append];by_cases e:k=y.key
 ·have:([y].filter λz=>decide (z.key=k)&&decide (z.time<=low))=[y]:=by simp[h,e]
  rw[this,if_pos e,getLast?_append];rfl
 ·have:([y].filter λz=>decide (z.key=k)&&decide (z.time<=low))=[]:=by simp;intro c;exact absurd c.symm e
  rw[this,append_nil,if_neg e]
theorem Rl{k:Nat}(h:k<l.length):l.take (k+1)=l.take k++[l.getD k ϰ]:=by
 rw[take_succ_eq_append_getElem h,gDe,gEe h];rfl
theorem TZ(e:EM)(z:Ent)(low:Int)(f:ByteArray->Int)(A C M nn:Nat)(w:Ϙ)(j:ER w e z)(x:z.key.size<=maxLen)(E:Δ w A 0 (vI low))(G:Δ w C 0 (.map (some M)))(u:IA w M nn f):
 η 387 #[e.val,μ A,μ C] w (θ w (.bool (decide (low<z.time)||decide (f z.key=z.seq)))):=by
 have O:=bLt _ _ E;have P:=bLt _ _ G;have i:=j.key;have m:=j.time;have n:=j.seq;obtain⟨r,c,h,⟨J,K,L⟩,D⟩:=e;dsimp only at i m n;rw[<-i]at x;rw[<-i,<-m,<-n];have v:=ED u ((Below.refl w.heap.size w).alloc nR (.cells (ζ r c h J K L D) 166));have I:=TW v x;obtain⟨F,s⟩:=nM (f r);rw[s]at I⊢;clear j i m n u v s;unfold EM.val hdV;dsimp only;by_cases d:low<c
 ·have g:decide (low<c)=true:=by simpa using d
  have H:∀t,binOp .gtr t (vI c) (vI low)=pure (.bool true):=pl.Fy true (by simpa using d);rw[g,Bool.true_or];clear g d;go_enter func387,ntmps387;go_wp2;go_ret;exact⟨rfl,ϧ⟩
 ·have g:decide (low<c)=false:=by simpa using d
  have H:∀t,binOp .gtr t (vI c) (vI low)=pure (.bool false):=pl.Fy false (by simpa using d);rw[g,Bool.false_or];clear g d;obtain⟨B,q⟩:=nM (decide (F=h));have N:∀t,binOp .eql t (vI F) (vI h)=pure (.bool B):=pl.Aaj B (by rw[<-q];by_cases e:F=h<;>simp[e]);rw[q];clear q;go_enter func387,ntmps387;go_wp2;go_ret;exact⟨rfl,ϧ⟩
def Np(s:Jn)(z:Ent):Bool:=decide (Sp s<z.time)||decide (lastOf s z.key (Sp s)=z.seq)
theorem Aac(s:Jn):Vi s=A7 s 2 (CF (Np s) s.R):=rfl
theorem Pt(b:Nat)(p:pl.Pln)(x:pl.PA)(s:Jn)(y:JX)(t:Value)(L:List CO)(R w:Ϙ)(h:JSt R w b 274 p x s y t L)(hw:pl.wfPlan p)(hp:pl.planAt R p x)(hg:goodJ p s):
 η 384 #[μ b] w λe w'=>e= .returned (.tuple #[])/\∃y',JSt R w' b 274 p x (Vi (Fs p s)) y' t L/\Bo 274 w w':=by
 have hT:calmC 274:=⟨⟨ϝ,ϝ,ϝ⟩,ϝ⟩;have KF:Ϛ (CT 338 #[μ b] w λe w'=>e= .returned (.tuple #[])/\∃y',JSt R w' b 274 p x (Fs p s) y' t L/\Bo 274 w w'):=Is b _ p x s y t L R w h hT ϝ hw hp hg;have ay:goodJ p (Fs p s):=Kb hg;obtain⟨c,bc⟩:=nM (Fs p s);rw[bc]at KF ay⊢;have HG:=hqz ay;clear h hw hp hg bc ay;rw[Aac];obtain⟨Y,aw⟩:=nM (CF (Np c) c.R);have bo:=hqz aw;rw[aw];clear aw;go_enter func384,ntmps384;go_wp2_with (go_at_call 338;refine KF.o.mono ?_;rintro e B ⟨rfl,F,a6,a7⟩;have aj:Ϛ (JSt R B b 274 p x c F t L):=a6;have bi:Ϛ (Bo 274 w B):=a7;clear a6 a7);have l1:=aj.o.box.join.2.2.2.2.2.2.1;have l2:=aj.o.box.join.2.2.2.2.2.2.2.1;obtain⟨low,af⟩:=nM (Sp c);have bm:=hqz af;unfold Sp at af;obtain⟨lm,a9⟩:=nM c.lm;obtain⟨rm,bb⟩:=nM c.rm;rw[a9]at l1 af;rw[bb]at l2 af;clear a9 bb;have lb:b<B.heap.size:=aj.o.box.lt;have al:Ϛ (∀w',ϛ B w'->Δ w' b 19 (vI lm)/\Δ w' b 20 (vI rm)):=λw' D=>⟨cLz D l1,cLz D l2⟩
 go_cut [2] (λpt wc=> ∃A:Nat,pt= .pointer (τ A)/\B.heap.size<=A/\Δ wc A 0 (vI low)/\ϛ B wc)
 case first=>
  refine gr.CP 15 rfl ϟ (S:=λw'=>Δ w' b 19 (vI lm)/\Δ w' b 20 (vI rm)) (al.o _ bR.drew) (λr=>?_);refine tkz 0 12 r ?_;refine tkz 1 13 r ?_;refine tkz 2 14 r ?_;refine tkz 3 15 r ?_;refine tkz 4 16 r ?_;refine tkz 5 17 r ?_;refine tkz 6 18 r ?_;refine tkz 7 19 r ?_;refine tkz 8 20 r ?_;refine tkz 9 21 r ?_;refine tkz 10 22 r ?_;refine tkz 11 23 r ?_;refine gr.PC (v:=vI low) 12 (some 24) r ?_ (hy:=by intro w' b6;go_simp);refine rD 13 λK hK=>?_;go_simp;refine hK.out _ _ (al.o _ ((Below.refl B.heap.size B).drew.alloc nR _)) (λr=>?_);clear hK K
  try simp only[Act.put,sI,sZ,sS]
  refine rD 14 λK hK=>?_;go_simp;refine hK.out _ _ (al.o _ ((Below.refl B.heap.size B).alloc nR _).drew) (λr=>?_);clear hK K;refine wpAnyH_done ϟ ?_ _;go_wp2;go_meet;exact⟨B.heap.size,rfl,Nat.le_refl _,Ϡ,((Below.refl B.heap.size B).alloc nR _).drew⟩
 case rest=>
  obtain⟨A,rfl,hA,ca,a4⟩:=hcut;rename World=>W;have H:Ϛ (JSt R W b 274 p x c F t L):=aj.o.below a4;have ok:=HG.o.ok.R;have ag:∀z∈Ab c.R,wfE z/\wfP (AZ z):=λz D=>HG.o.wf z (mem_append.2 (.inr D));have I:Ϛ (∀j,ϛ W j->CT 386 #[AY c.R F.r] j λe w'=>(∃(E:Hdr) (av:List EM),e= .returned (.tuple #[hdV E,ω])/\OE w' j (hdV E) av (DO (Ab c.R)))/\ϛ j w'):=λj hb=>(GM c.R F.r j (Al H.o.r.at hb) ag (by have:=ok.all;omega) (DX ok)).mono (by
   rintro e w' ⟨⟨E,av,l',rfl,hp,bw,ho⟩,bv⟩;rw[M9 hp bw ok.once]at ho;exact⟨⟨E,av,rfl,ho⟩,bv⟩)
  obtain⟨m,am⟩:=nM (DO (Ab c.R));have bn:=hqz am;have a1:Ϛ (m.length<=4096/\∀k,k<m.length->(m.getD k ϰ).key.size<=maxLen/\pl.i64 (m.getD k ϰ).seq):=by
   rw[<-am];refine⟨by rw[(BC _).length_eq];exact ok.all,λk hk=>?_⟩;have hm:=(BC (Ab c.R)).mem_iff.1 (AO (d:=ϰ) hk);exact⟨(ag _ hm).1.key,(ag _ hm).2.seq⟩
  rw[am]at I;have V:Ϛ (∀(f:ByteArray->Int) (A C M nn:Nat) (j:Ϙ),f=Dc m low->ϛ W j->Δ j A 0 (vI low)->Δ j C 0 (.map (some M))->IA j M nn f->CT 253 #[AY c.R F.r,.func (.func 387) #[] #[μ A,μ C]] j λe w'=>(∃X,e= .returned (AY Y X)/\OB w' j X Y)/\ϛ j w'):=λf A C M nn j hf hb h1 h2 h3=>by
   have a0:=ok.small;have hk:=GB 387 (enters_of func387 ϟ rfl) #[μ A,μ C] (Np c) c.R F.r j (Al H.o.r.at hb) a0.1 a0.2.1 a0.2.2 (λe z w2 O D ax=>by
    have:=TZ e z low f A C M nn w2 O (ag z D).1.key (cLz ax h1) (cLz ax h2) (ED h3 ax);have e1:Np c z=(decide (low<z.time)||decide (f z.key=z.seq)):=by unfold Np;rw[bm.o,TX,bn.o,hf]
    rw[e1];exact this)
   rw[bo.o]at hk;exact hk
  obtain⟨ai,ae,T⟩:=E8 H.o.box.join 2;have aq:Ϛ (∀j,ϛ W j->∀i,i<23->Ξ j b i):=λj hb i hi=>by
   have:=((H.o.below hb).box.room i hi).2;simpa using this
  have eb:Au 2=3:=rfl;have e2:Aj c 2=c.R:=rfl;have e3:Br F 2=F.r:=rfl;rw[eb,e2]at ai;rw[eb,e3]at ae T;obtain⟨yr,be⟩:=nM F.r;rw[be]at I V ae T;obtain⟨b4,b5,⟨⟨m1,m2,m3⟩,ml⟩,rs⟩:=yr;obtain⟨b3,a8⟩:=nM c.R.lim;unfold AY hdV at I V;dsimp only at I V ae T;rw[a8]at I V ai;obtain⟨n,hn⟩:=nM rs.length;rw[hn]at I V T;obtain⟨ln,az⟩:=nM m.length;have ar:=hqz az;have b9:ln<=4096:=by rw[<-az];exact a1.o.1
  have lW:b<W.heap.size:=H.o.box.lt;have lA:A<W.heap.size:=bLt _ _ ca;clear ok ag am eb e2 e3 be a8 hn az l1 l2 al af lb;have b8:=@run_makeMap Tryz.prog;go_wp2_with (go_at_call 386;refine(I.o _ bR).mono ?_;rintro e X ⟨⟨E,es,rfl,ho⟩,a5⟩;have U:Ϛ (OE X W (vS E.1 E.2.1 E.2.2) es m):=ho;clear ho;have bk:Ϛ (E.2.1=ln):=(by show _=_;rw[<-ar.o,<-U.o.len];exact(Cx (p:=(E,es)) U.o).1.1);obtain⟨g1,J,g3⟩:=E;have G:J=ln:=bk.o;subst G;dsimp only at U⊢;have lX:b<X.heap.size:=Nat.lt_of_lt_of_le lW a5.size);have bs:Ϛ (∀w',ϛ X w'->ϛ W w'):=λw' D=>bT a5 D
  go_loopw [38] (λi wr=> ∃(k nn:Nat),k<=J/\i=vI k/\nn<=k/\Ϛ (IA wr X.heap.size nn (Dc (m.take k) low))/\Δ wr (X+1) 0 (.map (some X.heap.size))/\ϛ X wr) (λi _=>J - (intOf i).toNat)
  case atStart=>exact⟨0,0,Nat.zero_le _,rfl,Nat.le_refl _,ED (Wb X) ϧ,Ϡ,ϧ.alloc Ϟ _⟩
  case round=>
   obtain⟨k,nn,hk,rfl,cb,au,ap,u⟩:=hrel;have lw:X.heap.size+1<wr.heap.size:=bLt _ _ ap;have N:ϛ W wr:=bs.o _ u;have a2:=cLz N ca;by_cases b1:k<J
   ·have ao:k<m.length:=by rw[ar.o];exact b1
    obtain⟨gb,cd,ea,x1,x2,x3,x4,x5⟩:=(Cx (p:=((g1,J,g3),es)) U.o).2 k (by rw[U.o.len];exact ao);dsimp only at ea;subst ea;have q1:=cLz u x1;have q2:=cLz u x2;have q3:=cLz u x3;have q4:=cLz u x4;have q5:=cLz u x5;clear x1 x2 x3 x4 x5;have O:=U.o.ers.2 k ao;have ah:=a1.o.2 k ao;have ak:=Rl ao;have aa:=O.key;have ac:=O.time;have ab:=O.seq;obtain⟨⟨ek,et,a3,⟨r1,r2,r3⟩,em⟩,D⟩:∃z,es.getD k ϰ=z:=⟨_,rfl⟩;rw[D]at q1 q2 q3 q4 q5 aa ac ab;unfold hdV at q4;dsimp only at q1 q2 q3 q4 q5 aa ac ab;rw[<-aa,<-ab]at ah;have i1:(0:Int)<=(k:Int):=Ϝ;have i2:(k:Int)<(J:Int):=Ϝ;have la:A<wr.heap.size:=bLt _ _ a2;by_cases G:et<=low
    ·have b0:∀t,binOp .leq t (vI et) (vI low)=pure (.bool true):=pl.Om true (by simpa using G);have HF:Ϛ (Dc (m.take (k+1)) low=λq=>if q=ek then a3 else Dc (m.take k) low q):=by
      show _=_;rw[ak,Rk (by rw[<-ac];exact G),<-aa,<-ab]
     have bd:=ED au.o ((Below.refl wr.heap.size wr).alloc nR (.cells (ζ ek et a3 r1 r2 r3 em) 166));obtain⟨X1,cc,q0,P⟩:=Wc bd ah.1 ah.2 Ϧ;have bq:Ϛ (IA X1 X.heap.size (nn+1) (Dc (m.take (k+1)) low)):=by
      show IA _ _ _ _;rw[HF.o];exact q0
     have b2:Δ X1 (X+1) 0 (.map (some X.heap.size)):=(cOb (w:=wr) (a:=⟨X+1,0,none⟩) ((P.block (X.heap.size+1) (by rw[World.size_alloc];omega) (λe=>by injection e with e;omega)).trans (Below.heap_alloc _ _ _ lw))).trans ap;have bg:Ϛ (ϛ X X1):=⟨P.os.trans u.os,P.tape.trans u.tape,P.output.trans u.output,Nat.le_trans u.size (Nat.le_trans (Nat.le_of_lt (by rw[World.size_alloc];exact Nat.lt_succ_self _)) P.size),λg bx=>((P.block g (by rw[World.size_alloc];have:=u.size;omega) (λe=>by injection e with e;omega)).trans (Below.heap_alloc _ _ _ (by have:=u.size;omega))).trans (u.block g bx)⟩;clear D bd q0 P O aa ac ab ak G ah;go_wp2;go_roundw
     case rel=>exact⟨k+1,nn+1,Ϝ,by go_num,Ϝ,bq,b2,bg.o⟩
     case measure=>simp[intOf];omega
    ·have b0:∀t,binOp .leq t (vI et) (vI low)=pure (.bool false):=pl.Om false (by simpa using G);have HF:Ϛ (Dc (m.take (k+1)) low=Dc (m.take k) low):=by
      show _=_;rw[ak,TY (by rw[<-ac];exact G)]
     clear D O aa ac ab ak G ah;go_wp2;go_roundw
     case rel=>exact⟨k+1,nn,Ϝ,by go_num,Ϝ,by rw[HF.o];exact ED au.o ϧ,cLz ϧ ap,u.alloc u.size _⟩
     case measure=>simp[intOf];omega
   ·have bz:k=J:=Ϝ;subst bz;have b7:¬((k:Int)<(k:Int)):=Ϝ;have bh:Ϛ (Dc (m.take k) low=Dc m low):=by show _=_;rw[<-ar.o,take_length]
    have bu:Ϛ (CT 253 #[.agg (ν b3 m1 m2 m3 b4 n b5),.func (.func 387) #[] #[μ A,μ (X+1)]] wr λe w'=>(∃Z,e= .returned (.agg (Ω Y Z))/\OB w' wr Z Y)/\ϛ wr w'):=V.o _ A (X.heap.size+1) X.heap.size nn wr bh.o N a2 ap au.o;have c0:=cLz N ai;have c1:=cLz N ae;have c2:=cLz N T;clear ai ae T;go_wp2_with (go_at_call 253;refine bu.o.mono ?_;rintro e wp ⟨⟨Z,rfl,ba⟩,an⟩;have bp:Ϛ (OB wp wr Z Y):=ba;have ad:ϛ W wp:=bT N an;have d0:=cLz an c0;have d1:=cLz an c1;have d2:=cLz an c2;have f0:=aq.o _ ad 16 Ϝ;have f1:=aq.o _ ad (16+1) Ϝ;have f2:=aq.o _ ad (16+1+1) Ϝ;clear ba c0 c1 c2);have br:=O7 H.o hT ad 2 bp.o N.size 16 rfl;have bj:=(bi.o.trans (Aw (bT a4 ad))).trans (Fi (H.o.below ad).ty 16 (vI Y.lim) (hdV Z.m.1) (vS Z.ra Z.rs.length Z.rc));exact bodyPost_end (v:=.tuple #[]) (by simp[results,results384,go_sem]) rfl ⟨rfl,_,br,bj⟩
end jn
end Go.Proofs.YtfkihidbnfkbaaaGreatDoor
