import Derived.Test.YtfkihidbnfkbaaaGreatDoorPb26
set_option linter.all false
set_option maxHeartbeats 8000000
set_option maxRecDepth 100000
open Go.ChangeShapes Go.WideShapes Go.ChangeAt Go.RowKit List
open Inhabited renaming default->ϰ
namespace Go.Proofs.YtfkihidbnfkbaaaGreatDoor
open Go.Proofs.Tryz
namespace jn
open vl bf
attribute [local go_sem] Oper.semAt_some
variable {ops : Array Oper} {o op : Oper} {a : Act} {Q : Exit -> Act -> World -> Prop} {X w w' w2 w3 wr : ϙ} {rest : List Oper} {b k m q : Nat} {p : pl.Pln} {x : pl.PA} {s : Jn} {y : JX} {t v : Value} {l ml : List Ent} {T : TypeId} {r : Option Nat}
def kindT(k:Int):TypeId:=if k=1 then 270 else if k=2 then 272 else 274
def kindP(k:Int):TypeId:=if k=1 then 268 else if k=2 then 271 else 273
theorem Jb{K:Act->World->Prop}{E:Prop}(e:op.guard=none)(c:TypeId)(x y:Operand)(g:op.op= .store c x y)
 (b o:Nat) (cells:Array Value) (n:a.eval x= .pointer (some ⟨b,o,none⟩)) (hy:a.eval y= .agg cells) (i:w.there b o cells.size) (f:(Tryz.prog.info? c).map (·.size)=some cells.size) (d:cells.all (·.oneCell')=true)
 (h:K (a.put op.dst undef) (w.setCells b o cells.toList)):
 if Region.wanted op (yielded ops a.tmps)=true then Oper.wp Tryz.prog op a w K Q else E:=by
 have j:Region.wanted op (yielded ops a.tmps)=true:=by simp[Region.wanted,e]
 rw[if_pos j];exact wp_store_mid c x y g b o cells n hy i f d h
theorem Lv:(Tryz.prog.info? 267).map (·.size)=some 23:=Ϡ
theorem JM(t:TypeId)(c:Array (Nat×Operand))(d:o.op= .build t c)(cells:Array Value)(h:Tryz.prog.built t (c.map λ(i,x)=>(i,a.eval x)).toList=some cells)(w:ϙ):(execOp a.eval o).run Tryz.prog w= .ok (.value (.agg cells)) w:=by
 unfold execOp;simp only[d,Sem.run_bind,run_build w t _ cells h,Result.andThen_ok];rfl
theorem PE(w:ϙ)(t:TypeId)(c d E I c4 J K L M N e f g i u z A B C D F G H:Value):(w.alloc (.cells #[c,d,E,I,c4,J,K,L,M,N,e,f,g,i,u,z,A,B,C,D,F,G,H] t)).there w.heap.size 0 23:=by
 intro j O
 match j,O with
 |0,_=>exact⟨ϡ,ϡ⟩
 |1,_=>exact⟨ϡ,ϡ⟩
 |2,_=>exact⟨ϡ,ϡ⟩
 |3,_=>exact⟨ϡ,ϡ⟩
 |4,_=>exact⟨ϡ,ϡ⟩
 |5,_=>exact⟨ϡ,ϡ⟩
 |6,_=>exact⟨ϡ,ϡ⟩
 |7,_=>exact⟨ϡ,ϡ⟩
 |8,_=>exact⟨ϡ,ϡ⟩
 |9,_=>exact⟨ϡ,ϡ⟩
 |10,_=>exact⟨ϡ,ϡ⟩
 |11,_=>exact⟨ϡ,ϡ⟩
 |12,_=>exact⟨ϡ,ϡ⟩
 |13,_=>exact⟨ϡ,ϡ⟩
 |14,_=>exact⟨ϡ,ϡ⟩
 |15,_=>exact⟨ϡ,ϡ⟩
 |16,_=>exact⟨ϡ,ϡ⟩
 |17,_=>exact⟨ϡ,ϡ⟩
 |18,_=>exact⟨ϡ,ϡ⟩
 |19,_=>exact⟨ϡ,ϡ⟩
 |20,_=>exact⟨ϡ,ϡ⟩
 |21,_=>exact⟨ϡ,ϡ⟩
 |22,_=>exact⟨ϡ,ϡ⟩
 |n+23,h=>exact absurd h ϝ
theorem GJ(e:o.guard=none)(t:TypeId)(c:Array (Nat×Operand))(f:o.op= .build t c)(cells:Array Value)
 (d:Tryz.prog.built t (c.map λ(i,x)=>(i,a.eval x)).toList=some cells) (h:wpList Tryz.prog ops Q rest (a.put o.dst (.agg cells)) w):wpList Tryz.prog ops Q (o::rest) a w:=
 wpList_build e t c f (by rw[d];rfl) (by rw[d];exact h)
theorem To{U:ϙ}(h:boxC U b p x s y t):U.rangeAt b 0 [vI p.kind,vI p.mode,vI p.low,vI p.high,vI p.size,vI p.limit,vS x.l p.left.length x.lc,vS x.r p.right.length x.rc,vS x.lk p.lkeys.length x.lkc,vS x.rk p.rkeys.length x.rkc,.bool p.grouped,vS x.g p.group.length x.gc,vS x.a p.aggs.length x.ac,vI s.L.lim,vS y.l.m.1.1 y.l.m.1.2.1 y.l.m.1.2.2,vS y.l.ra y.l.rs.length y.l.rc,vI s.R.lim,vS y.r.m.1.1 y.r.m.1.2.1 y.r.m.1.2.2,vS y.r.ra y.r.rs.length y.r.rc,vI s.lm,vI s.rm,vI s.seq,t]:=λj v c=>by
 obtain⟨e,f,z,A,B,C,D,E,F,G,g,i,u⟩:=h.plan;obtain⟨u0,u1,u2,u3,u4,u5,u6,u7,u8⟩:=h.join;have d:=h.told
 match j,c with
 |0,c=>injection c with c;subst c;exact e
 |1,c=>injection c with c;subst c;exact f
 |2,c=>injection c with c;subst c;exact z
 |3,c=>injection c with c;subst c;exact A
 |4,c=>injection c with c;subst c;exact B
 |5,c=>injection c with c;subst c;exact C
 |6,c=>injection c with c;subst c;exact D
 |7,c=>injection c with c;subst c;exact E
 |8,c=>injection c with c;subst c;exact F
 |9,c=>injection c with c;subst c;exact G
 |10,c=>injection c with c;subst c;exact g
 |11,c=>injection c with c;subst c;exact i
 |12,c=>injection c with c;subst c;exact u
 |13,c=>injection c with c;subst c;exact u0
 |14,c=>injection c with c;subst c;exact u1
 |15,c=>injection c with c;subst c;exact u2
 |16,c=>injection c with c;subst c;exact u3
 |17,c=>injection c with c;subst c;exact u4
 |18,c=>injection c with c;subst c;exact u5
 |19,c=>injection c with c;subst c;exact u6
 |20,c=>injection c with c;subst c;exact u7
 |21,c=>injection c with c;subst c;exact u8
 |22,c=>injection c with c;subst c;exact d
 |n+23,c=>cases c
theorem FQ(e:op.guard=none)(x:Operand)(g:op.op= .load 267 x)(b:Nat)(i:a.eval x= .pointer (τ b))(c:Array Value)(f:c.size=23)(d:w.rangeAt b 0 c.toList)
 (h:wpList Tryz.prog ops Q rest (a.put op.dst (.agg c)) w):wpList Tryz.prog ops Q (op::rest) a w:=
 wpList_load_mid e _ x g b 0 i c.toList _ d underlying267 rfl (by rw[Array.length_toList,f];exact Lv) h
theorem PF:calmT 267:=⟨Ϟ,Ϟ,Ϟ⟩
theorem Zz(w:ϙ)(T:TypeId)(p:pl.Pln)(x:pl.PA)(s:Jn)(y:JX)(t:Value)(c:t.oneCell'=true):boxC (ξ w #[vI p.kind,vI p.mode,vI p.low,vI p.high,vI p.size,vI p.limit,vS x.l p.left.length x.lc,vS x.r p.right.length x.rc,vS x.lk p.lkeys.length x.lkc,vS x.rk p.rkeys.length x.rkc,.bool p.grouped,vS x.g p.group.length x.gc,vS x.a p.aggs.length x.ac,vI s.L.lim,vS y.l.m.1.1 y.l.m.1.2.1 y.l.m.1.2.2,vS y.l.ra y.l.rs.length y.l.rc,vI s.R.lim,vS y.r.m.1.1 y.r.m.1.2.1 y.r.m.1.2.2,vS y.r.ra y.r.rs.length y.r.rc,vI s.lm,vI s.rm,vI s.seq,t] T) w.heap.size p x s y t/\Ai (ξ w #[vI p.kind,vI p.mode,vI p.low,vI p.high,vI p.size,vI p.limit,vS x.l p.left.length x.lc,vS x.r p.right.length x.rc,vS x.lk p.lkeys.length x.lkc,vS x.rk p.rkeys.length x.rkc,.bool p.grouped,vS x.g p.group.length x.gc,vS x.a p.aggs.length x.ac,vI s.L.lim,vS y.l.m.1.1 y.l.m.1.2.1 y.l.m.1.2.2,vS y.l.ra y.l.rs.length y.l.rc,vI s.R.lim,vS y.r.m.1.1 y.r.m.1.2.1 y.r.m.1.2.2,vS y.r.ra y.r.rs.length y.r.rc,vI s.lm,vI s.rm,vI s.seq,t] T) w.heap.size T:=by
 refine⟨⟨?_,?_,ϡ,PE _ _ _ _ _ _ _ _ _ _ _ _ _ _ _ _ _ _ _ _ _ _ _ _ _⟩,⟨_,_,World.alloc_heap_new w _⟩⟩
 ·unfold Bh;refine⟨?_,?_,?_,?_,?_,?_,?_,?_,?_,?_,?_,?_,?_⟩<;>go_simp
 ·unfold jnC;refine⟨?_,?_,?_,?_,?_,?_,?_,?_,?_⟩<;>go_simp
theorem Rh(h:w.there b 0 23)(p:pl.Pln)(x:pl.PA)(s:Jn)(y:JX)(t:Value):boxC (w.setCells b 0 [vI p.kind,vI p.mode,vI p.low,vI p.high,vI p.size,vI p.limit,vS x.l p.left.length x.lc,vS x.r p.right.length x.rc,vS x.lk p.lkeys.length x.lkc,vS x.rk p.rkeys.length x.rkc,.bool p.grouped,vS x.g p.group.length x.gc,vS x.a p.aggs.length x.ac,vI s.L.lim,vS y.l.m.1.1 y.l.m.1.2.1 y.l.m.1.2.2,vS y.l.ra y.l.rs.length y.l.rc,vI s.R.lim,vS y.r.m.1.1 y.r.m.1.2.1 y.r.m.1.2.2,vS y.r.ra y.r.rs.length y.r.rc,vI s.lm,vI s.rm,vI s.seq,t]) b p x s y t:=by
 have d:=World.rangeAt_setCells_same w b 0 [vI p.kind,vI p.mode,vI p.low,vI p.high,vI p.size,vI p.limit,vS x.l p.left.length x.lc,vS x.r p.right.length x.rc,vS x.lk p.lkeys.length x.lkc,vS x.rk p.rkeys.length x.rkc,.bool p.grouped,vS x.g p.group.length x.gc,vS x.a p.aggs.length x.ac,vI s.L.lim,vS y.l.m.1.1 y.l.m.1.2.1 y.l.m.1.2.2,vS y.l.ra y.l.rs.length y.l.rc,vI s.R.lim,vS y.r.m.1.1 y.r.m.1.2.1 y.r.m.1.2.2,vS y.r.ra y.r.rs.length y.r.rc,vI s.lm,vI s.rm,vI s.seq,t] h;have c:∀i v,[vI p.kind,vI p.mode,vI p.low,vI p.high,vI p.size,vI p.limit,vS x.l p.left.length x.lc,vS x.r p.right.length x.rc,vS x.lk p.lkeys.length x.lkc,vS x.rk p.rkeys.length x.rkc,.bool p.grouped,vS x.g p.group.length x.gc,vS x.a p.aggs.length x.ac,vI s.L.lim,vS y.l.m.1.1 y.l.m.1.2.1 y.l.m.1.2.2,vS y.l.ra y.l.rs.length y.l.rc,vI s.R.lim,vS y.r.m.1.1 y.r.m.1.2.1 y.r.m.1.2.2,vS y.r.ra y.r.rs.length y.r.rc,vI s.lm,vI s.rm,vI s.seq,t][i]? =some v->Δ (w.setCells b 0 [vI p.kind,vI p.mode,vI p.low,vI p.high,vI p.size,vI p.limit,vS x.l p.left.length x.lc,vS x.r p.right.length x.rc,vS x.lk p.lkeys.length x.lkc,vS x.rk p.rkeys.length x.rkc,.bool p.grouped,vS x.g p.group.length x.gc,vS x.a p.aggs.length x.ac,vI s.L.lim,vS y.l.m.1.1 y.l.m.1.2.1 y.l.m.1.2.2,vS y.l.ra y.l.rs.length y.l.rc,vI s.R.lim,vS y.r.m.1.1 y.r.m.1.2.1 y.r.m.1.2.2,vS y.r.ra y.r.rs.length y.r.rc,vI s.lm,vI s.rm,vI s.seq,t]) b i v:=λi v e=>by
  have:=d i v e;simpa using this
 exact⟨⟨c 0 _ rfl,c 1 _ rfl,c 2 _ rfl,c 3 _ rfl,c 4 _ rfl,c 5 _ rfl,c 6 _ rfl,c 7 _ rfl,c 8 _ rfl,c 9 _ rfl,c 10 _ rfl,c 11 _ rfl,c 12 _ rfl⟩,⟨c 13 _ rfl,c 14 _ rfl,c 15 _ rfl,c 16 _ rfl,c 17 _ rfl,c 18 _ rfl,c 19 _ rfl,c 20 _ rfl,c 21 _ rfl⟩,c 22 _ rfl,World.there_setCells h _ _ _⟩
theorem Tp(p:pl.Pln)(x:pl.PA)(s:Jn)(y:JX)(w:ϙ)(h:joinAt w s y)(Z:okB s.L)(hR:okB s.R):
 η 154 #[pl.Ap p x,joinV s y] w λe w'=> ∃K y',e= .returned (.iface (kindP p.kind) (.pointer (τ K)))/\JSt w w' K (kindT p.kind) p x s y' (vS none 0 0) []:=by
 have M:=hIz (λ(w1:ϙ) (hb:Ϝ w w1)=>Uw s y w1 (h.below hb) Z hR);clear h Z hR;unfold pl.Ap;rw[AK]at M⊢;go_enter func154,ntmps154;go_wp2;generalize G:(World.alloc (World.alloc w _) _)=V;have j:Ϝ w V:=by rw[<-G];exact Ϩ.alloc ϟ _
 have z:ϛ (Bh V w p x):=by
  subst G;exact Ah (Cg ..) Ϩ
 have u:ϛ (Cb V (w+1) s y):=by
  subst G;have:=Cs (ξ w (Φ p x) 32) s y 38;rw[World.size_alloc]at this;exact this
 clear G
 go_cut [5] (λpt wc=> ∃(B:Nat) (c d:BX),pt= .pointer (τ B)/\w.heap.size<=B/\ϛ (boxC wc B p x s ⟨c,d⟩ (vS none 0 0))/\ϛ (Bh wc w p x)/\ϛ (OB wc w c s.L/\OB wc w d s.R/\AaC c d)/\Ϝ w wc)
 case first=>
  refine gr.Ds 6 rfl Ϡ (S:=λw'=>Bh w' w p x/\Cb w' (w+1) s y) ⟨z.o,u.o⟩ (λg=>?_);refine gr.Rf (v:=.agg (Φ p x)) 0 (some 6) g ?_ (hy:=by intro w' N;obtain⟨⟨v0,v1,v2,v3,v4,v5,v6,v7,v8,v9,ad,ae,af⟩, -⟩:=N;go_simp);refine gr.Rf (v:=.agg (Ψ s y)) 1 (some 7) g ?_ (hy:=by intro w' N;obtain⟨-,⟨u0,u1,u2,u3,u4,u5,u6,u7,u8⟩⟩:=N;go_simp);refine wpAnyH_ready (rs:=[2,4]) Ϡ ϟ ?_;refine AllReadyH.cons rfl (λK f=>?_) (AllReadyH.cons rfl (λK f=>?_) AllReadyH.nil)
  ·go_simp;go_at_call 213;refine(M.o _ j.drew).mono ?_;rintro e wc ⟨⟨c,d,rfl,R,U,Y⟩,F⟩;rw[AK];go_wp2_with fail;have hy:Ϝ V wc:=bR.drew.trans F;refine f.out _ _ ⟨Ah z.o hy,Az u.o hy⟩ (λg=>?_);clear f K
   try simp only[Act.put,sI,sZ,sS]
   refine gr.Rf (v:=.agg #[vI p.kind,vI p.mode,vI p.low,vI p.high,vI p.size,vI p.limit,vS x.l p.left.length x.lc,vS x.r p.right.length x.rc,vS x.lk p.lkeys.length x.lkc,vS x.rk p.rkeys.length x.rkc,.bool p.grouped,vS x.g p.group.length x.gc,vS x.a p.aggs.length x.ac,vI s.L.lim,vS c.m.1.1 c.m.1.2.1 c.m.1.2.2,vS c.ra c.rs.length c.rc,vI s.R.lim,vS d.m.1.1 d.m.1.2.1 d.m.1.2.2,vS d.ra d.rs.length d.rc,vI s.lm,vI s.rm,vI s.seq,ψ]) 3 (some 9) g ?_ (hy:=λw' _=>JM 267 #[(0,.tmp 6),(1,.tmp 8)] rfl _ Ϡ w');refine rD 4 λK f=>?_;go_simp;have P:=hy.alloc hy.size;refine f.out _ _ ⟨Ah z.o (P _),Az u.o (P _)⟩ (λg=>?_);clear f K
   try simp only[Act.put,sI,sZ,sS]
   refine rD 5 λK f=>?_;refine Jb rfl 267 (.tmp 5) (.tmp 9) rfl wc.heap.size 0 #[vI p.kind,vI p.mode,vI p.low,vI p.high,vI p.size,vI p.limit,vS x.l p.left.length x.lc,vS x.r p.right.length x.rc,vS x.lk p.lkeys.length x.lkc,vS x.rk p.rkeys.length x.rkc,.bool p.grouped,vS x.g p.group.length x.gc,vS x.a p.aggs.length x.ac,vI s.L.lim,vS c.m.1.1 c.m.1.2.1 c.m.1.2.2,vS c.ra c.rs.length c.rc,vI s.R.lim,vS d.m.1.1 d.m.1.2.1 d.m.1.2.2,vS d.ra d.rs.length d.rc,vI s.lm,vI s.rm,vI s.seq,ψ] rfl rfl (PE _ _ _ _ _ _ _ _ _ _ _ _ _ _ _ _ _ _ _ _ _ _ _ _ _) Lv Ϧ ?_;have A:=below_setCells hy.size [vI p.kind,vI p.mode,vI p.low,vI p.high,vI p.size,vI p.limit,vS x.l p.left.length x.lc,vS x.r p.right.length x.rc,vS x.lk p.lkeys.length x.lkc,vS x.rk p.rkeys.length x.rkc,.bool p.grouped,vS x.g p.group.length x.gc,vS x.a p.aggs.length x.ac,vI s.L.lim,vS c.m.1.1 c.m.1.2.1 c.m.1.2.2,vS c.ra c.rs.length c.rc,vI s.R.lim,vS d.m.1.1 d.m.1.2.1 d.m.1.2.2,vS d.ra d.rs.length d.rc,vI s.lm,vI s.rm,vI s.seq,ψ] 0 _ (P (.cells #[ω,ω,ω,ω,ω,ω,ψ,ψ,ψ,ψ,ϋ,ψ,ψ,ω,ψ,ψ,ω,ψ,ψ,ω,ω,ω,ψ] 267));refine f.out _ _ ⟨Ah z.o A,Az u.o A⟩ (λg=>?_);refine wpAnyH_done Ϡ ?_ _;go_wp2;go_meet;exact⟨wc.heap.size,c,d,rfl,by have:=j.size;have:=hy.size;omega,Rh (PE _ _ _ _ _ _ _ _ _ _ _ _ _ _ _ _ _ _ _ _ _ _ _ _ _) p x s ⟨c,d⟩ _,g.1,⟨Bt PF _ _ _ ((Ct R j.size).below Ϩ) ⟨_,_,World.alloc_heap_new wc _⟩,Bt PF _ _ _ ((Ct U j.size).below Ϩ) ⟨_,_,World.alloc_heap_new wc _⟩,Y⟩,bT j A⟩
  ·go_simp;have C:Ϝ V (ξ (V.drew) #[ω,ω,ω,ω,ω,ω,ψ,ψ,ψ,ψ,ϋ,ψ,ψ,ω,ψ,ψ,ω,ψ,ψ,ω,ω,ω,ψ] 267):=bR.drew.alloc nR _;refine f.out _ _ ⟨Ah z.o C,Az u.o C⟩ (λg=>?_);clear f K
   try simp only[Act.put,sI,sZ,sS]
   refine rD 2 λK f=>?_;go_simp;go_at_call 213;refine(M.o _ (bT j C)).mono ?_;rintro e wc ⟨⟨c,d,rfl,R,U,Y⟩,F⟩;rw[AK];go_wp2_with fail;have hy:Ϝ V wc:=bT C F;refine f.out _ _ ⟨Ah z.o hy,Az u.o hy⟩ (λg=>?_);clear f K
   try simp only[Act.put,sI,sZ,sS]
   refine gr.Rf (v:=.agg #[vI p.kind,vI p.mode,vI p.low,vI p.high,vI p.size,vI p.limit,vS x.l p.left.length x.lc,vS x.r p.right.length x.rc,vS x.lk p.lkeys.length x.lkc,vS x.rk p.rkeys.length x.rkc,.bool p.grouped,vS x.g p.group.length x.gc,vS x.a p.aggs.length x.ac,vI s.L.lim,vS c.m.1.1 c.m.1.2.1 c.m.1.2.2,vS c.ra c.rs.length c.rc,vI s.R.lim,vS d.m.1.1 d.m.1.2.1 d.m.1.2.2,vS d.ra d.rs.length d.rc,vI s.lm,vI s.rm,vI s.seq,ψ]) 3 (some 9) g ?_ (hy:=λw' _=>JM 267 #[(0,.tmp 6),(1,.tmp 8)] rfl _ Ϡ w');refine rD 5 λK f=>?_;have aa:wc.there V.heap.size 0 23:=BQ (PE V.drew 267 (vI 0) (vI 0) (vI 0) (vI 0) (vI 0) (vI 0) (vS none 0 0) (vS none 0 0) (vS none 0 0) (vS none 0 0) (.bool false) (vS none 0 0) (vS none 0 0) (vI 0) (vS none 0 0) (vS none 0 0) (vI 0) (vS none 0 0) (vS none 0 0) (vI 0) (vI 0) (vI 0) (vS none 0 0)) F;refine Jb rfl 267 (.tmp 5) (.tmp 9) rfl V.heap.size 0 #[vI p.kind,vI p.mode,vI p.low,vI p.high,vI p.size,vI p.limit,vS x.l p.left.length x.lc,vS x.r p.right.length x.rc,vS x.lk p.lkeys.length x.lkc,vS x.rk p.rkeys.length x.rkc,.bool p.grouped,vS x.g p.group.length x.gc,vS x.a p.aggs.length x.ac,vI s.L.lim,vS c.m.1.1 c.m.1.2.1 c.m.1.2.2,vS c.ra c.rs.length c.rc,vI s.R.lim,vS d.m.1.1 d.m.1.2.1 d.m.1.2.2,vS d.ra d.rs.length d.rc,vI s.lm,vI s.rm,vI s.seq,ψ] rfl rfl aa Lv Ϧ ?_;have A:=below_setCells (Nat.le_refl V.heap.size) [vI p.kind,vI p.mode,vI p.low,vI p.high,vI p.size,vI p.limit,vS x.l p.left.length x.lc,vS x.r p.right.length x.rc,vS x.lk p.lkeys.length x.lkc,vS x.rk p.rkeys.length x.rkc,.bool p.grouped,vS x.g p.group.length x.gc,vS x.a p.aggs.length x.ac,vI s.L.lim,vS c.m.1.1 c.m.1.2.1 c.m.1.2.2,vS c.ra c.rs.length c.rc,vI s.R.lim,vS d.m.1.1 d.m.1.2.1 d.m.1.2.2,vS d.ra d.rs.length d.rc,vI s.lm,vI s.rm,vI s.seq,ψ] 0 _ hy
   refine f.out _ _ ⟨Ah z.o A,Az u.o A⟩ (λg=>?_);refine wpAnyH_done Ϡ ?_ _;have ab:Ai wc V 267:=Ad ⟨_,_,World.alloc_heap_new V.drew _⟩ F;go_wp2;go_meet;exact⟨V.heap.size,c,d,rfl,j.size,Rh aa p x s ⟨c,d⟩ _,g.1,⟨Bt PF _ _ _ (Ct R (Nat.le_trans j.size C.size)) ab,Bt PF _ _ _ (Ct U (Nat.le_trans j.size C.size)) ab,Y⟩,bT j A⟩
 case rest=>
  obtain⟨B,c,d,rfl,hB,HC,ac,I,O⟩:=hcut;rename World=>W;have k0:=ac.o.1;have J:ϛ (W.rangeAt B 0 [vI p.kind,vI p.mode,vI p.low,vI p.high,vI p.size,vI p.limit,vS x.l p.left.length x.lc,vS x.r p.right.length x.rc,vS x.lk p.lkeys.length x.lkc,vS x.rk p.rkeys.length x.rkc,.bool p.grouped,vS x.g p.group.length x.gc,vS x.a p.aggs.length x.ac,vI s.L.lim,vS c.m.1.1 c.m.1.2.1 c.m.1.2.2,vS c.ra c.rs.length c.rc,vI s.R.lim,vS d.m.1.1 d.m.1.2.1 d.m.1.2.2,vS d.ra d.rs.length d.rc,vI s.lm,vI s.rm,vI s.seq,ψ]):=To HC.o;have L:ϛ (∀T,JSt w (ξ W #[vI p.kind,vI p.mode,vI p.low,vI p.high,vI p.size,vI p.limit,vS x.l p.left.length x.lc,vS x.r p.right.length x.rc,vS x.lk p.lkeys.length x.lkc,vS x.rk p.rkeys.length x.rkc,.bool p.grouped,vS x.g p.group.length x.gc,vS x.a p.aggs.length x.ac,vI s.L.lim,vS c.m.1.1 c.m.1.2.1 c.m.1.2.2,vS c.ra c.rs.length c.rc,vI s.R.lim,vS d.m.1.1 d.m.1.2.1 d.m.1.2.2,vS d.ra d.rs.length d.rc,vI s.lm,vI s.rm,vI s.seq,ψ] T) W.heap.size T p x s ⟨c,d⟩ (vS none 0 0) []):=λT=>by
   have H:Ϝ W (ξ W #[vI p.kind,vI p.mode,vI p.low,vI p.high,vI p.size,vI p.limit,vS x.l p.left.length x.lc,vS x.r p.right.length x.rc,vS x.lk p.lkeys.length x.lkc,vS x.rk p.rkeys.length x.rkc,.bool p.grouped,vS x.g p.group.length x.gc,vS x.a p.aggs.length x.ac,vI s.L.lim,vS c.m.1.1 c.m.1.2.1 c.m.1.2.2,vS c.ra c.rs.length c.rc,vI s.R.lim,vS d.m.1.1 d.m.1.2.1 d.m.1.2.2,vS d.ra d.rs.length d.rc,vI s.lm,vI s.rm,vI s.seq,ψ] T):=Ϩ;have hn:=Zz W T p x s ⟨c,d⟩ (vS none 0 0) rfl;exact⟨hn.1,hn.2,O.size,I.o.1.below H,I.o.2.1.below H,I.o.2.2,CG.start (Nat.le_trans O.size H.size),bT O H⟩
  by_cases i:p.kind=1
  ·have e1:(p.kind==1)=true:=by simpa using i
   have D:ϛ (kindP p.kind=268):=by show _=_;unfold kindP;rw[if_pos i]
   have E:ϛ (kindT p.kind=270):=by show _=_;unfold kindT;rw[if_pos i]
   clear i;go_wp2_with (first
    |((with_reducible refine FQ ?_ (.tmp 5) ?_ B ?_ #[vI p.kind,vI p.mode,vI p.low,vI p.high,vI p.size,vI p.limit,vS x.l p.left.length x.lc,vS x.r p.right.length x.rc,vS x.lk p.lkeys.length x.lkc,vS x.rk p.rkeys.length x.rkc,.bool p.grouped,vS x.g p.group.length x.gc,vS x.a p.aggs.length x.ac,vI s.L.lim,vS c.m.1.1 c.m.1.2.1 c.m.1.2.2,vS c.ra c.rs.length c.rc,vI s.R.lim,vS d.m.1.1 d.m.1.2.1 d.m.1.2.2,vS d.ra d.rs.length d.rc,vI s.lm,vI s.rm,vI s.seq,ψ] ?_ ?_ ?_);exact rfl;exact rfl;exact rfl;exact rfl;exact J.o)
    |((with_reducible refine GJ ?_ 270 #[(0,.tmp 14)] ?_ #[vI p.kind,vI p.mode,vI p.low,vI p.high,vI p.size,vI p.limit,vS x.l p.left.length x.lc,vS x.r p.right.length x.rc,vS x.lk p.lkeys.length x.lkc,vS x.rk p.rkeys.length x.rkc,.bool p.grouped,vS x.g p.group.length x.gc,vS x.a p.aggs.length x.ac,vI s.L.lim,vS c.m.1.1 c.m.1.2.1 c.m.1.2.2,vS c.ra c.rs.length c.rc,vI s.R.lim,vS d.m.1.1 d.m.1.2.1 d.m.1.2.2,vS d.ra d.rs.length d.rc,vI s.lm,vI s.rm,vI s.seq,ψ] ?_ ?_);exact rfl;exact rfl;exact Ϡ))
   go_ret;exact⟨W.heap.size,⟨c,d⟩,by rw[D.o];rfl,by rw[E.o];exact L.o _⟩
  ·have e1:(p.kind==1)=false:=by simpa using i
   by_cases n:p.kind=2
   ·have e2:(p.kind==2)=true:=by simpa using n
    have D:ϛ (kindP p.kind=271):=by show _=_;unfold kindP;rw[if_neg i,if_pos n]
    have E:ϛ (kindT p.kind=272):=by show _=_;unfold kindT;rw[if_neg i,if_pos n]
    clear i n;go_wp2_with (first
    |((with_reducible refine FQ ?_ (.tmp 5) ?_ B ?_ #[vI p.kind,vI p.mode,vI p.low,vI p.high,vI p.size,vI p.limit,vS x.l p.left.length x.lc,vS x.r p.right.length x.rc,vS x.lk p.lkeys.length x.lkc,vS x.rk p.rkeys.length x.rkc,.bool p.grouped,vS x.g p.group.length x.gc,vS x.a p.aggs.length x.ac,vI s.L.lim,vS c.m.1.1 c.m.1.2.1 c.m.1.2.2,vS c.ra c.rs.length c.rc,vI s.R.lim,vS d.m.1.1 d.m.1.2.1 d.m.1.2.2,vS d.ra d.rs.length d.rc,vI s.lm,vI s.rm,vI s.seq,ψ] ?_ ?_ ?_);exact rfl;exact rfl;exact rfl;exact rfl;exact J.o)
    |((with_reducible refine GJ ?_ 272 #[(0,.tmp 20)] ?_ #[vI p.kind,vI p.mode,vI p.low,vI p.high,vI p.size,vI p.limit,vS x.l p.left.length x.lc,vS x.r p.right.length x.rc,vS x.lk p.lkeys.length x.lkc,vS x.rk p.rkeys.length x.rkc,.bool p.grouped,vS x.g p.group.length x.gc,vS x.a p.aggs.length x.ac,vI s.L.lim,vS c.m.1.1 c.m.1.2.1 c.m.1.2.2,vS c.ra c.rs.length c.rc,vI s.R.lim,vS d.m.1.1 d.m.1.2.1 d.m.1.2.2,vS d.ra d.rs.length d.rc,vI s.lm,vI s.rm,vI s.seq,ψ] ?_ ?_);exact rfl;exact rfl;exact Ϡ))
    go_ret;exact⟨W.heap.size,⟨c,d⟩,by rw[D.o];rfl,by rw[E.o];exact L.o _⟩
   ·have e2:(p.kind==2)=false:=by simpa using n
    have D:ϛ (kindP p.kind=273):=by show _=_;unfold kindP;rw[if_neg i,if_neg n]
    have E:ϛ (kindT p.kind=274):=by show _=_;unfold kindT;rw[if_neg i,if_neg n]
    clear i n;go_wp2_with (first
    |((with_reducible refine FQ ?_ (.tmp 5) ?_ B ?_ #[vI p.kind,vI p.mode,vI p.low,vI p.high,vI p.size,vI p.limit,vS x.l p.left.length x.lc,vS x.r p.right.length x.rc,vS x.lk p.lkeys.length x.lkc,vS x.rk p.rkeys.length x.rkc,.bool p.grouped,vS x.g p.group.length x.gc,vS x.a p.aggs.length x.ac,vI s.L.lim,vS c.m.1.1 c.m.1.2.1 c.m.1.2.2,vS c.ra c.rs.length c.rc,vI s.R.lim,vS d.m.1.1 d.m.1.2.1 d.m.1.2.2,vS d.ra d.rs.length d.rc,vI s.lm,vI s.rm,vI s.seq,ψ] ?_ ?_ ?_);exact rfl;exact rfl;exact rfl;exact rfl;exact J.o)
    |((with_reducible refine GJ ?_ 274 #[(0,.tmp 24)] ?_ #[vI p.kind,vI p.mode,vI p.low,vI p.high,vI p.size,vI p.limit,vS x.l p.left.length x.lc,vS x.r p.right.length x.rc,vS x.lk p.lkeys.length x.lkc,vS x.rk p.rkeys.length x.rkc,.bool p.grouped,vS x.g p.group.length x.gc,vS x.a p.aggs.length x.ac,vI s.L.lim,vS c.m.1.1 c.m.1.2.1 c.m.1.2.2,vS c.ra c.rs.length c.rc,vI s.R.lim,vS d.m.1.1 d.m.1.2.1 d.m.1.2.2,vS d.ra d.rs.length d.rc,vI s.lm,vI s.rm,vI s.seq,ψ] ?_ ?_);exact rfl;exact rfl;exact Ϡ))
    go_ret;exact⟨W.heap.size,⟨c,d⟩,by rw[D.o];rfl,by rw[E.o];exact L.o _⟩
theorem MA(h:pl.Ag p=0)(c:p.kind=1):(-1099511627776<=p.low/\p.low<=1099511627776)/\(-1099511627776<=p.high/\p.high<=1099511627776):=by
 have:=(pl.Bf h).2.1.1;rw[if_pos c]at this;exact this
theorem Ri{t:Int}(h:tm.Br t=true): -1099511627776<=t/\t<=1099511627776:=by
 unfold tm.Br at h;exact of_decide_eq_true h
theorem WK(b:Nat)(p:pl.Pln)(x:pl.PA)(s:Jn)(y:JX)(v:Ev)(i:Ϛ)(A:Nat)(P w:ϙ)(h:JSt P w b 270 p x s y (vS none 0 0) [])(W:p.kind=1)(hg:goodJ p s)(M:comeJ p s v)(hv:vl.rowAt P i v.row):
 η 342 #[μ b,BE p v i A] w λe w'=>e= .returned (.bool (!(partners p s v).isEmpty))/\∃H F j,JSt P w' b 270 p x (BW p s v) H F j/\j.map CO.chg=Cv p s v/\Bz 270 w w':=by
 have hT:calmC 270:=⟨⟨Ϟ,Ϟ,Ϟ⟩,Ϟ⟩;have D:ϛ (∀S,Ϝ w S->CT 346 #[μ b,BE p v i A,vI (DO p v),vI (toJ p v)] S λe w'=>e= .returned (.bool (!(partners p s v).isEmpty))/\∃H F j,JSt P w' b 270 p x (BW p s v) H F j/\j.map CO.chg=Cv p s v/\Bz 270 S w'):=λS hb=>QZ b _ p x s y v i A (DO p v) (toJ p v) P S (h.below hb) hT Ϟ hg M.side hv M.err;have hf:=MA (pl.Dk M.err).1 W;have ht:=Ri M.time;have N:=h.box.plan.2.2.1;have O:=h.box.plan.2.2.2.1;have lb:=h.box.lt;have C:ϛ ((v.side=1->DO p v=v.time+p.low/\toJ p v=v.time+p.high)/\(v.side≠1->DO p v=v.time - p.high/\toJ p v=v.time - p.low)):=by
  unfold DO toJ;rw[if_pos W,if_pos W];exact⟨λe=>by rw[if_pos e,if_pos e];exact⟨rfl,rfl⟩,λe=>by rw[if_neg e,if_neg e];exact⟨rfl,rfl⟩⟩
 clear h W hg M hv;unfold BE at D⊢;obtain⟨J,h1⟩:=nM (pl.As p v.side v.row);obtain⟨K,h2⟩:=nM (pl.hasB p v.side v.row);obtain⟨L,ad⟩:=nM v.row.length;obtain⟨R,hR⟩:=nM (!(partners p s v).isEmpty);obtain⟨z,aa⟩:=nM p.low;obtain⟨u,Y⟩:=nM p.high;have U:ϛ (p.low=z/\p.high=u):=⟨aa,Y⟩;rw[aa]at hf N C;rw[Y]at hf O C;rw[hR]at D⊢;rw[h1,h2,ad]at D⊢;obtain⟨B,ae⟩:=nM v.side;obtain⟨d,ab⟩:=nM v.time;rw[ae,ab]at D C⊢;rw[ab]at ht;obtain⟨fr,ac⟩:=nM (DO p v);obtain⟨tO,af⟩:=nM (toJ p v);rw[ac,af]at D C;clear h1 h2 ad hR aa Y ae ab ac af;go_enter func342,ntmps342;by_cases I:B=1
 ·have e1:(B==1)=true:=by simpa using I
  obtain⟨q1,q2⟩:=C.o.1 I;clear I C;subst q1 q2;have ag:IntKind.i64.wrap (d+z)=d+z:=by rw[ch.Co];omega
  have ah:IntKind.i64.wrap (d+u)=d+u:=by rw[ch.Co];omega
  go_wp2;generalize c:(World.alloc w _)=V;have n:Ϝ w V:=by rw[<-c];exact Ϩ
  have s0:Δ V w 0 (vI B):=by subst c;go_simp
  have s1:Δ V w 1 (vI d):=by subst c;go_simp
  have s2:Δ V w 2 (vS i L A):=by subst c;go_simp
  have s3:Δ V w 3 (.string J):=by subst c;go_simp
  have s4:Δ V w 4 (.bool K):=by subst c;go_simp
  have g:ϛ (Ai V w 208):=by subst c;exact⟨_,_,World.alloc_heap_new w _⟩
  replace N:=cLz n N;replace O:=cLz n O;clear c
  go_region_held3 (λw'=>ϐ w' w (vI B) (vI d) (vS i L A) (.string J) (.bool K) (Δ w' b 2 (vI z)/\Δ w' b 3 (vI u))) (first|exact hy|go_keep)
   (first
    |(go_at_call 346;refine(D.o _ n.drew).mono ?_;rintro e G ⟨rfl,H,F,j,E,Z,f⟩;have hy:ϐ G w (vI B) (vI d) (vS i L A) (.string J) (.bool K) (Δ G b 2 (vI z)/\Δ G b 3 (vI u)):=⟨f.cell g.o Ϟ Ϟ Ϟ s0,f.cell g.o Ϟ Ϟ Ϟ s1,f.cell g.o Ϟ Ϟ Ϟ s2,f.cell g.o Ϟ Ϟ Ϟ s3,f.cell g.o Ϟ Ϟ Ϟ s4,U.o.1▸E.box.plan.2.2.1,U.o.2▸E.box.plan.2.2.2.1⟩))
  all_goals
   go_wp2;go_ret;exact⟨rfl,H,F,j,E,Z,(Aw (n.drew)).trans f⟩
 ·have e1:(B==1)=false:=by simpa using I
  obtain⟨q1,q2⟩:=C.o.2 I;clear I C;subst q1 q2;have ag:IntKind.i64.wrap (d - u)=d - u:=by rw[ch.Co];omega
  have ah:IntKind.i64.wrap (d - z)=d - z:=by rw[ch.Co];omega
  go_wp2;generalize c:(World.alloc w _)=V;have n:Ϝ w V:=by rw[<-c];exact Ϩ
  have s0:Δ V w 0 (vI B):=by subst c;go_simp
  have s1:Δ V w 1 (vI d):=by subst c;go_simp
  have s2:Δ V w 2 (vS i L A):=by subst c;go_simp
  have s3:Δ V w 3 (.string J):=by subst c;go_simp
  have s4:Δ V w 4 (.bool K):=by subst c;go_simp
  have g:ϛ (Ai V w 208):=by subst c;exact⟨_,_,World.alloc_heap_new w _⟩
  replace N:=cLz n N;replace O:=cLz n O;clear c
  go_region_held3 (λw'=>ϐ w' w (vI B) (vI d) (vS i L A) (.string J) (.bool K) (Δ w' b 2 (vI z)/\Δ w' b 3 (vI u))) (first|exact hy|go_keep)
   (first
    |(go_at_call 346;refine(D.o _ n.drew).mono ?_;rintro e G ⟨rfl,H,F,j,E,Z,f⟩;have hy:ϐ G w (vI B) (vI d) (vS i L A) (.string J) (.bool K) (Δ G b 2 (vI z)/\Δ G b 3 (vI u)):=⟨f.cell g.o Ϟ Ϟ Ϟ s0,f.cell g.o Ϟ Ϟ Ϟ s1,f.cell g.o Ϟ Ϟ Ϟ s2,f.cell g.o Ϟ Ϟ Ϟ s3,f.cell g.o Ϟ Ϟ Ϟ s4,U.o.1▸E.box.plan.2.2.1,U.o.2▸E.box.plan.2.2.2.1⟩))
  all_goals
   go_wp2;go_ret;exact⟨rfl,H,F,j,E,Z,(Aw (n.drew)).trans f⟩
theorem WL(b:Nat)(p:pl.Pln)(x:pl.PA)(s:Jn)(y:JX)(v:Ev)(g:Ϛ)(u:Nat)(z w:ϙ)(h:JSt z w b 272 p x s y (vS none 0 0) [])(hk:p.kind=2)(hg:goodJ p s)(j:comeJ p s v)(hv:vl.rowAt z g v.row):
 η 383 #[μ b,BE p v g u] w λe w'=>e= .returned (.bool (!(partners p s v).isEmpty))/\∃C B f,JSt z w' b 272 p x (BW p s v) C B f/\f.map CO.chg=Cv p s v/\Bz 272 w w':=by
 have hT:calmC 272:=⟨⟨Ϟ,Ϟ,Ϟ⟩,Ϟ⟩;have i:ϛ (∀c,Ϝ w c->CT 346 #[μ b,BE p v g u,vI (DO p v),vI (toJ p v)] c λe w'=>e= .returned (.bool (!(partners p s v).isEmpty))/\∃C B f,JSt z w' b 272 p x (BW p s v) C B f/\f.map CO.chg=Cv p s v/\Bz 272 c w'):=λc hb=>QZ b _ p x s y v g u (DO p v) (toJ p v) z c (h.below hb) hT Ϟ hg j.side hv j.err;have N:1<=p.size/\p.size<=1099511627776:=by
  have:=(pl.Bf (pl.Dk j.err).1).2.1.2.1;rw[if_pos hk]at this;exact this
 have ht:=Ri j.time;have D:ϛ (∀c,CT 367 #[vI v.time,vI p.size] c λe w'=>e= .returned (.tuple #[vI (DO p v),vI (toJ p v+1),ω])/\w'=c):=λc=>by
  have:=tm.Mw v.time p.size c j.time N.1 N.2;have e1:DO p v=tm.start v.time p.size:=by unfold DO tm.start;rw[if_neg ϝ]
  have e2:toJ p v+1=tm.start v.time p.size+p.size:=by unfold toJ tm.start;rw[if_neg ϝ];omega
  rw[e1,e2];exact this
 have ae: -4398046511104<=toJ p v/\toJ p v<=4398046511104:=by
  unfold toJ;rw[if_neg ϝ];have G:=Int.emod_nonneg v.time (show p.size≠0 by omega);have H:=Int.emod_lt_of_pos v.time (show 0<p.size by omega);omega
 have S:=h.box.plan.2.2.2.2.1;have lb:=h.box.lt;have ad:ϛ (∀c s y t L,JSt z c b 272 p x s y t L->Δ c b 4 (vI p.size)):=λc s y t L J=>J.box.plan.2.2.2.2.1;clear h hk hg j hv N ht;unfold BE at i⊢;obtain⟨O,G⟩:=nM (pl.As p v.side v.row);obtain⟨P,H⟩:=nM (pl.hasB p v.side v.row);obtain⟨U,aa⟩:=nM v.row.length;obtain⟨R,Y⟩:=nM (!(partners p s v).isEmpty);obtain⟨sz,ac⟩:=nM p.size;rw[ac]at S D ad;rw[Y]at i⊢;rw[G,H,aa]at i⊢;obtain⟨W,ab⟩:=nM v.side;obtain⟨F,M⟩:=nM v.time;rw[ab,M]at i⊢;rw[M]at D;obtain⟨fr,Z⟩:=nM (DO p v);obtain⟨E,K⟩:=nM (toJ p v);rw[Z,K]at i D;rw[K]at ae;clear G H aa Y ac ab M Z K;have af:IntKind.i64.wrap (E+1 - 1)=E:=by rw[ch.Co];omega
 have ag:IntKind.i64.wrap E=E:=by rw[ch.Co];omega
 go_enter func383,ntmps383;go_wp2;generalize d:(World.alloc w _)=V;have I:Ϝ w V:=by rw[<-d];exact Ϩ
 have s0:Δ V w 0 (vI W):=by subst d;go_simp
 have s1:Δ V w 1 (vI F):=by subst d;go_simp
 have s2:Δ V w 2 (vS g U u):=by subst d;go_simp
 have s3:Δ V w 3 (.string O):=by subst d;go_simp
 have s4:Δ V w 4 (.bool P):=by subst d;go_simp
 have A:ϛ (Ai V w 208):=by subst d;exact⟨_,_,World.alloc_heap_new w _⟩
 replace S:=cLz I S;clear d
 go_region_held3 (λw'=>Δ w' w 1 (vI F)/\Δ w' b 4 (vI sz)) (first|go_keep)
  (first
   |(go_at_call 367;refine(D.o _).mono ?_;rintro e w2 ⟨rfl,rfl⟩))
 go_wp2
 go_region_held3 (λw'=>ώ w' w (vI W) (vI F) (vS g U u) (.string O) (.bool P)) (first|exact hy|go_keep)
  (first
   |(go_at_call 346;refine(i.o _ I.drew.drew).mono ?_;rintro e wn ⟨rfl,C,B,f,J,hl,n⟩;have hy:ώ wn w (vI W) (vI F) (vS g U u) (.string O) (.bool P):=⟨n.cell A.o Ϟ Ϟ Ϟ s0,n.cell A.o Ϟ Ϟ Ϟ s1,n.cell A.o Ϟ Ϟ Ϟ s2,n.cell A.o Ϟ Ϟ Ϟ s3,n.cell A.o Ϟ Ϟ Ϟ s4⟩))
 all_goals
  go_wp2;go_ret;exact⟨rfl,C,B,f,J,hl,(Aw (I.drew.drew)).trans n⟩
theorem last_at(h:l.length=m+1):l.getLast? =some (l.getD m ϰ):=by
 rw[getLast?_eq_getElem?,h,gDe,Nat.add_sub_cancel,gEe ϝ];rfl
theorem Ab7(b:Nat)(p:pl.Pln)(x:pl.PA)(s:Jn)(y:JX)(v:Ev)(g:Ϛ)(i:Nat)(P w:ϙ)(h:JSt P w b 274 p x s y (vS none 0 0) [])(Y:goodJ p s)(N:comeJ p s v)(am:v.side=1)(hv:vl.rowAt P g v.row):
 η 388 #[μ b,BE p v g i] w λe w'=>e= .returned (.bool (!(Cw p s v).isEmpty))/\∃t' L',JSt P w' b 274 p x s y t' L'/\L'.map CO.chg=I7 p s v/\Bz 274 w w':=by
 have hT:calmC 274:=⟨⟨Ϟ,Ϟ,Ϟ⟩,Ϟ⟩;have J:=hqz h;have L:Ak s (3 - v.side)=s.R:=by rw[am];rfl
 have ex:B7 y (3 - v.side)=y.r:=by rw[am];rfl
 have aa:=Et N.err;have hp:=(pl.Dk N.err).1;have a8:∀z∈Ac s.R,wfE z/\wfP (Bd z):=λz n=>Y.wf z (mem_append.2 (.inr n));have ev:BU p s v (-1099511627776) v.time=Cw p s v:=by unfold BU Cw;rw[L]
 have G:ϛ (∀c,Ϝ w c->CT 352 #[μ b,BE p v g i,vI (-1099511627776),vI v.time] c λe w'=>(∃Z M,e= .returned (hdV Z)/\OE w' c (hdV Z) M (Cw p s v))/\Ϝ c w'):=λc j=>by
  have:=H9 b p x s y _ v g i (-1099511627776) v.time c N.side (J.o.below j).box (by rw[L,ex];exact(J.o.below j).r.at) (by rw[L];exact Y.ok.R) (by rw[L];exact a8);rw[ev]at this;exact this
 have KJ:=hIz (λ(q:List Cel) (qa:Ϛ) (qc:Nat) (c:ϙ) (h1:0<q.length) (h2:q.length<=400) (j:Ϝ P c) (hq:vl.rowAt c qa q)=>Cy v.side g qa i qc v.row q c aa.1 h1 aa.2 h2 (vl.Ab hv j) hq);have S:=hIz (λ(c:ϙ) (j:Ϝ w c)=>I3 b p x v.side g i v.row c hp N.side (J.o.below j).box.plan (vl.Ab hv (J.o.bl.trans (j.mono J.o.bl.size))) aa.1 aa.2);have KP:=hIz (λ(c:ϙ)=>Ln p.mode 1 c);have ar:ϛ (∀k,k<(Cw p s v).length->(0<((Cw p s v).getD k ϰ).row.length/\((Cw p s v).getD k ϰ).row.length<=400)):=λk hk=>by
  rw[<-ev]at hk⊢;exact Et (F5 Y (IZ N.side).1 (Kk (Bj hk)))
 have bj:(Cw p s v).length<=4096:=by rw[<-ev];exact Kj (by rw[L];exact Y.ok.R)
 have I:ϛ (I7 p s v=match (Cw p s v).getLast? with
  |some e=>[⟨1,Ba v.side v.row e.row⟩]
  |none=>if C6 p.mode 1=true then [⟨1,AY p v.side v.row⟩]else []):=rfl
 have pm:=h.box.plan.2.1;have lb:=h.box.lt;obtain⟨A,az⟩:=nM (Cw p s v);obtain⟨AT,ax⟩:=nM (I7 p s v);rw[az]at G ar I bj⊢;rw[ax]at I⊢;unfold BE at G⊢;obtain⟨kb,h1⟩:=nM (pl.As p v.side v.row);obtain⟨kh,h2⟩:=nM (pl.hasB p v.side v.row);obtain⟨u,al⟩:=nM v.row.length;obtain⟨c2,a2⟩:=nM (C6 p.mode 1);obtain⟨md,a4⟩:=nM p.mode;rw[a2]at KP I;rw[a4]at KP pm;rw[h1,h2,al]at G⊢;rw[al]at KJ S;obtain⟨f,a6⟩:=nM v.side;obtain⟨ap,a7⟩:=nM v.time;rw[a6]at G KJ S I⊢;rw[a7]at G⊢;have ba:ϛ (∀w',Ϝ w w'->Ϝ P w'):=λw' j=>h.bl.trans (j.mono h.bl.size);clear h Y N hv aa hp a8 ev L ex az ax h1 h2 al a2 a4 a6 a7 am;go_enter func388,ntmps388;go_wp2;generalize B:(World.alloc w _)=V;have a1:Ϝ w V:=by rw[<-B];exact Ϩ
 have s0:Δ V w 0 (vI f):=by subst B;go_simp
 have s1:Δ V w 1 (vI ap):=by subst B;go_simp
 have s2:Δ V w 2 (vS g u i):=by subst B;go_simp
 have s3:Δ V w 3 (.string kb):=by subst B;go_simp
 have s4:Δ V w 4 (.bool kh):=by subst B;go_simp
 have be:ϛ (Ai V w 208):=by subst B;exact⟨_,_,World.alloc_heap_new w _⟩
 clear B;have SK:ϛ (∀w',Ϝ V w'->ώ w' w (vI f) (vI ap) (vS g u i) (.string kb) (.bool kh)):=λw' n=>⟨cLz n s0,cLz n s1,cLz n s2,cLz n s3,cLz n s4⟩
 go_region_held3 (λw'=>ώ w' w (vI f) (vI ap) (vS g u i) (.string kb) (.bool kh)) (first|exact SK.o _ hy|exact SK.o _ bR.drew|go_keep)
  (first
   |(go_at_call 352;refine(G.o _ a1.drew).mono ?_;rintro e X ⟨⟨Z,M,rfl,ho⟩,bi⟩;have hy:Ϝ V X:=bR.drew.trans bi;have K:ϛ (OE X V.heap.size (hdV Z) M A):=ho;clear ho;obtain⟨g1,g2,g3⟩:=Z;unfold hdV;dsimp only))
 have au:ϛ (g2=A.length):=by
  show _=_;rw[<-K.o.len];exact(C9 (p:=((g1,g2,g3),M)) K.o).1.1
 have H:Ϝ w X:=bT a1 hy;have ag:ϛ (JSt P X b 274 p x s y (vS none 0 0) []):=J.o.below H;have t0:=cLz hy s0;have t1:=cLz hy s1;have t2:=cLz hy s2;have bo:=cLz H pm;have ac:ϛ (Ai X w 208):=Ad be.o hy;clear s0 s1 s2 s3 s4 SK G
 cases hP:A with
 |nil=>
  have aq:ϛ (false= !A.isEmpty):=by show _=_;rw[hP];rfl
  have n:g2=0:=by rw[au.o,hP];rfl
  subst n;have F:ϛ (AT=if c2=true then [⟨1,AY p f v.row⟩]else []):=by show _=_;rw[I.o,hP];rfl
  cases c2 with
  |true=>
   obtain⟨AR,aw⟩:=nM (AY p f v.row);rw[aw]at S F;obtain⟨an,a0⟩:=nM AR.length;rw[a0]at S;clear aw a0;go_wp2_with (go_at_call 354;refine(KP.o _).mono ?_;rintro e X ⟨rfl,rfl⟩);have aj:=ag.o.below bR.drew
   go_region_held3 (λw'=>Δ w' w 0 (vI f)/\Δ w' w 2 (vS g u i)) (first|exact ab|go_keep)
    (first
     |(go_at_call 357;refine(Fe aj hT (Nat.zero_le _) U ak).mono ?_;rintro e R ⟨rfl,t8,ai,C⟩;have ab:Δ R w 0 (vI f)/\Δ R w 2 (vS g u i):=⟨C.cell (Ad ac.o d) Ϟ Ϟ (cLz d t0),C.cell (Ad ac.o d) Ϟ Ϟ (cLz d t2)⟩)
     |(go_at_call 356;refine(S.o _ H.drew).mono ?_;rintro e D ⟨⟨bg,bh,rfl,ak⟩,U⟩;have d:Ϝ X D:=bR.drew.trans U;have ab:Δ D w 0 (vI f)/\Δ D w 2 (vS g u i):=⟨cLz d t0,cLz d t2⟩))
   all_goals
    go_wp2;go_ret;exact⟨Aa aq.o,t8,_,ai,by rw[F.o];rfl,((Aw H).trans (Aw d)).trans C.m⟩
  |false=>
   go_wp2_with (go_at_call 354;refine(KP.o _).mono ?_;rintro e X ⟨rfl,rfl⟩);go_ret;exact⟨Aa aq.o,_,[],ag.o,by rw[F.o];rfl,Aw H⟩
 |cons z0 zl=>
  obtain⟨m,hm⟩:∃m,A.length=m+1:=⟨zl.length,by rw[hP];rfl⟩;have HM:=hqz hm;have bb:ϛ (true= !A.isEmpty):=by show _=_;rw[hP];rfl
  have n:g2=m+1:=by rw[au.o,hm]
  subst n;have af:m<A.length:=ϝ;obtain⟨gb,ao,ea,x1,x2,x3,x4,x5⟩:=(C9 (p:=((g1,m+1,g3),M)) K.o).2 m (by rw[K.o.len];exact af);dsimp only at ea;subst ea;have W:=K.o.ers.2 m af;have ae:=ar.o m af;have F:ϛ (AT=[⟨1,Ba f v.row (A.getD m ϰ).row⟩]):=by show _=_;rw[I.o,last_at hm]
  obtain⟨E,hE⟩:=nM (A.getD m ϰ);rw[hE]at W ae F;obtain⟨⟨ek,et,bk,⟨O,r2,r3⟩,em⟩,a9⟩:∃z,M.getD m ϰ=z:=⟨_,rfl⟩;rw[a9]at x4 W;unfold hdV at x4;dsimp only at x4;have a5:r2=E.row.length:=W.len;have bc:ϛ (vl.rowAt X O E.row):=W.row;have ah:ϛ (∀c,Ϝ X c->CT 353 (ν f g u i O r2 r3) c λe w'=>(∃ad av,e= .returned (vS ad (Ba f v.row E.row).length av)/\AA w' c (vS ad (Ba f v.row E.row).length av) (Ba f v.row E.row))/\Ϝ c w'):=λc j=>by rw[a5];exact KJ.o E.row O r3 c ae.1 ae.2 (ba.o _ (bT H j)) (vl.Ab bc.o j)
  obtain⟨JR,ay⟩:=nM (Ba f v.row E.row);rw[ay]at ah F;obtain⟨jn,a3⟩:=nM JR.length;rw[a3]at ah;have bd:ϛ (Ai X gb 166):=Av K.o.own rfl;have i0:(0:Int)<(m:Int)+1:=ϝ;have i1:(0:Int)<=(m:Int):=ϝ;have i2:(m:Int)<(m:Int)+1:=ϝ;have bm:IntKind.i64.wrap ((m:Int)+1 - 1)=(m:Int):=by rw[ch.Co];omega
  have bn:IntKind.i64.wrap (m:Int)=(m:Int):=by rw[ch.Co];omega
  have aj:=ag.o.below bR.drew;clear hP W ae hE a9 a5 ay a3 x1 x2 x3 x5 hm af;go_wp2
  go_region_held3 (λw'=>Δ w' w 0 (vI f)/\Δ w' w 2 (vS g u i)/\Δ w' gb (ao+m * 5+1+1+1) (vS O r2 r3)) (first|exact ab|go_keep)
   (first
    |(go_at_call 357;refine(Fe aj hT (Nat.zero_le _) U ak).mono ?_;rintro e R ⟨rfl,t8,ai,C⟩;have ab:Δ R w 0 (vI f)/\Δ R w 2 (vS g u i)/\Δ R gb (ao+m * 5+1+1+1) (vS O r2 r3):=⟨C.cell (Ad ac.o d) Ϟ Ϟ (cLz d t0),C.cell (Ad ac.o d) Ϟ Ϟ (cLz d t2),C.cell (Ad bd.o d) Ϟ Ϟ (cLz d x4)⟩)
    |(go_at_call 353;refine(ah.o _ bR.drew).mono ?_;rintro e D ⟨⟨bg,bh,rfl,ak⟩,U⟩;have d:Ϝ X D:=bR.drew.trans U;have ab:Δ D w 0 (vI f)/\Δ D w 2 (vS g u i)/\Δ D gb (ao+m * 5+1+1+1) (vS O r2 r3):=⟨cLz d t0,cLz d t2,cLz d x4⟩))
  all_goals
   go_wp2;go_ret;exact⟨Aa bb.o,t8,_,ai,by rw[F.o];rfl,((Aw H).trans (Aw d)).trans C.m⟩
def JN(vs:List Ent)(e:Ent):Option Ent:=(vs.filter λy=>decide (y.time<=e.time)).getLast?
def Ha(vs:List Ent)(t:Int)(e:Ent):Bool:=match JN vs e with
 |some o=>decide (o.time<=t)
 |none=>true
def L0(p:pl.Pln)(v:Ev)(vs:List Ent)(e:Ent):List ch.Chg:=match JN vs e with
 |some o=>[⟨3,Ba 1 e.row o.row⟩,⟨4,Ba v.side v.row e.row⟩]
 |none=>if C6 p.mode 1=true then [⟨3,AY p 1 e.row⟩,⟨4,Ba v.side v.row e.row⟩]else [⟨1,Ba v.side v.row e.row⟩]
def Gd(p:pl.Pln)(s:Jn)(v:Ev):List Ent:=CZ s.R (pl.As p v.side v.row) (-1099511627776) 1099511627776
theorem WM{v:Ev}(h:v.side=2):Ee p s v=(BU p s v v.time 1099511627776).filter (Ha (Gd p s v) v.time):=by
 unfold Ee BU;have e:Ak s (3 - v.side)=s.L:=by rw[h];rfl
 rw[e];rfl
theorem L1(h:k<l.length):l.take (k+1)=l.take k++[l.getD k ϰ]:=by
 rw[take_succ_eq_append_getElem h,gDe,gEe h];rfl
theorem WN(f:Ent->Bool)(h:k<l.length):(l.take (k+1)).filter f=(l.take k).filter f++(if f (l.getD k ϰ)=true then [l.getD k ϰ]else []):=by
 rw[L1 h,filter_append]
 congr 1
 obtain⟨z,c⟩:=nM (l.getD k ϰ);rw[c]
 cases e:f z<;>simp[e]
theorem Ab8(b:Buf)(k:ByteArray)(a z:Int):PC (CZ b k a z):=by
 intro i j g c;rcases Nat.eq_or_lt_of_le g with rfl|h
 ·exact Int.le_refl _
 ·have e:=NL ((Ac b).filter λy=>decide (y.key=k)&&decide (a<=y.time)&&decide (y.time<=z)) i j h c;have d:∀i,i<(CZ b k a z).length->((CZ b k a z).getD i ϰ).key=k:=λi f=>by
   have u:(CZ b k a z).getD i ϰ∈CZ b k a z:=Bj f;have:=(mem_filter.1 ((BL _).mem_iff.1 u)).2;simp only[Bool.and_eq_true]at this;exact of_decide_eq_true this.1.1
  have A:=d i ϝ;have B:=d j c;unfold CZ at *;refine Int.not_lt.1 (λn=>e ?_)
  right
  exact⟨by rw[A,B],.inl n⟩
theorem MC{z:ϙ}{R:Value}{M L:List CO}{o:Obj}(f:JSt z X b T p x s y R M)(A:calmC T)(i:JSt z w2 b T p x s y t L)(j:BM T X w2)(u:(w2.alloc o).grownBy w3 r)(J:∀g,r=some g->X.heap.size<=g/\Ai w2 g 166):JSt z w3 b T p x s y t L/\BM T X w3:=by
 have K:w2.heap.size<=w3.heap.size:=by have:=u.size;rw[World.size_alloc]at this;omega
 have F:∀g,g<w2.heap.size->r≠some g->w3.heap[g]? =w2.heap[g]? :=λg c n=>(u.block g (by rw[World.size_alloc];omega) (λe=>n e.symm)).trans (Below.heap_alloc _ _ _ c);have D:∀g e,Ai w2 g e->e≠166->w3.heap[g]? =w2.heap[g]? :=λg e c n=>F g (A2 c) (λN=>tyAt_apart c (J g N).2 n rfl);have H:∀g,g<X.heap.size->w3.heap[g]? =w2.heap[g]? :=λg c=>F g (Nat.lt_of_lt_of_le c j.1.size) (λe=>by have:=(J g e).1;omega);have d:BM T X w3:=⟨⟨u.os.trans j.1.os,u.tape.trans j.1.tape,u.output.trans j.1.output,Nat.le_trans j.1.size K,λk h=>absurd h (Nat.not_lt_zero k)⟩,λg e c n O=>(H g (A2 c)).trans (j.2 g e c n O)⟩;have E:w3.heap[b]? =w2.heap[b]? :=D b T i.ty A.t.e;have I:∀{Z:BX} {B:Buf},OB X z Z B->OB w3 z Z B:=λP=>OB.other P d.1.size (λg C=>C.elim (λq=>d.2 g _ q A.t.e.symm Ϟ) (λq=>d.2 g _ q A.t.v.symm Ϟ)) (λg q=>d.2 g _ q A.t.h.symm Ϟ);refine⟨⟨I1 i.box E,A0 i.ty E,i.up,I f.l,I f.r,f.ap,CG.other i.cg K (λg C=>C.elim (λq=>D g _ q Ϟ) (λq=>D g _ q Ϟ)),?_⟩,d⟩;exact⟨d.1.os.trans f.bl.os,d.1.tape.trans f.bl.tape,d.1.output.trans f.bl.output,Nat.le_trans f.bl.size d.1.size,λk G=>((H k (Nat.lt_of_lt_of_le G f.bl.size)).trans ((i.bl.block k G))).trans rfl⟩
structure MetL(X wr:World)(v:Value)(ems:List EM)(ml:List Ent):Prop where
 own:wr.ownsRow X.heap.size 166 5 v ems.length (A1 ems)
 len:ems.length=ml.length
 seq:∀k,k<ml.length->(ems.getD k ϰ).seq=(ml.getD k ϰ).seq
theorem MetL.keep{ems:List EM}(h:MetL X wr v ems ml)(c:calmC T)(e:BM T wr w'):MetL X w' v ems ml:=⟨A4 h.own (λg d=>e.2 g _ (Av h.own d) c.t.e.symm Ϟ),h.len,h.seq⟩
theorem MetL.below{ems:List EM}(h:MetL X wr v ems ml)(c:Ϝ wr w'):MetL X w' v ems ml:=⟨own_below h.own c,h.len,h.seq⟩
theorem MetL.snoc{f:Value}{ems:List EM}{e:EM}{z:Ent}(h:MetL X w2 v ems ml)(i:e.seq=z.seq)(g:w3.ownsRow X 166 5 f (ems.length+1) (A1 ems++[.string e.key,vI e.time,vI e.seq,hdV e.row,.bool e.met])):MetL X w3 f (ems++[e]) (ml++[z]):=by
 refine⟨by rw[lAp,IK];exact g,by rw[lAp,lAp,h.len];rfl,λk d=>?_⟩;rw[lAp]at d;by_cases c:k<ml.length
 ·rw[Bc c,Bc (by rw[h.len];exact c)];exact h.seq k c
 ·have:k=ml.length:=by simp at d;omega
  subst this;rw[AP nR,AP (by rw[h.len];exact Nat.le_refl _),h.len,Nat.sub_self];exact i
theorem MetL.at{ems:List EM}(h:MetL X wr v ems ml):∃a c,v=vS a ml.length c/\Cm wr a ems:=by
 have f:=h.own;have e:=NN f;rw[h.len]at e;refine⟨Qt v,Uy v,e,?_⟩;intro i H;rcases f.2 with⟨j,K⟩|⟨g,I,J,j,L⟩
 ·omega
 ·have d:=World.ownsRow.cells f (g:=g) (by rw[j];rfl);obtain⟨C,D,E,F,G⟩:=Ie ems i H;have n:=d _ _ C;have u:=d _ _ D;have z:=d _ _ E;have A:=d _ _ F;have B:=d _ _ G;rw[bf.C3]at n u z A B;exact⟨g,0,by rw[j];rfl,n,u,z,A,B⟩
theorem F7(D:o.guard=none)(s x:Operand)
 (G:o.op= .call {callee:=.builtin .append,args:=#[s,x],argTypes:=#[33,33]})
 (base:Nat) (v:Value) (L:List EM) (f:ByteArray) (n j:Int) (ad:Ϛ) (z cap:Nat) (i:Bool) (d:ϙ) (c:Nat) (U:L.length=c) (F:d.ownsRow base 166 5 v c (A1 L)) (S:c<=1000000) (R:base<=d.heap.size)
 (H:a.eval s=v) (I:a.eval x=vS (τ d) 1 1)
 (h:∀g e w2,w2.ownsRow base 166 5 (vS (τ g) (c+1) e) (c+1) (A1 L++[.string f,vI n,vI j,vS ad z cap,.bool i])->(d.alloc (.cells (ζ f n j ad z cap i) 166)).grownBy w2 v.ownBlock->wpList Tryz.prog ops Q rest (a.put o.dst (vS (τ g) (c+1) e)) w2):
 wpList Tryz.prog ops Q (o::rest) a (ξ d (ζ f n j ad z cap i) 166):=by
 obtain⟨N,E,J,K,M⟩:=info_parts VD;refine wpList_append_lies _ D s x 33 G base 166 N (.agg #[ϊ,ω,ω,ψ,ϋ]) 5 64 underlying33 E J K M rfl Ϟ v c (A1 L) H
  (F.alloc _) ⟨d,0,none⟩ 1 1 [.string f,vI n,vI j,vS ad z cap,.bool i] I rfl (EA _ _ _ _ _ _ _) (by intro u A;simp at A;rcases A with rfl|rfl|rfl|rfl|rfl<;>rfl) Ϟ ϧ ϝ Ϣ (d.heap.size+1) ϟ ?_
 intro g e w2 B C O P;exact h g e w2 B C
theorem MD{α β:Type}(f:α->List β)(a:α):[a].flatMap f=f a:=ϟ
theorem WQ(h:m<l.length):(l.take (m+1)).getLast? =some (l.getD m ϰ):=by
 rw[L1 h,getLast?_append];rfl
theorem Jc{o:Obj}{i:Nat}(d:(w2.alloc o).grownBy w3 r)(h:∀g,r=some g->g≠q)(c:Δ w2 q i v):Δ w3 q i v:=by
 have f:q<w2.heap.size:=bLt _ _ c;exact(cOb (w:=w2) (a:=⟨q,i,none⟩) ((d.block q (by rw[World.size_alloc];omega) (λe=>h q e.symm rfl)).trans (Below.heap_alloc _ _ _ f))).trans c
theorem ME{o:Obj}{t:TypeId}(d:(w2.alloc o).grownBy w3 r)(h:∀g,r=some g->g≠q)(c:Ai w2 q t):Ai w3 q t:=by
 have f:=A2 c;exact A0 c ((d.block q (by rw[World.size_alloc];omega) (λe=>h q e.symm rfl)).trans (Below.heap_alloc _ _ _ f))
end jn
end Go.Proofs.YtfkihidbnfkbaaaGreatDoor
